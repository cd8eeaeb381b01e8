/- Texts of one seat, put together: ExprB ExprT ExprG ExprRt. -/
import Derived.Test.YtgohmojcopajoaaGreatDoorH20
import Derived.Test.YtgohmojcopajoaaGreatDoorH05
import Derived.Test.YtgohmojcopajoaaGreatDoorH04
set_option linter.unusedVariables false
set_option linter.unusedSimpArgs false
set_option maxRecDepth 100000
set_option maxHeartbeats 16000000
namespace Go.Proofs.YtgohmojcopajoaaGreatDoor.Ex
section
theorem Hz (i:Nat) (x:ByteArray) (r:List PT):AV x ((2,Ff i)::r)=decide (Ff i=x):=by simp[AV]
theorem TN (op:Nat) (h:op<6) (r:List PT):Si ((2,Ff op)::r)=some op:=by
 unfold Si;rw[show (fun i=>AV (Ff i) ((2,Ff op)::r))=fun i=>decide (Ff op=Ff i) from funext fun i=>Hz op (Ff i) r];have h6:op=0\/op=1\/op=2\/op=3\/op=4\/op=5:=by omega
 rcases h6 with rfl|rfl|rfl|rfl|rfl|rfl<;>decide +kernel
theorem TP (op:Nat) (h:op<6) (r:List PT):Ey ((2,Ff op)::r):=by
 unfold Ey;rw[Hz,Hz,Hz];have h6:op=0\/op=1\/op=2\/op=3\/op=4\/op=5:=by omega
 rcases h6 with rfl|rfl|rfl|rfl|rfl|rfl<;>exact ⟨by decide +kernel,by decide +kernel,by decide +kernel⟩
theorem TQ (kn:ByteArray->Bool) (l:List Mn) (op:Nat) (x:List Mn) (r:List PT) (hl:I9 l) (ho:op<6) (hx:I9 x) (kl:Lm kn l) (kx:Lm kn x) (hr:Ey r):IF kn (Gg l++(2,Ff op)::(Gg x++r))=.ok (.cmp l op x) r:=by
 unfold IF;rw[Nz kn l _ hl kl (TP op ho _)];dsimp only
 rw[TN op ho];dsimp only
 rw[List.tail_cons,Nz kn x r hx kx hr]
theorem EE (s:ByteArray) (c:UInt8) (hs:s≠⟨#[c]⟩) (r:List PT):AV ⟨#[c]⟩ ((1,s)::r)=false:=by
 cases hd:AV ⟨#[c]⟩ ((1,s)::r) with
 |false=>rfl
 |true=> have h2:(decide (s=⟨#[c]⟩)&&((1:Nat)==1 || (1:Nat)==2 || (1:Nat)==4))=true:=hd;rw[Bool.and_eq_true]at h2;exact absurd (of_decide_eq_true h2.1) hs
theorem Qf (s:ByteArray) (r:List PT):AV s ((1,s)::r)=true:=by simp[AV]
theorem Gu (kn:ByteArray->Bool) (lv:Nat) (t:Tr) (r:List PT) (h:AV ⟨#[38]⟩ r=false):As kn (.bothGo t) lv r=.ok t r:=by rw[Fq,if_neg (by rw[h];decide)]
end
section
def WF (r:List PT):Prop:=∀p∈r,p.1=3->Ea p.2=true
def YS (lv:Nat) (t:Tr):Prop:=if Bi t || AR t then 1<=lv/\right (lv-1) t else right lv t
def WJ (lv:Nat) (t:Tr):Prop:=if AR t then 1<=lv/\right (lv-1) t else right lv t
def ZH (lv:Nat):Md->Tr->Prop
 |.one,t=>YS lv t
 |.both,t=>WJ lv t
 |.bothGo _,t=>WJ lv t
 |.cond,t=>right lv t
 |.condGo _,t=>right lv t
def Y2 (kn:ByteArray->Bool) (lv:Nat):Md->Prop
 |.bothGo t=>WJ lv t/\knows kn t
 |.condGo t=>right lv t/\knows kn t
 |_=>True
end
end Go.Proofs.YtgohmojcopajoaaGreatDoor.Ex
namespace Go.Proofs.YtgohmojcopajoaaGreatDoor
section
open Lx Ex
def Ke (m:Mn):Bool:=!(decide (m.num=eS)&&decide (m.var=eS))&&(decide (m.num=eS) || Ea m.num)&&(decide (m.var=eS) || Cz m.var)
theorem Vr (m:Mn):Ke m=true↔OH m:=by
 unfold Ke OH;simp only[Bool.and_eq_true,Bool.or_eq_true,decide_eq_true_eq,Bool.not_eq_true',Bool.and_eq_false_imp,decide_eq_false_iff_not];constructor
 · rintro ⟨⟨h1,h2⟩,h3⟩;exact ⟨fun h=>h1 h.1 h.2,h2,h3⟩
 · rintro ⟨h1,h2,h3⟩;exact ⟨⟨fun h h'=>h1 ⟨h,h'⟩,h2⟩,h3⟩
def Bl (l:List Mn):Bool:=decide (1<=l.length)&&decide (l.length<=64)&&l.all Ke
theorem H2 (l:List Mn):Bl l=true↔I9 l:=by unfold Bl I9;simp only[Bool.and_eq_true,decide_eq_true_eq,List.all_eq_true,Vr,and_assoc]
def GT.kind:GT->Int|.mk k _ _ _ _ _ _=>k
def GT.kids:GT->List GT|.mk _ _ _ _ _ _ ks=>ks
def FG:GT->Bool|.mk _ l r op p q _=>decide (l.length=0)&&decide (r.length=0)&&decide (op=0)&&decide (p=eS)&&decide (q=eS)
def Kw:GT->Bool|.mk k l r op p q ks=>decide (k=2)&&decide (p=eS)&&decide (q=eS)&&decide (ks.length=0)&&decide (0<=op)&&decide (op<6)&&Bl l&&Bl r
def Bh (k kid:Int) (i:Nat):Bool:=if kid=5 then decide (k≠5) || decide (0<i) else if kid=4 then decide (k=3) || (decide (k=4)&&decide (0<i)) else false
def Cv (k:Int):Option Nat:=if k=0\/k=1 then some 0 else if k=3 then some 1 else if k=4\/k=5 then some 2 else none
mutual
def AF:GT->Int->Bool
 |.mk k l r op p q kids,lv=>if k=2 then Kw (.mk k l r op p q kids) else match Cv k with
  |none=>false
  |some n=>decide (kids.length=n)&&FG (.mk k l r op p q kids)&&BM kids k 0 (if k=3 then lv-1 else lv)
def BM:List GT->Int->Nat->Int->Bool
 |[],_,_,_=>true
 |t::ts,k,i,lv=>(decide (0<=(if Bh k t.kind i then lv-1 else lv))&&AF t (if Bh k t.kind i then lv-1 else lv))&&BM ts k (i+1) lv
end
theorem IA (u:Tr):Bi u=decide ((gt u).kind=4):=by cases u<;>first|rfl|(rename_i b;cases b<;>rfl)
theorem F6 (u:Tr):AR u=decide ((gt u).kind=5):=by cases u<;>first|rfl|(rename_i b;cases b<;>rfl)
theorem VT (u:Tr) (i:Nat):Bh 3 (gt u).kind i=(Bi u || AR u):=by
 rw[IA,F6];unfold Bh;by_cases h5:(gt u).kind=5
 · rw[h5];simp
 · by_cases h4:(gt u).kind=4
   · rw[h4];simp
   · simp[h4,h5]
theorem TR (u:Tr):Bh 4 (gt u).kind 0=AR u:=by
 rw[F6];unfold Bh;by_cases h5:(gt u).kind=5
 · rw[h5];simp
 · by_cases h4:(gt u).kind=4
   · rw[h4];simp
   · simp[h4,h5]
theorem TS (u:Tr):Bh 4 (gt u).kind 1=(Bi u || AR u):=by
 rw[IA,F6];unfold Bh;by_cases h5:(gt u).kind=5
 · rw[h5];simp
 · by_cases h4:(gt u).kind=4
   · rw[h4];simp
   · simp[h4,h5]
theorem TT (u:Tr):Bh 5 (gt u).kind 0=false:=by
 unfold Bh;by_cases h5:(gt u).kind=5
 · rw[h5];simp
 · by_cases h4:(gt u).kind=4
   · rw[h4];simp
   · simp[h4,h5]
theorem TU (u:Tr):Bh 5 (gt u).kind 1=AR u:=by
 rw[F6];unfold Bh;by_cases h5:(gt u).kind=5
 · rw[h5];simp
 · by_cases h4:(gt u).kind=4
   · rw[h4];simp
   · simp[h4,h5]
theorem Vs {c:Bool} {t:GT} {lv:Int} {P:Nat->Prop} (h:∀l:Nat,AF t (l:Int)=true↔P l):(decide (0<=(if c then lv-1 else lv))&&AF t (if c then lv-1 else lv))=true↔if c then 1<=lv/\P (lv-1).toNat else 0<=lv/\P lv.toNat:=by
 cases c
 · simp only[Bool.false_eq_true,if_false,Bool.and_eq_true,decide_eq_true_eq];constructor
   · rintro ⟨h1,h2⟩;exact ⟨h1,(h _).1 (by rw[Int.toNat_of_nonneg h1];exact h2)⟩
   · rintro ⟨h1,h2⟩;refine ⟨h1,?_⟩;have:=(h _).2 h2;rwa [Int.toNat_of_nonneg h1]at this
 · simp only[if_true,Bool.and_eq_true,decide_eq_true_eq];constructor
   · rintro ⟨h1,h2⟩;exact ⟨by omega,(h _).1 (by rw[Int.toNat_of_nonneg h1];exact h2)⟩
   · rintro ⟨h1,h2⟩;refine ⟨by omega,?_⟩;have:=(h _).2 h2;rwa [Int.toNat_of_nonneg (by omega)]at this
def Rk (t:GT) (k:Int) (i:Nat) (lv:Int):Bool:=decide (0<=(if Bh k t.kind i then lv-1 else lv))&&AF t (if Bh k t.kind i then lv-1 else lv)
theorem Ez (t:GT) (ts:List GT) (k:Int) (i:Nat) (lv:Int):BM (t::ts) k i lv=(Rk t k i lv&&BM ts k (i+1) lv):=by rw[BM];rfl
theorem EZ (k:Int) (i:Nat) (lv:Int):BM [] k i lv=true:=by rw[BM]
theorem Gh {t:GT} {k:Int} {i:Nat} {lv:Int} {P:Nat->Prop} (h:∀l:Nat,AF t (l:Int)=true↔P l):Rk t k i lv=true↔if Bh k t.kind i then 1<=lv/\P (lv-1).toNat else 0<=lv/\P lv.toNat:=Vs h
theorem Fa (u:Tr):∀lv:Nat,AF (gt u) (lv:Int)=true↔right lv u:=by
 have bare:∀(k:Int) (ks:List GT),FG (.mk k [] [] 0 ⟨#[]⟩ ⟨#[]⟩ ks)=true:=fun k ks=>by simp[FG,eS]
 induction u with
 |leaf b=>intro lv;cases b<;>simp[gt,AF,right,Cv,FG,BM,eS]
 |cmp l op r=>
  intro lv;rw[gt,AF,if_pos rfl,Kw,right,<-H2,<-H2];simp[eS];constructor
  · rintro ⟨⟨h1,h2⟩,h3⟩;exact ⟨h2,by omega,h3⟩
  · rintro ⟨h2,h1,h3⟩;exact ⟨⟨by omega,h2⟩,h3⟩
 |deny t ih=>
  intro lv;have e1:((lv:Int)-1).toNat=lv-1:=by omega
  have e2:((lv:Int)-1-1).toNat=lv-2:=by omega
  rw[gt,AF,if_neg (by decide),show Cv 3=some 1 from rfl];simp only[Ez,EZ,Bool.and_true,Bool.and_eq_true,if_true];rw[Gh ih,VT,right,e1,e2];cases Bi t || AR t
  · simp only[Bool.false_eq_true,if_false];exact ⟨fun h=>⟨by omega,h.2.2⟩,fun h=>⟨⟨rfl,bare _ _⟩,by omega,h.2⟩⟩
  · simp only[if_true];exact ⟨fun h=>⟨by omega,h.2.2⟩,fun h=>⟨⟨rfl,bare _ _⟩,by omega,h.2⟩⟩
 |both a b iha ihb=>
  intro lv;have e1:((lv:Int)-1).toNat=lv-1:=by omega
  have e2:((lv:Int)).toNat=lv:=by omega
  rw[gt,AF,if_neg (by decide),show Cv 4=some 2 from rfl];simp only[Ez,EZ,Bool.and_true,Bool.and_eq_true,Nat.zero_add];rw[if_neg (show ¬(4:Int)=3 by decide),Gh iha,Gh ihb,TR,TS,right,e1,e2];cases AR a<;>cases Bi b || AR b
  · simp only[Bool.false_eq_true,if_false];exact ⟨fun h=>⟨h.2.1.2,h.2.2.2⟩,fun h=>⟨⟨rfl,bare _ _⟩,⟨by omega,h.1⟩,⟨by omega,h.2⟩⟩⟩
  · simp only[Bool.false_eq_true,if_false,if_true];exact ⟨fun h=>⟨h.2.1.2,by omega,h.2.2.2⟩,fun h=>⟨⟨rfl,bare _ _⟩,⟨by omega,h.1⟩,⟨by omega,h.2.2⟩⟩⟩
  · simp only[Bool.false_eq_true,if_false,if_true];exact ⟨fun h=>⟨⟨by omega,h.2.1.2⟩,h.2.2.2⟩,fun h=>⟨⟨rfl,bare _ _⟩,⟨by omega,h.1.2⟩,⟨by omega,h.2⟩⟩⟩
  · simp only[if_true];exact ⟨fun h=>⟨⟨by omega,h.2.1.2⟩,by omega,h.2.2.2⟩,fun h=>⟨⟨rfl,bare _ _⟩,⟨by omega,h.1.2⟩,⟨by omega,h.2.2⟩⟩⟩
 |any a b iha ihb=>
  intro lv;have e1:((lv:Int)-1).toNat=lv-1:=by omega
  have e2:((lv:Int)).toNat=lv:=by omega
  rw[gt,AF,if_neg (by decide),show Cv 5=some 2 from rfl];simp only[Ez,EZ,Bool.and_true,Bool.and_eq_true,Nat.zero_add];rw[if_neg (show ¬(5:Int)=3 by decide),Gh iha,Gh ihb,TT,TU,right,e1,e2];cases AR b
  · simp only[Bool.false_eq_true,if_false];exact ⟨fun h=>⟨h.2.1.2,h.2.2.2⟩,fun h=>⟨⟨rfl,bare _ _⟩,⟨by omega,h.1⟩,⟨by omega,h.2⟩⟩⟩
  · simp only[Bool.false_eq_true,if_false,if_true];exact ⟨fun h=>⟨h.2.1.2,by omega,h.2.2.2⟩,fun h=>⟨⟨rfl,bare _ _⟩,⟨by omega,h.1⟩,⟨by omega,h.2.2⟩⟩⟩
theorem H4 {α:Type} {l:List α} (h:l.length=0):l=[]:=List.eq_nil_of_length_eq_zero h
theorem N0 (Z:Nat):∀(t:GT) (lv:Int),SizeOf.sizeOf t<=Z->AF t lv=true->∃u,t=gt u:=by
 induction Z with
 |zero=>intro t lv hz;obtain ⟨k,l,r,op,p,q,ks⟩:=t;simp at hz
 |succ Z ih=>
  intro t lv hz h;obtain ⟨k,l,r,op,p,q,ks⟩:=t;rw[AF]at h;by_cases h2:k=2
  · rw[if_pos h2,Kw]at h;simp only[Bool.and_eq_true,decide_eq_true_eq]at h;obtain ⟨⟨⟨⟨⟨⟨⟨-,hp⟩,hq⟩,hk⟩,h0⟩,h6⟩,-⟩,-⟩:=h;refine ⟨.cmp l op.toNat r,?_⟩;rw[gt,h2,hp,hq,H4 hk,Int.toNat_of_nonneg h0];rfl
  · rw[if_neg h2]at h;have bare:FG (.mk k l r op p q ks)=true->l=[]/\r=[]/\op=0/\p=eS/\q=eS:=fun hb=>by
      rw[FG]at hb;simp only[Bool.and_eq_true,decide_eq_true_eq]at hb;exact ⟨H4 hb.1.1.1.1,H4 hb.1.1.1.2,hb.1.1.2,hb.1.2,hb.2⟩
    have kid:∀x∈ks,SizeOf.sizeOf x<=Z:=fun x hx=>by have:=List.sizeOf_lt_of_mem hx;simp at hz;omega
    by_cases h01:k=0\/k=1
    · rw[show Cv k=some 0 from by unfold Cv;rw[if_pos h01]]at h;simp only[Bool.and_eq_true,decide_eq_true_eq]at h;obtain ⟨e1,e2,e3,e4,e5⟩:=bare h.1.2;refine ⟨.leaf (decide (k=0)),?_⟩;rw[gt,e1,e2,e3,e4,e5,H4 h.1.1];rcases h01 with rfl|rfl<;>rfl
    · by_cases h3:k=3
      · rw[show Cv k=some 1 from by rw[h3];rfl]at h;simp only[Bool.and_eq_true,decide_eq_true_eq]at h;obtain ⟨e1,e2,e3,e4,e5⟩:=bare h.1.2;obtain ⟨a,rfl⟩:=List.length_eq_one_iff.1 h.1.1;have hk:=h.2;simp only[BM,Bool.and_true,Bool.and_eq_true]at hk;obtain ⟨u,rfl⟩:=ih a _ (kid a (by simp)) hk.2;exact ⟨.deny u,by rw[gt,e1,e2,e3,e4,e5,h3];rfl⟩
      · by_cases h45:k=4\/k=5
        · rw[show Cv k=some 2 from by unfold Cv;rw[if_neg h01,if_neg h3,if_pos h45]]at h;simp only[Bool.and_eq_true,decide_eq_true_eq]at h;obtain ⟨e1,e2,e3,e4,e5⟩:=bare h.1.2;have hl:=h.1.1;match ks,hl with
          |[a,b],_=>
           have hk:=h.2;simp only[BM,Bool.and_true,Bool.and_eq_true]at hk;obtain ⟨u,rfl⟩:=ih a _ (kid a (by simp)) hk.1.2;obtain ⟨v,rfl⟩:=ih b _ (kid b (by simp)) hk.2.2;rcases h45 with rfl|rfl
           · exact ⟨.both u v,by rw[gt,e1,e2,e3,e4,e5];rfl⟩
           · exact ⟨.any u v,by rw[gt,e1,e2,e3,e4,e5];rfl⟩
        · rw[show Cv k=none from by unfold Cv;rw[if_neg h01,if_neg h3,if_neg h45]]at h;cases h
theorem TW {t:GT} {lv:Nat} (h:AF t (lv:Int)=true):∃u,t=gt u/\right lv u:=by obtain ⟨u,rfl⟩:=N0 _ t _ (Nat.le_refl _) h;exact ⟨u,rfl,(Fa u lv).1 h⟩
end
section
open Go.RowKit
open Lx Ex
def Av (b:Bool) (w:World) (e:Ending) (w':World):Prop:=e=.returned (.bool b)/\Below w.heap.size w w'
theorem Qh:(eS.toList:List UInt8)=[]:=by rw[Lib.toList_data];rfl
theorem Dw {s:ByteArray} (h:s=eS):(s.toList==([]:List UInt8))=true:=by rw[h,Qh];rfl
theorem Cr {s:ByteArray} (h:s≠eS):(s.toList==([]:List UInt8))=false:=by
 rw[beq_eq_false_iff_ne];intro e;apply h;rw[Lib.toList_data]at e;cases s with
 |mk d=>cases d with
  |mk l=>simp at e;rw[e];rfl
theorem Rl (m:Mn) (w0:World) (hn:m.num.size<=4611686018427387904) (hv:m.var.size<=4611686018427387904):Calls Tryz.prog 39 #[.agg #[.bool m.neg,.string m.num,.string m.var]] w0 (Av (Ke m) w0):=by
 obtain ⟨x1,hb,-⟩:=Ap 88 w0 #[.bool m.neg,.string m.num,.string m.var];have c1:=x1.cell 1 _ rfl;have c2:=x1.cell 2 _ rfl;have HB:=Aa hb;have X1:=Aa x1;have HN:=Aa (fun W=>Jn m.num W hn);have HV:=Aa (fun W=>M9 m.var W hv);unfold Jl at HN HV;have HNE:=Aa (show Sg 3 m.num=Ea m.num from number_eq _);have HVE:=Aa (show (Sg 1 m.var&&!LM m.var)=Cz m.var from PM _);have HNN:=Aa (fun W=>HNE.out▸HN.out W);have HVV:=Aa (fun W=>HVE.out▸HV.out W)
 obtain ⟨neg,num,var,hm⟩:∃neg num var,m=⟨num,var,neg⟩:=⟨m.neg,m.num,m.var,by cases m;rfl⟩;subst hm;clear hb x1 hn hv HN HV HNE HVE;by_cases hn:num=eS
 · by_cases hv:var=eS
   · have hn1:=Dw hn;have hv1:=Dw hv;have HE:=Aa (show Ke ⟨num,var,neg⟩=false from by simp[Ke,hn,hv]);clear hn hv;go_enter Tryz.func39,Tryz.ntmps39;go_wp2_with fail;go_ret
     exact ⟨by rw[HE.out];rfl,HB.out⟩
   · have hn1:=Dw hn;have hv1:=Cr hv;have HE:=Aa (show Ke ⟨num,var,neg⟩=Cz var from by simp[Ke,hn,hv]);clear hn hv;go_enter Tryz.func39,Tryz.ntmps39;go_wp2_with fail;refine (HVV.out _).mono ?_;rintro e w2 ⟨rfl,b2⟩;have HB2:=Aa (HB.out.next b2);clear b2;go_wp2_with fail;go_ret
     exact ⟨by rw[HE.out];rfl,HB2.out⟩
 · by_cases hv:var=eS
   · have hn1:=Cr hn;have hv1:=Dw hv;have HE:=Aa (show Ke ⟨num,var,neg⟩=(Ea num&&true) from by simp[Ke,hn,hv]);clear hn hv;go_enter Tryz.func39,Tryz.ntmps39;go_wp2_with fail;refine (HNN.out _).mono ?_;rintro e w2 ⟨rfl,b2⟩;have HB2:=Aa (HB.out.next b2);have c1:=(X1.out.next b2).cell 1 _ rfl;have c2:=(X1.out.next b2).cell 2 _ rfl;clear b2;have HE:=Aa HE.out;generalize Ea num=rn at *;cases rn
     · go_wp2_with fail;go_ret
       exact ⟨by rw[HE.out];rfl,HB2.out⟩
     · go_wp2_with fail;go_ret
       exact ⟨by rw[HE.out];rfl,HB2.out⟩
   · have hn1:=Cr hn;have hv1:=Cr hv;have HE:=Aa (show Ke ⟨num,var,neg⟩=(Ea num&&Cz var) from by simp[Ke,hn,hv]);clear hn hv;go_enter Tryz.func39,Tryz.ntmps39;go_wp2_with fail;refine (HNN.out _).mono ?_;rintro e w2 ⟨rfl,b2⟩;have HB2:=Aa (HB.out.next b2);have c1:=(X1.out.next b2).cell 1 _ rfl;have c2:=(X1.out.next b2).cell 2 _ rfl;clear b2;have HE:=Aa HE.out;generalize Ea num=rn at *;cases rn
     · go_wp2_with fail;go_ret
       exact ⟨by rw[HE.out];rfl,HB2.out⟩
     · go_wp2_with fail;refine (HVV.out _).mono ?_;rintro e w3 ⟨rfl,b3⟩;have HB3:=Aa (HB2.out.next b3);clear b3;go_wp2_with fail;go_ret
       exact ⟨by rw[HE.out];rfl,HB3.out⟩
end
end Go.Proofs.YtgohmojcopajoaaGreatDoor
