/- Texts of one seat, put together: TidyM TidyN TidyO TidyR. -/
import Derived.Test.YtmedjkhmadfjlaaGreatR25
import Derived.Test.YtmedjkhmadfjlaaGreatR30
set_option linter.unusedVariables false
set_option linter.unusedSimpArgs false
set_option maxRecDepth 100000
set_option maxHeartbeats 16000000
namespace Go.Proofs.YtmedjkhmadfjlaaGreat
section
open Tm
structure Dq {α:Type} (cf:α->α->Int):Prop where
 refl:∀x,cf x x=0
 neg:∀x y,cf y x=- cf x y
 trans:∀x y z,cf x y<=0->cf y z<=0->cf x z<=0
theorem Dq.on {α β:Type} {cf:α->α->Int} (h:Dq cf) (f:β->α):Dq (fun x y=>cf (f x) (f y)):=⟨fun x=>h.refl _,fun x y=>h.neg _ _,fun x y z=>h.trans _ _ _⟩
theorem O5 {a b:Int}:E4 a b<=0↔a<0\/(a=0/\b<=0):=by unfold E4;split<;>omega
theorem Dq.lt_le {α:Type} {cf:α->α->Int} (h:Dq cf) {x y z:α} (h1:cf x y<0) (h2:cf y z<=0):cf x z<0:=by
 have h3:=h.trans x y z (by omega) h2;by_cases h4:cf x z=0
 · have h5:=h.neg x z;have h6:=h.trans y z x h2 (by omega);have h7:=h.neg x y;omega
 · omega
theorem Dq.le_lt {α:Type} {cf:α->α->Int} (h:Dq cf) {x y z:α} (h1:cf x y<=0) (h2:cf y z<0):cf x z<0:=by
 have h3:=h.trans x y z h1 (by omega);by_cases h4:cf x z=0
 · have h5:=h.neg x z;have h6:=h.trans z x y (by omega) h1;have h7:=h.neg y z;omega
 · omega
theorem Dq.or {α:Type} {cf cg:α->α->Int} (h:Dq cf) (g:Dq cg):Dq (fun x y=>E4 (cf x y) (cg x y)) where
 refl x:=by simp[E4,h.refl,g.refl]
 neg x y:=by show E4 (cf y x) (cg y x)=- E4 (cf x y) (cg x y);rw[h.neg x y,g.neg x y];unfold E4;split<;>split<;>omega
 trans x y z h1 h2:=by
  rw[O5]at *;have:=h.trans x y z;have:=g.trans x y z;rcases h1 with h1|⟨h1,h1'⟩
  · left
    rcases h2 with h2|⟨h2,h2'⟩
    · exact h.lt_le h1 (by omega)
    · exact h.lt_le h1 (by omega)
  · rcases h2 with h2|⟨h2,h2'⟩
    · left
      exact h.le_lt (by omega) h2
    · have:=this h1' h2';have h3:=h.trans x y z (by omega) (by omega);by_cases h4:cf x z=0
      · right;exact ⟨h4,by assumption⟩
      · left;omega
theorem Dc:Dq AP where
 refl x:=CE.2 rfl
 neg x y:=JI x y
 trans x y z h1 h2:=by
  unfold AP at *;repeat' split at h1
  all_goals (repeat' split at h2)
  all_goals (repeat' split)
  all_goals omega
theorem Kh:∀(a b c:List (Int×Int)),cmpL a b<=0->cmpL b c<=0->cmpL a c<=0
 |[],_,[],_,_=>by simp[cmpL]
 |[],_,_::_,_,_=>by simp[cmpL]
 |_::_,[],_,h,_=>by simp[cmpL]at h
 |_::_,_::_,[],_,h=>by simp[cmpL]at h
 |(u,c)::a,(v,d)::b,(w,e)::x,h1,h2=>by
  have ih:=Kh a b x;have e1:∀(p q r s:Int) (l m:List (Int×Int)),cmpL ((p,q)::l) ((r,s)::m)=E4 (AP p r) (E4 (AP q s) (cmpL l m)):=by intro p q r s l m;rw[cmpL];unfold E4;rfl
  rw[e1,O5,O5]at *;have t1:=Dc.trans u v w;have t2:=Dc.trans c d e;rcases h1 with h1|⟨h1,h1'|⟨h1',h1''⟩⟩
  · left;exact Dc.lt_le h1 (by omega)
  · rcases h2 with h2|⟨h2,h2'⟩
    · left;exact Dc.le_lt (by omega) h2
    · right
      rw[CE]at h1 h2;refine ⟨by rw[h1,h2];exact Dc.refl _,.inl (Dc.lt_le h1' (by omega))⟩
  · rcases h2 with h2|⟨h2,h2'|⟨h2',h2''⟩⟩
    · left;exact Dc.le_lt (by omega) h2
    · right
      rw[CE]at h1 h2;refine ⟨by rw[h1,h2];exact Dc.refl _,.inl (Dc.le_lt (by omega) h2')⟩
    · right
      rw[CE]at h1 h2 h1' h2';refine ⟨by rw[h1,h2];exact Dc.refl _,.inr ⟨by rw[h1',h2'];exact Dc.refl _,ih h1'' h2''⟩⟩
theorem Dd:Dq cmpL:=⟨fun x=>DK.2 rfl,fun x y=>MW x y,Kh⟩
abbrev R3:=List (Int×Int)×Int×Bool
def Eg (x y:R3):Int:=O3 x.1 y.1 x.2.1 y.2.1 x.2.2 y.2.2
theorem Hu:Dq Eg:=by
 have h1:Dq (fun x y:R3=>cmpL (norm x.1) (norm y.1)):=Dd.on fun x:R3=>norm x.1
 have h2:Dq (fun x y:R3=>AP x.2.1 y.2.1):=Dc.on fun x:R3=>x.2.1
 have h3:Dq (fun x y:R3=>Fe x.2.2-Fe y.2.2):=⟨fun x=>by omega,fun x y=>by omega,fun x y z a b=>by omega⟩;exact (h1.or h2).or h3
theorem L0 {x y:R3} (hx:norm x.1=x.1) (hy:norm y.1=y.1) (h:Eg x y=0):x=y:=by
 obtain ⟨L,K,e⟩:=x;obtain ⟨M,J,f⟩:=y;simp only[Eg,O3,Hl,E4]at h;dsimp only at hx hy
 rw[hx,hy]at h;by_cases h1:cmpL L M=0
 · by_cases h2:AP K J=0
   · rw[DK]at h1;rw[CE]at h2;subst h1 h2;have h3:Fe e=Fe f:=by
      simp[DK.2,CE.2]at h;omega
     cases e<;>cases f<;>first|rfl|(exfalso;revert h3;decide)
   · simp[h1,h2]at h
 · simp[h1]at h
def Wr (us:List Int) (r:R3):Bool:=Dh r.2.2 (r.2.1+val us r.1)
structure Bd where
 S:List (Int×Int)
 lo:Option Int
 hi:Option Int
def WO (b:Bd) (z:Int):Prop:=(∀x,b.lo=some x->x<=z)/\(∀x,b.hi=some x->z<=x)
def AX (r:R3):Bd:=if lead r.1<0 then ⟨AZ r.1,none,some r.2.1⟩ else ⟨r.1,some (-r.2.1),if r.2.2=true then some (-r.2.1) else none⟩
def TW (a b:Int):Int:=if a<b then b else a
def TX (a b:Int):Int:=if b<a then b else a
def strict (f:Int->Int->Int):Option Int->Option Int->Option Int
 |none,b=>b
 |some x,none=>some x
 |some x,some y=>some (f x y)
def Dy (a b:Bd):Bd:=⟨a.S,strict TW a.lo b.lo,strict TX a.hi b.hi⟩
theorem Qx (a b:Option Int) (z:Int):(∀x,strict TW a b=some x->x<=z)↔(∀x,a=some x->x<=z)/\(∀x,b=some x->x<=z):=by
 cases a<;>cases b<;>simp[strict]
 unfold TW;split<;>omega
theorem Qy (a b:Option Int) (z:Int):(∀x,strict TX a b=some x->z<=x)↔(∀x,a=some x->z<=x)/\(∀x,b=some x->z<=x):=by
 cases a<;>cases b<;>simp[strict]
 unfold TX;split<;>omega
def pushB (r:List Bd) (b:Bd):List Bd:=
 match r.getLast? with
 |some x=>if x.S=b.S then r.dropLast++[Dy x b] else r++[b]
 |none=>[b]
theorem Gp (b:Bd):pushB [] b=[b]:=rfl
theorem Dj (r:List Bd) (x b:Bd):pushB (r++[x]) b=if x.S=b.S then r++[Dy x b] else r++[x]++[b]:=by unfold pushB;simp
def Ci (bs:List Bd):List Bd:=bs.foldl pushB []
theorem O6 (bs:List Bd) (b:Bd):Ci (bs++[b])=pushB (Ci bs) b:=by simp[Ci]
def O7 (r:List Bd):Prop:=r.Pairwise fun a b=>cmpL a.S b.S<0
theorem Ki (r:List Bd) (b:Bd):∃x,(pushB r b).getLast?=some x/\x.S=b.S:=by
 rcases List.eq_nil_or_concat r with rfl|⟨r,x,rfl⟩
 · exact ⟨b,rfl,rfl⟩
 · rw[List.concat_eq_append,Dj];split
   · rename_i h;exact ⟨Dy x b,by simp,h⟩
   · exact ⟨b,by simp,rfl⟩
theorem Nt {r:List Bd} {b:Bd} (h:O7 r) (hl:∀x,r.getLast?=some x->cmpL x.S b.S<=0):O7 (pushB r b):=by
 unfold O7 at *;rcases List.eq_nil_or_concat r with rfl|⟨r,x,rfl⟩
 · simp[Gp]
 · rw[List.concat_eq_append]at *;rw[Dj];rw[List.pairwise_append]at h;obtain ⟨h1,h2,h3⟩:=h;by_cases he:x.S=b.S
   · rw[if_pos he,List.pairwise_append];refine ⟨h1,by simp,fun a ha c hc=>?_⟩;rw[List.mem_singleton]at hc;subst hc;exact h3 a ha x (by simp)
   · rw[if_neg he,List.pairwise_append];have hx:=hl x (by simp);have hx':cmpL x.S b.S<0:=by
       by_cases h0:cmpL x.S b.S=0
       · exact absurd (DK.1 h0) he
       · omega
     refine ⟨List.pairwise_append.2 ⟨h1,by simp,h3⟩,by simp,fun a ha c hc=>?_⟩;rw[List.mem_singleton]at hc;subst hc;rcases List.mem_append.1 ha with ha|ha
     · exact Dd.lt_le (h3 a ha x (by simp)) (by omega)
     · rw[List.mem_singleton]at ha;subst ha;exact hx'
def CF (bs:List Bd):Prop:=bs.Pairwise fun a b=>cmpL a.S b.S<=0
theorem Ec {bs:List Bd} (h:CF bs):O7 (Ci bs):=by
 have key:∀(l r:List Bd),CF l->O7 r->(∀x,r.getLast?=some x->∀b∈l,cmpL x.S b.S<=0)->O7 (l.foldl pushB r):=by
  intro l;induction l with
  |nil=>intro r _ hr _;exact hr
  |cons b l ih=>
   intro r hl hr hx;unfold CF at hl;rw[List.pairwise_cons]at hl;rw[List.foldl_cons];refine ih _ hl.2 (Nt hr fun x h=>hx x h b (by simp)) fun x h c hc=>?_
   obtain ⟨y,hy,hs⟩:=Ki r b;rw[hy]at h;injection h with h
   subst h;rw[hs];exact hl.1 c hc
 exact key bs [] h List.Pairwise.nil (fun x h=>by simp at h)
theorem Qz {r:List Bd} {b c:Bd} (P:Bd->Prop) (hp:∀x y,P x->P y->x.S=y.S->P (Dy x y)) (hr:∀c∈r,P c) (hb:P b) (h:c∈pushB r b):P c:=by
 rcases List.eq_nil_or_concat r with rfl|⟨r,x,rfl⟩
 · rw[Gp,List.mem_singleton]at h;subst h;exact hb
 · rw[List.concat_eq_append]at *;rw[Dj]at h;split at h
   · rename_i he
     rcases List.mem_append.1 h with h|h
     · exact hr c (List.mem_append.2 (.inl h))
     · rw[List.mem_singleton]at h;subst h;exact hp _ _ (hr x (by simp)) hb he
   · rcases List.mem_append.1 h with h|h
     · exact hr c h
     · rw[List.mem_singleton]at h;subst h;exact hb
theorem Gq {bs:List Bd} (P:Bd->Prop) (hp:∀x y,P x->P y->x.S=y.S->P (Dy x y)) (hb:∀c∈bs,P c):∀c∈Ci bs,P c:=by
 have key:∀(l r:List Bd),(∀c∈r,P c)->(∀c∈l,P c)->∀c∈l.foldl pushB r,P c:=by
  intro l;induction l with
  |nil=>intro r hr _;exact hr
  |cons b l ih=> intro r hr hl;rw[List.foldl_cons];exact ih _ (fun c hc=>Qz P hp hr (hl b (by simp)) hc) (fun c hc=>hl c (by simp[hc]))
 exact key bs [] (by simp) hb
def BN (b:Bd):Option (List R3):=
 match b.lo,b.hi with
 |some x,some y=>if y<x then none else if x=y then some [(b.S,-x,true)] else some [(b.S,-x,false),(AZ b.S,y,false)]
 |some x,none=>some [(b.S,-x,false)]
 |none,some y=>some [(AZ b.S,y,false)]
 |none,none=>some []
end
section
open Tm
def tk (r:R3):Int:=AR r.1 r.2.1 r.2.2
def tt (r:R3):R3:=(K9 r.1 r.2.1 r.2.2,Mk r.1 r.2.1 r.2.2,FG r.1 r.2.1 r.2.2)
theorem Nu (r:R3):tk r=0\/tk r=1\/tk r=-1:=by
 unfold tk AR;repeat' split
 all_goals simp
def QT (r:R3):Prop:=norm r.1=r.1/\r.1≠[]/\(lead r.1<0->r.2.2=false)
theorem DR (n:Int) (L:List (Int×Int)):lead (L.map fun p=>(p.1,n*p.2))=n*lead L:=by cases L<;>simp[lead]
theorem Gr {L:List (Int×Int)} (h:norm L=L) (hn:L≠[]):lead L≠0:=by
 have hp:=Cj L;rw[h]at hp;cases L with
 |nil=>exact absurd rfl hn
 |cons p ps=>exact hp.2.1
theorem Ff {r:R3} (h:tk r=0):QT (tt r):=by
 obtain ⟨L,K,e⟩:=r;unfold tk at h;unfold QT tt;dsimp only at h ⊢
 have hn:norm L≠[]:=by intro hn;rw[EG hn]at h;split at h<;>simp at h
 have hq:Ce (Ak L) (norm L)≠[]:=by intro hh;apply hn;unfold Ce at hh;simpa using hh
 by_cases hf:Cp L e=true
 · obtain ⟨e1,e2,e3⟩:=Hr h hf;rw[e1,e3];refine ⟨FW L,by simpa using hq,fun hl=>?_⟩;rw[DR]at hl;unfold Cp at hf;simp at hf;omega
 · obtain ⟨e1,e2,e3⟩:=Ey h (by simpa using hf);rw[e1,e3];refine ⟨FV L,hq,fun hl=>?_⟩;unfold Cp at hf;simp at hf;cases e
   · rfl
   · have:=hf rfl;omega
def Nv (b:Bd):Prop:=norm b.S=b.S/\0<lead b.S/\(b.lo.isSome=true\/b.hi.isSome=true)
theorem Cd {L:List (Int×Int)} (h:norm L=L):AZ L=L.map fun p=>(p.1,-1*p.2):=by unfold AZ;rw[Fv (by decide),h]
theorem CM (L:List (Int×Int)):norm (AZ L)=AZ L:=Gg _
theorem Nw {r:R3} (h:QT r):Nv (AX r):=by
 obtain ⟨L,K,e⟩:=r;obtain ⟨h1,h2,h3⟩:=h;dsimp only at h1 h2 h3
 have h0:=Gr h1 h2;unfold AX Nv;dsimp only
 by_cases hl:lead L<0
 · rw[if_pos hl];refine ⟨CM L,?_,.inr rfl⟩;dsimp only
   rw[Cd h1,DR];omega
 · rw[if_neg hl];exact ⟨h1,by dsimp only;omega,.inl rfl⟩
theorem I0 (f:Int->Int->Int) (a b:Option Int):(strict f a b).isSome=(a.isSome || b.isSome):=by cases a<;>cases b<;>rfl
theorem Kj {a b:Bd} (h:Nv a) (_:Nv b):Nv (Dy a b):=by
 obtain ⟨h1,h2,h3⟩:=h;refine ⟨h1,h2,?_⟩;unfold Dy;dsimp only
 rw[I0,I0];rcases h3 with h3|h3<;>simp[h3]
def TY (b:Bd):Nat:=((BN b).getD []).length
theorem Pv (b:Bd):TY b<=2:=by
 obtain ⟨S,lo,hi⟩:=b;unfold TY BN;dsimp only
 cases lo<;>cases hi<;>dsimp only
 · simp
 · simp
 · simp
 · split
   · simp
   · split<;>simp
def S5 (b:Bd):Nat:=if b.lo.isSome&&b.hi.isSome&&decide (b.lo≠b.hi) then 2 else 1
theorem S6 (b:Bd):1<=S5 b:=by unfold S5;split<;>decide
theorem VJ (b:Bd):S5 b<=2:=by unfold S5;split<;>decide
theorem TZ (r:R3):S5 (AX r)=1:=by
 unfold AX S5;split
 · rfl
 · cases r.2.2<;>simp
def Kk (r:List Bd):Nat:=(r.map S5).sum
theorem Q3 (r:List Bd) (b:Bd) (hb:S5 b=1):Kk (pushB r b)<=Kk r+1:=by
 rcases List.eq_nil_or_concat r with rfl|⟨r,x,rfl⟩
 · simp[Gp,Kk,hb]
 · rw[List.concat_eq_append,Dj];have h1:=S6 x;have h2:=VJ (Dy x b);split
   · simp[Kk];omega
   · simp[Kk,hb];omega
theorem Q4 (bs:List Bd) (h:∀b∈bs,S5 b=1):Kk (Ci bs)<=bs.length:=by
 have key:∀(l r:List Bd),(∀b∈l,S5 b=1)->Kk (l.foldl pushB r)<=Kk r+l.length:=by
  intro l;induction l with
  |nil=>intro r _;simp
  |cons b l ih=> intro r hl;rw[List.foldl_cons];have h1:=ih (pushB r b) (fun c hc=>hl c (by simp[hc]));have h2:=Q3 r b (hl b (by simp));rw[List.length_cons];omega
 have:=key bs [] h;simpa[Ci,Kk] using this
def F8 (bs:List Bd):List R3:=(bs.map fun b=>(BN b).getD []).flatten
theorem Kl {b:Bd} {rs:List R3} {r:R3} (hb:Nv b) (h:BN b=some rs) (hr:r∈rs):norm r.1=r.1/\((r.1=b.S/\0<lead r.1)\/(r.1=AZ b.S/\lead r.1<0/\r.2.2=false)):=by
 obtain ⟨S,lo,hi⟩:=b;obtain ⟨h1,h2,-⟩:=hb;dsimp only at h1 h2
 have h3:lead (AZ S)<0:=by rw[Cd h1,DR];omega
 have h4:=CM S;unfold BN at h;dsimp only at h ⊢
 cases lo<;>cases hi<;>dsimp only at h
 · cases h;simp at hr
 · cases h
   rw[List.mem_singleton]at hr;subst hr;exact ⟨h4,.inr ⟨rfl,h3,rfl⟩⟩
 · cases h
   rw[List.mem_singleton]at hr;subst hr;exact ⟨h1,.inl ⟨rfl,h2⟩⟩
 · split at h
   · cases h
   · split at h
     · cases h
       rw[List.mem_singleton]at hr;subst hr;exact ⟨h1,.inl ⟨rfl,h2⟩⟩
     · cases h
       simp only[List.mem_cons,List.not_mem_nil,or_false]at hr;rcases hr with rfl|rfl
       · exact ⟨h1,.inl ⟨rfl,h2⟩⟩
       · exact ⟨h4,.inr ⟨rfl,h3,rfl⟩⟩
theorem Nx {a b:List (Int×Int)} (ha:norm a=a) (hb:norm b=b) (h:AZ a=AZ b):a=b:=by rw[Cd ha,Cd hb]at h;have h2:=congrArg (List.map fun p:Int×Int=>(p.1,-1*p.2)) h;simpa[List.map_map,Function.comp_def] using h2
theorem Km {bs:List Bd} (hu:O7 bs) (hok:∀b∈bs,Nv b) (hs:∀b∈bs,BN b≠none):(F8 bs).Pairwise fun a b=>a.1≠b.1:=by
 induction bs with
 |nil=>exact List.Pairwise.nil
 |cons b bs ih=>
  unfold O7 at hu;rw[List.pairwise_cons]at hu;have ih:=ih hu.2 (fun c hc=>hok c (by simp[hc])) (fun c hc=>hs c (by simp[hc]));unfold F8 at *;simp only[List.map_cons,List.flatten_cons];rw[List.pairwise_append];obtain ⟨rs,hrs⟩:=Option.ne_none_iff_exists'.1 (hs b (by simp));have hb:=hok b (by simp);rw[hrs,Option.getD_some];refine ⟨?_,ih,?_⟩
  · obtain ⟨S,lo,hi⟩:=b;unfold BN at hrs;dsimp only at hrs
    have h3:lead (AZ S)<0:=by have h0:norm S=S:=hb.1;have h9:0<lead S:=hb.2.1;rw[Cd h0,DR];omega
    have h5:=hb.2.1;dsimp only at h5
    cases lo<;>cases hi<;>dsimp only at hrs
    · cases hrs;simp
    · cases hrs;simp
    · cases hrs;simp
    · split at hrs
      · cases hrs
      · split at hrs
        · cases hrs;simp
        · cases hrs
          simp;intro hh;rw[<-hh]at h3;omega
  · intro x hx y hy hxy;obtain ⟨l,hl,hy⟩:=List.mem_flatten.1 hy;obtain ⟨c,hc,rfl⟩:=List.mem_map.1 hl;obtain ⟨rs',hrs'⟩:=Option.ne_none_iff_exists'.1 (hs c (by simp[hc]));rw[hrs',Option.getD_some]at hy;have hcok:=hok c (by simp[hc]);obtain ⟨-,h1⟩:=Kl hb hrs hx;obtain ⟨-,h2⟩:=Kl hcok hrs' hy;have hlt:=hu.1 c hc;have hne:b.S≠c.S:=fun hh=>by rw[hh,Dd.refl]at hlt;omega
    rw[hxy]at h1;rcases h1 with ⟨h1,h1'⟩|⟨h1,h1',-⟩
    · rcases h2 with ⟨h2,h2'⟩|⟨h2,h2',-⟩
      · exact hne (h1.symm.trans h2)
      · omega
    · rcases h2 with ⟨h2,h2'⟩|⟨h2,h2',-⟩
      · omega
      · exact hne (Nx hb.1 hcok.1 (h1.symm.trans h2))
def Cq (rs:List R3):List Bd:=(rs.filter fun r=>decide (tk r=0)).map fun r=>AX (tt r)
def I1 (rs:List R3):Option (List R3)->Prop
 |none=>(∃r∈rs,tk r=-1)\/∃bs:List Bd,bs.Perm (Cq rs)/\CF bs/\∃b∈Ci bs,BN b=none
 |some out=>(∀r∈rs,tk r≠-1)/\∃bs:List Bd,bs.Perm (Cq rs)/\CF bs/\(∀b∈Ci bs,BN b≠none)/\out.Perm (F8 (Ci bs))/\out.Pairwise fun a b=>Eg a b<=0
theorem Gs (rs:List R3):∀b∈Cq rs,Nv b/\S5 b=1:=by intro b hb;obtain ⟨r,hr,rfl⟩:=List.mem_map.1 hb;obtain ⟨-,h2⟩:=List.mem_filter.1 hr;exact ⟨Nw (Ff (by simpa using h2)),TZ _⟩
theorem GQ {rs out:List R3} (h:I1 rs (some out)):out.Pairwise fun a b=>Eg a b<0:=by
 obtain ⟨hk,bs,hp,hs,hn,ho,hc⟩:=h;have hok:∀b∈Ci bs,Nv b:=Gq Nv (fun x y hx hy _=>Kj hx hy) (fun b hb=>(Gs rs b (hp.mem_iff.1 hb)).1);have hd:=Km (Ec hs) hok hn;have hd2:out.Pairwise fun a b=>a.1≠b.1:=(ho.pairwise_iff (R:=fun a b:R3=>a.1≠b.1) (fun h h2=>h h2.symm)).2 hd
 have hnn:∀r∈out,norm r.1=r.1:=by intro r hr;obtain ⟨l,hl,hr⟩:=List.mem_flatten.1 (ho.mem_iff.1 hr);obtain ⟨b,hb,rfl⟩:=List.mem_map.1 hl;obtain ⟨l,hl⟩:=Option.ne_none_iff_exists'.1 (hn b hb);rw[hl,Option.getD_some]at hr;exact (Kl (hok b hb) hl hr).1
 have h2:=hc.and hd2;refine List.Pairwise.imp_of_mem (fun {a b} ha hb hh=>?_) h2;obtain ⟨h3,h4⟩:=hh;by_cases h0:Eg a b=0
 · exact absurd (congrArg Prod.fst (L0 (hnn a ha) (hnn b hb) h0)) h4
 · omega
end
section
open Tm
theorem FX {α:Type} {lt:α->α->Prop} (hi:∀x,¬lt x x) (ht:∀x y z,lt x y->lt y z->lt x z):∀{l m:List α},l.Pairwise lt->m.Pairwise lt->(∀x,x∈l↔x∈m)->l=m
 |[],[],_,_,_=>rfl
 |[],y::m,_,_,h=>by have:=(h y).2 (by simp);simp at this
 |x::l,[],_,_,h=>by have:=(h x).1 (by simp);simp at this
 |x::l,y::m,hl,hm,h=>by
  rw[List.pairwise_cons]at hl hm;have hxy:x=y:=by
   rcases List.mem_cons.1 ((h x).1 (by simp)) with e|e
   · exact e
   · rcases List.mem_cons.1 ((h y).2 (by simp)) with e2|e2
     · exact e2.symm
     · exact absurd (ht _ _ _ (hm.1 x e) (hl.1 y e2)) (hi _)
  subst hxy;rw[FX hi ht hl.2 hm.2 (fun z=>by
   constructor
   · intro hz;rcases List.mem_cons.1 ((h z).1 (List.mem_cons_of_mem _ hz)) with e|e
     · subst e;exact absurd (hl.1 _ hz) (hi _)
     · exact e
   · intro hz;rcases List.mem_cons.1 ((h z).2 (List.mem_cons_of_mem _ hz)) with e|e
     · subst e;exact absurd (hm.1 _ hz) (hi _)
     · exact e)]
def Fy (b:Bd) (z:Int):Prop:=∀x,b.lo=some x->x<=z
def Fz (b:Bd) (z:Int):Prop:=∀x,b.hi=some x->z<=x
theorem I2 {a b:Option Int} (h:∀z,(∀x,a=some x->x<=z)↔∀x,b=some x->x<=z):a=b:=by
 cases a with
 |none=>
  cases b with
  |none=>rfl
  |some y=>have:=(h (y-1)).1 (by simp) y rfl;omega
 |some x=>
  cases b with
  |none=>have:=(h (x-1)).2 (by simp) x rfl;omega
  |some y=>
   have h1:=(h y).2 (by simp) x rfl;have h2:=(h x).1 (by simp) y rfl;congr 1
   omega
theorem I3 {a b:Option Int} (h:∀z,(∀x,a=some x->z<=x)↔∀x,b=some x->z<=x):a=b:=by
 cases a with
 |none=>
  cases b with
  |none=>rfl
  |some y=>have:=(h (y+1)).1 (by simp) y rfl;omega
 |some x=>
  cases b with
  |none=>have:=(h (x+1)).2 (by simp) x rfl;omega
  |some y=>
   have h1:=(h y).2 (by simp) x rfl;have h2:=(h x).1 (by simp) y rfl;congr 1
   omega
structure Ei (bs js:List Bd):Prop where
 from_:∀c∈js,∃b∈bs,b.S=c.S
 all_:∀b∈bs,∃c∈js,c.S=b.S
 lo:∀c∈js,∀z,Fy c z↔∀b∈bs,b.S=c.S->Fy b z
 hi:∀c∈js,∀z,Fz c z↔∀b∈bs,b.S=c.S->Fz b z
theorem L1 (a b:Bd) (z:Int):Fy (Dy a b) z↔Fy a z/\Fy b z:=Qx a.lo b.lo z
theorem L2 (a b:Bd) (z:Int):Fz (Dy a b) z↔Fz a z/\Fz b z:=Qy a.hi b.hi z
theorem Ei.push {bs js:List Bd} {b:Bd} (h:Ei bs js) (hu:O7 js) (hl:∀x,js.getLast?=some x->cmpL x.S b.S<=0):Ei (bs++[b]) (pushB js b):=by
 rcases List.eq_nil_or_concat js with e|⟨r,x,e⟩
 · subst e;rw[Gp];have hb0:∀y∈bs,False:=fun y hy=>by obtain ⟨c,hc,-⟩:=h.all_ y hy;cases hc
   refine ⟨fun c hc=>?_,fun y hy=>?_,fun c hc z=>?_,fun c hc z=>?_⟩
   · rw[List.mem_singleton]at hc;subst hc;exact ⟨c,by simp,rfl⟩
   · rcases List.mem_append.1 hy with hy|hy
     · exact absurd (hb0 y hy) id
     · rw[List.mem_singleton]at hy;subst hy;exact ⟨y,by simp,rfl⟩
   · rw[List.mem_singleton]at hc;subst hc;constructor
     · intro h1 y hy _;rcases List.mem_append.1 hy with hy|hy
       · exact absurd (hb0 y hy) id
       · rw[List.mem_singleton]at hy;subst hy;exact h1
     · intro h1;exact h1 c (by simp) rfl
   · rw[List.mem_singleton]at hc;subst hc;constructor
     · intro h1 y hy _;rcases List.mem_append.1 hy with hy|hy
       · exact absurd (hb0 y hy) id
       · rw[List.mem_singleton]at hy;subst hy;exact h1
     · intro h1;exact h1 c (by simp) rfl
 · rw[List.concat_eq_append]at e;subst e;rw[Dj];unfold O7 at hu;rw[List.pairwise_append]at hu;obtain ⟨-,-,hrx⟩:=hu;by_cases he:x.S=b.S
   · rw[if_pos he];have hne:∀c∈r,c.S≠b.S:=fun c hc hh=>by
       have:=hrx c hc x (by simp);rw[hh,he,Dd.refl]at this;omega
     refine ⟨fun c hc=>?_,fun y hy=>?_,fun c hc z=>?_,fun c hc z=>?_⟩
     · replace hc:=List.mem_append.1 hc;rcases hc with hc|hc
       · obtain ⟨y,hy,e⟩:=h.from_ c (List.mem_append.2 (.inl hc));exact ⟨y,List.mem_append.2 (.inl hy),e⟩
       · rw[List.mem_singleton]at hc;subst hc;exact ⟨b,by simp,he.symm⟩
     · rcases List.mem_append.1 hy with hy|hy
       · obtain ⟨c,hc,e⟩:=h.all_ y hy;replace hc:=List.mem_append.1 hc;rcases hc with hc|hc
         · exact ⟨c,List.mem_append.2 (.inl hc),e⟩
         · rw[List.mem_singleton]at hc;subst hc;exact ⟨Dy c b,by simp,e⟩
       · rw[List.mem_singleton]at hy;subst hy;exact ⟨Dy x y,by simp,he⟩
     · replace hc:=List.mem_append.1 hc;rcases hc with hc|hc
       · rw[h.lo c (List.mem_append.2 (.inl hc)) z];constructor
         · intro h1 y hy e;rcases List.mem_append.1 hy with hy|hy
           · exact h1 y hy e
           · rw[List.mem_singleton]at hy;subst hy;exact absurd e.symm (hne c hc)
         · intro h1 y hy e;exact h1 y (List.mem_append.2 (.inl hy)) e
       · rw[List.mem_singleton]at hc;subst hc;rw[L1,h.lo x (by simp) z];constructor
         · rintro ⟨h1,h2⟩ y hy e;rcases List.mem_append.1 hy with hy|hy
           · exact h1 y hy e
           · rw[List.mem_singleton]at hy;subst hy;exact h2
         · intro h1;exact ⟨fun y hy e=>h1 y (List.mem_append.2 (.inl hy)) e,h1 b (by simp) he.symm⟩
     · replace hc:=List.mem_append.1 hc;rcases hc with hc|hc
       · rw[h.hi c (List.mem_append.2 (.inl hc)) z];constructor
         · intro h1 y hy e;rcases List.mem_append.1 hy with hy|hy
           · exact h1 y hy e
           · rw[List.mem_singleton]at hy;subst hy;exact absurd e.symm (hne c hc)
         · intro h1 y hy e;exact h1 y (List.mem_append.2 (.inl hy)) e
       · rw[List.mem_singleton]at hc;subst hc;rw[L2,h.hi x (by simp) z];constructor
         · rintro ⟨h1,h2⟩ y hy e;rcases List.mem_append.1 hy with hy|hy
           · exact h1 y hy e
           · rw[List.mem_singleton]at hy;subst hy;exact h2
         · intro h1;exact ⟨fun y hy e=>h1 y (List.mem_append.2 (.inl hy)) e,h1 b (by simp) he.symm⟩
   · rw[if_neg he];have hx0:=hl x (by simp);have hx:cmpL x.S b.S<0:=by
       by_cases h0:cmpL x.S b.S=0
       · exact absurd (DK.1 h0) he
       · omega
     have hne:∀c∈r++[x],c.S≠b.S:=fun c hc hh=>by
       replace hc:=List.mem_append.1 hc;rcases hc with hc|hc
       · have:=Dd.lt_le (hrx c hc x (by simp)) hx0;rw[hh,Dd.refl]at this;omega
       · rw[List.mem_singleton]at hc;subst hc;exact he hh
     have hnb:∀y∈bs,y.S≠b.S:=fun y hy e=>by
       obtain ⟨c,hc,e2⟩:=h.all_ y hy;exact hne c hc (e2.trans e)
     refine ⟨fun c hc=>?_,fun y hy=>?_,fun c hc z=>?_,fun c hc z=>?_⟩
     · replace hc:=List.mem_append.1 hc;rcases hc with hc|hc
       · obtain ⟨y,hy,e⟩:=h.from_ c hc;exact ⟨y,List.mem_append.2 (.inl hy),e⟩
       · rw[List.mem_singleton]at hc;subst hc;exact ⟨c,by simp,rfl⟩
     · rcases List.mem_append.1 hy with hy|hy
       · obtain ⟨c,hc,e⟩:=h.all_ y hy;exact ⟨c,List.mem_append.2 (.inl hc),e⟩
       · rw[List.mem_singleton]at hy;subst hy;exact ⟨y,by simp,rfl⟩
     · replace hc:=List.mem_append.1 hc;rcases hc with hc|hc
       · rw[h.lo c hc z];constructor
         · intro h1 y hy e;rcases List.mem_append.1 hy with hy|hy
           · exact h1 y hy e
           · rw[List.mem_singleton]at hy;subst hy;exact absurd e.symm (hne c hc)
         · intro h1 y hy e;exact h1 y (List.mem_append.2 (.inl hy)) e
       · rw[List.mem_singleton]at hc;subst hc;constructor
         · intro h1 y hy e;rcases List.mem_append.1 hy with hy|hy
           · exact absurd e (hnb y hy)
           · rw[List.mem_singleton]at hy;subst hy;exact h1
         · intro h1;exact h1 c (by simp) rfl
     · replace hc:=List.mem_append.1 hc;rcases hc with hc|hc
       · rw[h.hi c hc z];constructor
         · intro h1 y hy e;rcases List.mem_append.1 hy with hy|hy
           · exact h1 y hy e
           · rw[List.mem_singleton]at hy;subst hy;exact absurd e.symm (hne c hc)
         · intro h1 y hy e;exact h1 y (List.mem_append.2 (.inl hy)) e
       · rw[List.mem_singleton]at hc;subst hc;constructor
         · intro h1 y hy e;rcases List.mem_append.1 hy with hy|hy
           · exact absurd e (hnb y hy)
           · rw[List.mem_singleton]at hy;subst hy;exact h1
         · intro h1;exact h1 c (by simp) rfl
theorem Dk {bs:List Bd} (h:CF bs):Ei bs (Ci bs):=by
 have key:∀(l done r:List Bd),CF l->O7 r->Ei done r->(∀x,r.getLast?=some x->∀b∈l,cmpL x.S b.S<=0)->Ei (done++l) (l.foldl pushB r):=by
  intro l;induction l with
  |nil=>intro done r _ _ hj _;simpa using hj
  |cons b l ih=>
   intro done r hl hr hj hx;unfold CF at hl;rw[List.pairwise_cons]at hl;rw[List.foldl_cons];have:=ih (done++[b]) _ hl.2 (Nt hr fun x h=>hx x h b (by simp)) (hj.push hr fun x h=>hx x h b (by simp)) (fun x h c hc=>by
    obtain ⟨y,hy,hs⟩:=Ki r b;rw[hy]at h;injection h with h
    subst h;rw[hs];exact hl.1 c hc)
   simpa using this
 exact key bs [] [] h List.Pairwise.nil ⟨(fun c hc=>by cases hc),(fun c hc=>by cases hc),(fun c hc=>by cases hc),(fun c hc=>by cases hc)⟩ (fun x h=>by simp at h)
theorem Ei.uniq {bs bs' js js':List Bd} (hb:∀b,b∈bs↔b∈bs') (h:Ei bs js) (h':Ei bs' js') (hu:O7 js) (hu':O7 js'):js=js':=by
 have half:∀{bs bs' js js':List Bd},(∀b,b∈bs↔b∈bs')->Ei bs js->Ei bs' js'->∀c∈js,c∈js':=by
  intro bs bs' js js' hb h h' c hc;obtain ⟨b,hm,e⟩:=h.from_ c hc;obtain ⟨c',hc',e'⟩:=h'.all_ b ((hb b).1 hm);have hS:c'.S=c.S:=e'.trans e;have hlo:c.lo=c'.lo:=I2 (fun z=>by
   have h1:=h.lo c hc z;have h2:=h'.lo c' hc' z;unfold Fy at h1 h2;rw[h1,h2];constructor
   · intro h3 y hy e;exact h3 y ((hb y).2 hy) (e.trans hS)
   · intro h3 y hy e;exact h3 y ((hb y).1 hy) (e.trans hS.symm))
  have hhi:c.hi=c'.hi:=I3 (fun z=>by
   have h1:=h.hi c hc z;have h2:=h'.hi c' hc' z;unfold Fz at h1 h2;rw[h1,h2];constructor
   · intro h3 y hy e;exact h3 y ((hb y).2 hy) (e.trans hS)
   · intro h3 y hy e;exact h3 y ((hb y).1 hy) (e.trans hS.symm))
  have:c=c':=by
   cases c;cases c'
   simp only at hS hlo hhi;rw[hS,hlo,hhi]
  rw[this];exact hc'
 refine FX (lt:=fun a b:Bd=>cmpL a.S b.S<0) (fun x hx=>by rw[Dd.refl]at hx;omega) (fun x y z h1 h2=>Dd.lt_le h1 (by omega)) hu hu' (fun c=>⟨half hb h h' c,half (fun b=>(hb b).symm) h' h c⟩)
theorem GR {rs rs':List R3} (h:∀r,r∈rs↔r∈rs') (b:Bd):b∈Cq rs↔b∈Cq rs':=by
 unfold Cq;simp only[List.mem_map,List.mem_filter];constructor
 · rintro ⟨r,⟨h1,h2⟩,e⟩;exact ⟨r,⟨(h r).1 h1,h2⟩,e⟩
 · rintro ⟨r,⟨h1,h2⟩,e⟩;exact ⟨r,⟨(h r).2 h1,h2⟩,e⟩
theorem L3 {l m:List R3} (hl:l.Pairwise fun a b=>Eg a b<0) (hm:m.Pairwise fun a b=>Eg a b<0) (h:∀x,x∈l↔x∈m):l=m:=
 FX (lt:=fun a b:R3=>Eg a b<0) (fun x hx=>by rw[Hu.refl]at hx;omega) (fun x y z h1 h2=>Hu.lt_le h1 (by omega)) hl hm h
theorem L4 {rs rs':List R3} {o o':Option (List R3)} (hr:∀r,r∈rs↔r∈rs') (h:I1 rs o) (h':I1 rs' o'):o=o':=by
 cases o with
 |none=>
  cases o' with
  |none=>rfl
  |some out'=>
   exfalso;obtain ⟨hk',bs',hp',hs',hn',-,-⟩:=h';rcases h with ⟨r,hm,h⟩|⟨bs,hp,hs,b,hb,h⟩
   · exact hk' r ((hr r).1 hm) h
   · have e:=Ei.uniq (fun b=>(hp.mem_iff.trans (GR hr b)).trans hp'.mem_iff.symm) (Dk hs) (Dk hs') (Ec hs) (Ec hs');exact hn' b (e▸hb) h
 |some out=>
  cases o' with
  |none=>
   exfalso;obtain ⟨hk,bs,hp,hs,hn,-,-⟩:=h;rcases h' with ⟨r,hm,h'⟩|⟨bs',hp',hs',b,hb,h'⟩
   · exact hk r ((hr r).2 hm) h'
   · have e:=Ei.uniq (fun b=>(hp.mem_iff.trans (GR hr b)).trans hp'.mem_iff.symm) (Dk hs) (Dk hs') (Ec hs) (Ec hs');exact hn b (e.symm▸hb) h'
  |some out'=>
   have r1:=GQ h;have r2:=GQ h';obtain ⟨hk,bs,hp,hs,hn,ho,-⟩:=h;obtain ⟨hk',bs',hp',hs',hn',ho',-⟩:=h';have e:=Ei.uniq (fun b=>(hp.mem_iff.trans (GR hr b)).trans hp'.mem_iff.symm) (Dk hs) (Dk hs') (Ec hs) (Ec hs');congr 1
   exact L3 r1 r2 (fun x=>by rw[ho.mem_iff,ho'.mem_iff,e])
end
section
open Tm
def U6 (r:R3):Prop:=norm r.1=r.1/\r.1≠[]/\Ak r.1=1/\(r.2.2=true->¬lead r.1<0)
theorem Hv (L:List (Int×Int)):Ce 1 L=L:=by
 unfold Ce;conv=>rhs;rw[<-List.map_id L]
 apply List.map_congr_left;intro p _;show (p.1,p.2.fdiv 1)=p;rw[Int.fdiv_one]
theorem Q5 {r:R3} (h:U6 r):tk r=0/\tt r=r:=by
 obtain ⟨L,K,e⟩:=r;obtain ⟨h1,h2,h3,h4⟩:=h;dsimp only at h1 h2 h3 h4
 unfold tk tt;dsimp only
 have hn:norm L≠[]:=by rw[h1];exact h2
 have hk:AR L K e=0:=by
  cases e
  · exact EW hn
  · exact En hn (by rw[h3];exact Int.fmod_one K)
 have hf:Cp L e=false:=by
  unfold Cp;rw[h3,h1,Hv];cases e
  · rfl
  · simpa using h4 rfl
 obtain ⟨e1,e2,e3⟩:=Ey hk hf;refine ⟨hk,?_⟩;rw[e1,e2,e3,h3,h1,Hv,Int.fdiv_one]
theorem S7 (L:List (Int×Int)):∀g,CS g (L.map fun p=>(p.1,-1*p.2))=CS g L:=by
 induction L with
 |nil=>intro g;rfl
 |cons p L ih=>
  intro g;rw[List.map_cons];unfold CS;rw[ih];congr 2
  omega
theorem EJ {L:List (Int×Int)} (h:norm L=L):Ak (L.map fun p=>(p.1,-1*p.2))=Ak L:=by unfold Ak;rw[Fv (by decide),h,S7]
theorem S8 {r:R3} (h:tk r=0):U6 (tt r):=by
 have ht:=Ff h;refine ⟨ht.1,ht.2.1,?_,fun he hl=>by rw[ht.2.2 hl]at he;cases he⟩;obtain ⟨L,K,e⟩:=r;unfold tk at h;unfold tt;dsimp only at h ⊢
 have hn:norm L≠[]:=by intro hn;rw[EG hn]at h;split at h<;>simp at h
 have hc:=Mf L (fun hh=>hn (Cw.1 hh));by_cases hf:Cp L e=true
 · rw[(Hr h hf).1,EJ (FV L),hc]
 · rw[(Ey h (by simpa using hf)).1,hc]
def Ua (b:Bd):Prop:=Ak b.S=1
theorem S9 {r:R3} (h:U6 r):Ua (AX r):=by
 unfold Ua AX;split
 · show Ak (AZ r.1)=1;rw[Cd h.1,EJ h.1];exact h.2.2.1
 · exact h.2.2.1
theorem Q6 (rs:List R3):∀b∈Cq rs,Ua b:=by intro b hb;obtain ⟨r,hr,rfl⟩:=List.mem_map.1 hb;obtain ⟨-,h2⟩:=List.mem_filter.1 hr;exact S9 (S8 (by simpa using h2))
theorem Cx {L:List (Int×Int)} (h:norm L=L):AZ (AZ L)=L:=by
 rw[Cd (CM L),Cd h,List.map_map];conv=>rhs;rw[<-List.map_id L]
 apply List.map_congr_left;intro p _;show (p.1,-1*(-1*p.2))=p;rw[show -1*(-1*p.2)=p.2 by omega]
theorem GT {c:Bd} {ds:List R3} (hc:Nv c) (ht:Ua c) (h:BN c=some ds):ds≠[]/\(∀r∈ds,U6 r/\(AX r).S=c.S)/\(∀z,Fy c z↔∀r∈ds,Fy (AX r) z)/\(∀z,Fz c z↔∀r∈ds,Fz (AX r) z):=by
 obtain ⟨S,lo,hi⟩:=c;obtain ⟨h1,h2,h3⟩:=hc;unfold Ua at ht;dsimp only at h1 h2 h3 ht
 have hne:S≠[]:=by intro e;subst e;simp[lead]at h2
 have hl:lead (AZ S)<0:=by rw[Cd h1,DR];omega
 have hne2:AZ S≠[]:=by intro e;rw[e]at hl;simp[lead]at hl
 have f1:∀K e,U6 (S,K,e):=fun K e=>⟨h1,hne,ht,fun _=>by show ¬lead S<0;omega⟩
 have f2:∀K,U6 (AZ S,K,false):=fun K=>⟨CM S,hne2,by show Ak (AZ S)=1;rw[Cd h1,EJ h1,ht],fun he=>by cases he⟩
 have b1:∀K e,AX (S,K,e)=⟨S,some (-K),if e=true then some (-K) else none⟩:=fun K e=>by
   unfold AX;rw[if_neg (by show ¬lead S<0;omega)]
 have b2:∀K,AX (AZ S,K,false)=⟨S,none,some K⟩:=fun K=>by
   unfold AX;rw[if_pos (by exact hl)];show Bd.mk (AZ (AZ S)) _ _=_;rw[Cx h1]
 unfold BN at h;dsimp only at h
 unfold Fy Fz;cases lo<;>cases hi<;>dsimp only at h
 · simp at h3
 · rename_i y
   cases h
   refine ⟨by simp,?_,fun z=>?_,fun z=>?_⟩
   · intro r hr;rw[List.mem_singleton]at hr;subst hr;exact ⟨f2 y,by rw[b2]⟩
   · simp[b2]
   · simp[b2]
 · rename_i x
   cases h
   refine ⟨by simp,?_,fun z=>?_,fun z=>?_⟩
   · intro r hr;rw[List.mem_singleton]at hr;subst hr;exact ⟨f1 _ _,by rw[b1]⟩
   · simp[b1]
   · simp[b1]
 · rename_i x y
   split at h
   · cases h
   · split at h
     · rename_i hxy
       subst hxy;cases h
       refine ⟨by simp,?_,fun z=>?_,fun z=>?_⟩
       · intro r hr;rw[List.mem_singleton]at hr;subst hr;exact ⟨f1 _ _,by rw[b1]⟩
       · simp[b1]
       · simp[b1]
     · cases h
       refine ⟨by simp,?_,fun z=>?_,fun z=>?_⟩
       · intro r hr;simp only[List.mem_cons,List.not_mem_nil,or_false]at hr;rcases hr with rfl|rfl
         · exact ⟨f1 _ _,by rw[b1]⟩
         · exact ⟨f2 y,by rw[b2]⟩
       · simp[b1,b2]
       · simp[b1,b2]
theorem Ub {js:List Bd} (hu:O7 js):∀{a b:Bd},a∈js->b∈js->a.S=b.S->a=b:=by
 induction js with
 |nil=>intro a b ha;cases ha
 |cons c js ih=>
  intro a b ha hb e;unfold O7 at hu;rw[List.pairwise_cons]at hu;replace ha:=List.mem_cons.1 ha;replace hb:=List.mem_cons.1 hb;rcases ha with ha|ha
  · rcases hb with hb|hb
    · rw[ha,hb]
    · have:=hu.1 b hb;rw[<-ha,e,Dd.refl]at this;omega
  · rcases hb with hb|hb
    · have:=hu.1 a ha;rw[<-hb,e,Dd.refl]at this;omega
    · exact ih hu.2 ha hb e
end
end Go.Proofs.YtmedjkhmadfjlaaGreat
