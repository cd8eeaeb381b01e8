/- Texts of one seat, put together: TidyP TidyQ RowLB. -/
import Derived.Test.YtmedjkhmadfjlaaGreatR31
import Derived.Test.YtmedjkhmadfjlaaGreatR11
set_option linter.unusedVariables false
set_option linter.unusedSimpArgs false
set_option maxRecDepth 100000
set_option maxHeartbeats 16000000
namespace Go.Proofs.YtmedjkhmadfjlaaGreat
section
open Tm
def E6 (L M:List (Int×Int)):Int:=if L=M then 1 else if L=AZ M then -1 else 0
def Fg (b:Bd):Bd:=⟨AZ b.S,b.hi.map fun x=>-x,b.lo.map fun x=>-x⟩
def I4 (a:R3) (c:Bd):Bd:=if lead a.1<0 then Fg c else c
def CG (a b:R3):Int:=if E6 b.1 a.1<0 then b.2.1 else -b.2.1
def O8 (a b:R3):Bd:=⟨a.1,if 0<E6 b.1 a.1\/b.2.2=true then some (CG a b) else none,if E6 b.1 a.1<0\/b.2.2=true then some (CG a b) else none⟩
def EK (a:R3) (x:Bd) (b:R3):Bd:=if E6 b.1 a.1=0 then x else Dy x (O8 a b)
def Cb (ts:List R3) (a:R3):Bd:=ts.foldl (EK a) ⟨a.1,none,none⟩
theorem Gt (L M:List (Int×Int)):(E6 L M=1/\L=M)\/(E6 L M=-1/\L≠M/\L=AZ M)\/(E6 L M=0/\L≠M/\L≠AZ M):=by
 unfold E6;by_cases h:L=M
 · left;exact ⟨if_pos h,h⟩
 · by_cases h2:L=AZ M
   · right;left;exact ⟨by rw[if_neg h,if_pos h2],h,h2⟩
   · right;right;exact ⟨by rw[if_neg h,if_neg h2],h,h2⟩
theorem Fh {L:List (Int×Int)} (h:norm L=L):lead (AZ L)=- lead L:=by rw[Cd h,DR];omega
theorem Uc {L:List (Int×Int)} (h:norm L=L) (hn:L≠[]):L≠AZ L:=by intro e;have h1:=Fh h;rw[<-e]at h1;have h2:=Gr h hn;omega
theorem Jf (r:R3):(AX r).S=if lead r.1<0 then AZ r.1 else r.1:=by unfold AX;split<;>rfl
theorem KU {a b:R3} (ha:QT a) (hb:QT b):E6 b.1 a.1≠0↔(AX b).S=(AX a).S:=by
 have la:=Gr ha.1 ha.2.1;have lb:=Gr hb.1 hb.2.1;have na:=Fh ha.1;rw[Jf,Jf];rcases Gt b.1 a.1 with ⟨h0,h⟩|⟨h0,-,h⟩|⟨h0,h1,h2⟩
 · rw[h0,h];simp
 · rw[h0];have e1:lead b.1=- lead a.1:=(by rw[h];exact na);by_cases hl:lead a.1<0
   · rw[if_neg (by omega),if_pos hl,h];simp
   · rw[if_pos (by omega),if_neg hl,h,Cx ha.1];simp
 · rw[h0];constructor
   · intro h;exact absurd rfl h
   · intro h;exfalso;by_cases hl:lead a.1<0<;>by_cases hm:lead b.1<0
     · rw[if_pos hl,if_pos hm]at h;exact h1 (Nx hb.1 ha.1 h)
     · rw[if_pos hl,if_neg hm]at h;exact h2 h
     · rw[if_neg hl,if_pos hm]at h;apply h2;rw[<-h,Cx hb.1]
     · rw[if_neg hl,if_neg hm]at h;exact h1 h
theorem FY {a b:R3} (ha:QT a) (hb:QT b) (h:E6 b.1 a.1≠0):O8 a b=I4 a (AX b):=by
 have la:=Gr ha.1 ha.2.1;have lb:=Gr hb.1 hb.2.1;have na:=Fh ha.1;unfold O8 I4 CG AX Fg;rcases Gt b.1 a.1 with ⟨h0,h⟩|⟨h0,-,h⟩|⟨h0,h1,h2⟩
 · rw[h0,h];by_cases hl:lead a.1<0
   · have e:b.2.2=false:=hb.2.2 (by rw[h];exact hl);rw[if_pos hl,if_pos hl,e];simp[Cx ha.1]
   · rw[if_neg hl,if_neg hl];simp
 · rw[h0];have e1:lead b.1=- lead a.1:=(by rw[h];exact na);by_cases hl:lead a.1<0
   · have c1:¬lead b.1<0:=(by omega);simp only[if_pos hl,if_neg c1];rw[h,Cx ha.1];cases b.2.2<;>simp
   · have c1:lead b.1<0:=(by omega);have e:b.2.2=false:=hb.2.2 c1;simp only[if_neg hl,if_pos c1];rw[h,Cx ha.1,e];simp
 · exact absurd h0 h
theorem Il (b:Bd) (z:Int):Fy (Fg b) z↔Fz b (-z):=by
 unfold Fy Fz Fg;cases b.hi with
 |none=>simp
 |some x=>simp;omega
theorem Im (b:Bd) (z:Int):Fz (Fg b) z↔Fy b (-z):=by
 unfold Fy Fz Fg;cases b.lo with
 |none=>simp
 |some x=>simp;omega
theorem U7 (ts:List R3) (a:R3):∀x:Bd,(ts.foldl (EK a) x).S=x.S:=by
 induction ts with
 |nil=>intro x;rfl
 |cons b ts ih=> intro x;rw[List.foldl_cons,ih];unfold EK;split<;>rfl
theorem SA (ts:List R3) (a:R3) (z:Int):∀x:Bd,Fy (ts.foldl (EK a) x) z↔Fy x z/\∀b∈ts,E6 b.1 a.1≠0->Fy (O8 a b) z:=by
 induction ts with
 |nil=>intro x;simp
 |cons b ts ih=>
  intro x;rw[List.foldl_cons,ih];unfold EK;by_cases h:E6 b.1 a.1=0
  · rw[if_pos h];simp[h]
  · rw[if_neg h,L1];simp[h,and_assoc]
theorem Vh (ts:List R3) (a:R3) (z:Int):∀x:Bd,Fz (ts.foldl (EK a) x) z↔Fz x z/\∀b∈ts,E6 b.1 a.1≠0->Fz (O8 a b) z:=by
 induction ts with
 |nil=>intro x;simp
 |cons b ts ih=>
  intro x;rw[List.foldl_cons,ih];unfold EK;by_cases h:E6 b.1 a.1=0
  · rw[if_pos h];simp[h]
  · rw[if_neg h,L2];simp[h,and_assoc]
theorem SB {ts:List R3} {js:List Bd} (ht:∀r∈ts,QT r) (hj:Ei (ts.map AX) js) {a:R3} (ha:QT a) {c:Bd} (hc:c∈js) (hs:c.S=(AX a).S):Cb ts a=I4 a c:=by
 have e1:(Cb ts a).S=(I4 a c).S:=by
  unfold Cb;rw[U7];show a.1=_;unfold I4;by_cases hl:lead a.1<0
  · rw[if_pos hl];show a.1=AZ c.S;rw[hs,Jf,if_pos hl,Cx ha.1]
  · rw[if_neg hl,hs,Jf,if_neg hl]
 have e2:(Cb ts a).lo=(I4 a c).lo:=I2 (fun z=>by
  have h1:=SA ts a z ⟨a.1,none,none⟩;have h0:Fy ⟨a.1,none,none⟩ z:=by intro x hx;cases hx
  have h2:=hj.lo c hc z;have h3:=hj.hi c hc (-z);show Fy (Cb ts a) z↔Fy (I4 a c) z;unfold Cb;rw[h1];by_cases hl:lead a.1<0
  · have e:I4 a c=Fg c:=if_pos hl;rw[e,Il,h3];constructor
    · rintro ⟨-,h⟩ y hy hyS;obtain ⟨b,hb,rfl⟩:=List.mem_map.1 hy;have hsp:=(KU ha (ht b hb)).2 (hyS.trans hs);have h4:=h b hb hsp;rw[FY ha (ht b hb) hsp,show I4 a (AX b)=Fg (AX b) from if_pos hl,Il]at h4;exact h4
    · intro h;refine ⟨h0,fun b hb hsp=>?_⟩;rw[FY ha (ht b hb) hsp,show I4 a (AX b)=Fg (AX b) from if_pos hl,Il];exact h _ (List.mem_map.2 ⟨b,hb,rfl⟩) (((KU ha (ht b hb)).1 hsp).trans hs.symm)
  · have e:I4 a c=c:=if_neg hl;rw[e,h2];constructor
    · rintro ⟨-,h⟩ y hy hyS;obtain ⟨b,hb,rfl⟩:=List.mem_map.1 hy;have hsp:=(KU ha (ht b hb)).2 (hyS.trans hs);have h4:=h b hb hsp;rw[FY ha (ht b hb) hsp,show I4 a (AX b)=AX b from if_neg hl]at h4;exact h4
    · intro h;refine ⟨h0,fun b hb hsp=>?_⟩;rw[FY ha (ht b hb) hsp,show I4 a (AX b)=AX b from if_neg hl];exact h _ (List.mem_map.2 ⟨b,hb,rfl⟩) (((KU ha (ht b hb)).1 hsp).trans hs.symm))
 have e3:(Cb ts a).hi=(I4 a c).hi:=I3 (fun z=>by
  have h1:=Vh ts a z ⟨a.1,none,none⟩;have h0:Fz ⟨a.1,none,none⟩ z:=by intro x hx;cases hx
  have h2:=hj.hi c hc z;have h3:=hj.lo c hc (-z);show Fz (Cb ts a) z↔Fz (I4 a c) z;unfold Cb;rw[h1];by_cases hl:lead a.1<0
  · have e:I4 a c=Fg c:=if_pos hl;rw[e,Im,h3];constructor
    · rintro ⟨-,h⟩ y hy hyS;obtain ⟨b,hb,rfl⟩:=List.mem_map.1 hy;have hsp:=(KU ha (ht b hb)).2 (hyS.trans hs);have h4:=h b hb hsp;rw[FY ha (ht b hb) hsp,show I4 a (AX b)=Fg (AX b) from if_pos hl,Im]at h4;exact h4
    · intro h;refine ⟨h0,fun b hb hsp=>?_⟩;rw[FY ha (ht b hb) hsp,show I4 a (AX b)=Fg (AX b) from if_pos hl,Im];exact h _ (List.mem_map.2 ⟨b,hb,rfl⟩) (((KU ha (ht b hb)).1 hsp).trans hs.symm)
  · have e:I4 a c=c:=if_neg hl;rw[e,h2];constructor
    · rintro ⟨-,h⟩ y hy hyS;obtain ⟨b,hb,rfl⟩:=List.mem_map.1 hy;have hsp:=(KU ha (ht b hb)).2 (hyS.trans hs);have h4:=h b hb hsp;rw[FY ha (ht b hb) hsp,show I4 a (AX b)=AX b from if_neg hl]at h4;exact h4
    · intro h;refine ⟨h0,fun b hb hsp=>?_⟩;rw[FY ha (ht b hb) hsp,show I4 a (AX b)=AX b from if_neg hl];exact h _ (List.mem_map.2 ⟨b,hb,rfl⟩) (((KU ha (ht b hb)).1 hsp).trans hs.symm))
 revert e1 e2 e3
 generalize Cb ts a=x;generalize I4 a c=y;intro e1 e2 e3;cases x;cases y
 simp only at e1 e2 e3;rw[e1,e2,e3]
def DT (x:Bd):Option (List R3):=
 match x.lo,x.hi with
 |some l,some h=>if h<l then none else if l=h then some [tt (x.S,-l,true)] else some [(x.S,-l,false),(AZ x.S,h,false)]
 |some l,none=>some [(x.S,-l,false)]
 |none,some h=>some [(AZ x.S,h,false)]
 |none,none=>some []
theorem Ud {L:List (Int×Int)} {K:Int} (h:norm L=L) (hn:L≠[]) (hc:Ak L=1) (hl:lead L<0):tt (L,K,true)=(AZ L,-K,true):=by
 have hnn:norm L≠[]:=by rw[h];exact hn
 have hk:AR L K true=0:=En hnn (by rw[hc];exact Int.fmod_one K);have hf:Cp L true=true:=by unfold Cp;rw[hc,h,Hv];simpa using hl
 obtain ⟨e1,e2,e3⟩:=Hr hk hf;unfold tt;dsimp only
 rw[e1,e2,e3,hc,h,Hv,Int.fdiv_one,Cd h]
theorem Vi {a:R3} {c:Bd} (ha:U6 a) (hc:Nv c) (ht:Ua c) (hs:c.S=(AX a).S):(DT (I4 a c)=none↔BN c=none)/\∀ds,DT (I4 a c)=some ds->ds.Nodup/\∃ds',BN c=some ds'/\∀y,y∈ds↔y∈ds':=by
 obtain ⟨S,lo,hi⟩:=c;obtain ⟨h1,h2,h3⟩:=hc;dsimp only at h1 h2 h3 hs
 unfold Ua at ht;dsimp only at ht
 have hSn:S≠[]:=by intro e;rw[e]at h2;exact absurd h2 (by decide)
 have hne:S≠AZ S:=Uc h1 hSn;have hcn:Ak (AZ S)=1:=by rw[Cd h1,EJ h1];exact ht
 have hnn:norm (AZ S)=AZ S:=CM S;have hn2:AZ S≠[]:=by intro e;have:=Fh h1;rw[e]at this;have h0:lead []=0:=rfl;omega
 have hln:lead (AZ S)<0:=by rw[Fh h1];omega
 have hfx:∀K,tt (S,K,true)=(S,K,true):=fun K=>(Q5 (r:=(S,K,true)) ⟨h1,hSn,ht,fun _=>by show ¬lead S<0;omega⟩).2
 have hft:∀K,tt (AZ S,K,true)=(S,-K,true):=fun K=>by rw[Ud hnn hn2 hcn hln,Cx h1]
 unfold I4;by_cases hl:lead a.1<0
 · rw[if_pos hl];unfold DT BN Fg;dsimp only
   cases lo<;>cases hi<;>dsimp only[Option.map]<;>try simp only[Cx h1,hft]
   · simp
   · simp
   · simp
   · rename_i x y
     by_cases hxy:y<x
     · rw[if_pos hxy,if_pos (by omega)];simp
     · rw[if_neg hxy,if_neg (by omega)];by_cases he:x=y
       · rw[if_pos he,if_pos (by omega)];simp[he]
       · rw[if_neg he,if_neg (by omega)];refine ⟨by simp,fun ds h=>?_⟩;injection h with h
         subst h;refine ⟨by simp;intro h;exact absurd h.symm hne,_,rfl,fun y=>?_⟩;simp;exact Or.comm
 · rw[if_neg hl];unfold DT BN;dsimp only
   cases lo<;>cases hi<;>dsimp only<;>try simp only[hfx]
   · simp
   · simp
   · simp
   · rename_i x y
     by_cases hxy:y<x
     · rw[if_pos hxy];simp
     · rw[if_neg hxy];by_cases he:x=y
       · rw[if_pos he];simp
       · rw[if_neg he];refine ⟨by simp,fun ds h=>?_⟩;injection h with h
         subst h;exact ⟨by simp;intro h;exact absurd h hne,_,rfl,fun y=>Iff.rfl⟩
end
section
open Tm
def CV (r:R3):List R3->List R3
 |[]=>[r]
 |x::l=>if Eg r x<=0 then r::x::l else x::CV r l
theorem Fi (r:R3) (l:List R3):(CV r l).length=l.length+1:=by
 induction l with
 |nil=>rfl
 |cons x l ih=>
  unfold CV;split
  · rfl
  · rw[List.length_cons,ih,List.length_cons]
theorem Hw (r:R3) (l:List R3) (y:R3):y∈CV r l↔y=r\/y∈l:=by
 induction l with
 |nil=>simp[CV]
 |cons x l ih=>
  unfold CV;split
  · simp
  · rw[List.mem_cons,ih,List.mem_cons];constructor
    · rintro (h|h|h)
      · exact .inr (.inl h)
      · exact .inl h
      · exact .inr (.inr h)
    · rintro (h|h|h)
      · exact .inr (.inl h)
      · exact .inl h
      · exact .inr (.inr h)
def F3 (r:R3) (l:List R3):Bool:=l.any fun x=>decide (Eg r x<=0)
theorem Q7 {r:R3} {l:List R3} (h:F3 r l=false):CV r l=l++[r]:=by
 induction l with
 |nil=>rfl
 |cons x l ih=> unfold F3 at h;rw[List.any_cons,Bool.or_eq_false_iff]at h;unfold CV;rw[if_neg (by simpa using h.1),ih h.2];rfl
theorem Q8 {r x:R3} {l:List R3} (h:F3 r l=true):CV r (l++[x])=CV r l++[x]:=by
 induction l with
 |nil=>cases h
 |cons y l ih=>
  rw[List.cons_append];unfold CV;by_cases hy:Eg r y<=0
  · rw[if_pos hy,if_pos hy];rfl
  · rw[if_neg hy,if_neg hy];unfold F3 at h;rw[List.any_cons,Bool.or_eq_true]at h;have h9:F3 r l=true:=by
     rcases h with h|h
     · exact absurd (by simpa using h) hy
     · exact h
    rw[ih h9];rfl
theorem SC {r x:R3} {l:List R3} (h:F3 r l=false) (hx:Eg r x<=0):CV r (l++[x])=l++[r]++[x]:=by
 induction l with
 |nil=>unfold CV;rw[List.nil_append];exact if_pos hx
 |cons y l ih=> unfold F3 at h;rw[List.any_cons,Bool.or_eq_false_iff]at h;rw[List.cons_append];unfold CV;rw[if_neg (by simpa using h.1),ih h.2];rfl
theorem L5 (r x:R3) (l:List R3):F3 r (l++[x])=(F3 r l || decide (Eg r x<=0)):=by unfold F3;rw[List.any_append];simp
def IL (r:R3) (l:List R3):List R3:=if F3 r l=true then CV r l else l
theorem SD (r:R3) (l:List R3):(IL r l).length<=l.length+1:=by
 unfold IL;split
 · rw[Fi];exact Nat.le_refl _
 · omega
theorem L6 (r x:R3) (l:List R3):IL r (l++[x])=(if F3 r l=false/\Eg r x<=0 then IL r l++[r] else IL r l)++[x]:=by
 unfold IL;rw[L5];cases h:F3 r l
 · by_cases hx:Eg r x<=0
   · rw[if_pos (by simp[hx]),if_pos ⟨rfl,hx⟩,if_neg (by simp),SC h hx]
   · rw[if_neg (by simp[hx]),if_neg (fun hh=>hx hh.2),if_neg (by simp)]
 · rw[if_pos (by simp),if_neg (fun hh=>by cases hh.1),if_pos rfl,Q8 h]
theorem Ny (r:R3) (l:List R3):CV r l=if F3 r l=true then IL r l else IL r l++[r]:=by
 unfold IL;cases h:F3 r l
 · simp[Q7 h]
 · simp
def EL (l:List R3):Prop:=l.Pairwise fun a b=>Eg a b<0
theorem Nz {r:R3} {l:List R3} (hr:norm r.1=r.1) (hn:∀x∈l,norm x.1=x.1) (hl:EL l) (hm:r ∉ l):EL (CV r l):=by
 induction l with
 |nil=>exact List.pairwise_singleton _ _
 |cons x l ih=>
  unfold EL at hl;rw[List.pairwise_cons]at hl;unfold CV;split
  · rename_i h
    have h0:Eg r x<0:=by
      by_cases h1:Eg r x=0
      · exact absurd (L0 hr (hn x (by simp)) h1) (fun e=>hm (by rw[e];simp))
      · omega
    refine List.pairwise_cons.2 ⟨fun y hy=>?_,List.pairwise_cons.2 hl⟩;rcases List.mem_cons.1 hy with e|e
    · rw[e];exact h0
    · exact Hu.lt_le h0 (by have:=hl.1 y e;omega)
  · rename_i h
    refine List.pairwise_cons.2 ⟨fun y hy=>?_,ih (fun z hz=>hn z (List.mem_cons_of_mem _ hz)) hl.2 (fun hh=>hm (List.mem_cons_of_mem _ hh))⟩;rcases (Hw r l y).1 hy with e|e
    · rw[e,Hu.neg r x];omega
    · exact hl.1 y e
def Hx (ds l:List R3):List R3:=ds.foldl (fun o r=>CV r o) l
theorem Q9 (ds:List R3):∀(l:List R3) (y:R3),y∈Hx ds l↔y∈ds\/y∈l:=by
 induction ds with
 |nil=>intro l y;simp[Hx]
 |cons r ds ih=>
  intro l y;show y∈Hx ds (CV r l)↔_;rw[ih,Hw,List.mem_cons];constructor
  · rintro (h|h|h)
    · exact .inl (.inr h)
    · exact .inl (.inl h)
    · exact .inr h
  · rintro ((h|h)|h)
    · exact .inr (.inl h)
    · exact .inl h
    · exact .inr (.inr h)
theorem Ml (ds:List R3):∀(l:List R3),ds.Nodup->(∀y∈ds,y ∉ l)->(∀y∈ds,norm y.1=y.1)->(∀x∈l,norm x.1=x.1)->EL l->EL (Hx ds l):=by
 induction ds with
 |nil=>intro l _ _ _ _ h;exact h
 |cons r ds ih=>
  intro l hnd hm hr hn hl;rw[List.nodup_cons]at hnd;show EL (Hx ds (CV r l));refine ih _ hnd.2 (fun y hy hh=>?_) (fun y hy=>hr y (List.mem_cons_of_mem _ hy)) (fun x hx=>?_) (Nz (hr r (by simp)) hn hl (hm r (by simp)))
  · rcases (Hw r l y).1 hh with e|e
    · rw[e]at hy;exact hnd.1 hy
    · exact hm y (List.mem_cons_of_mem _ hy) e
  · rcases (Hw r l x).1 hx with e|e
    · rw[e];exact hr r (by simp)
    · exact hn x e
def Dz (done:List R3) (a:R3):Bool:=done.all fun b=>decide (E6 b.1 a.1=0)
def Cr (ts:List R3):Nat->Option (List R3)
 |0=>some []
 |i+1=>
  match Cr ts i,ts[i]? with
  |some out,some a=>
   match DT (Cb ts a) with
   |none=>none
   |some ds=>if Dz (ts.take i) a=true then some (Hx ds out) else some out
  |none,_=>none
  |some out,none=>some out
def Cs (rs:List R3):List R3:=(rs.filter fun r=>decide (tk r=0)).map tt
theorem O9 {rs:List R3}:∀r∈Cs rs,U6 r:=by intro r hr;obtain ⟨q,hq,rfl⟩:=List.mem_map.1 hr;exact S8 (by simpa using (List.mem_filter.1 hq).2)
theorem Kn {rs:List R3}:∀r∈Cs rs,QT r:=by intro r hr;obtain ⟨q,hq,rfl⟩:=List.mem_map.1 hr;exact Ff (by simpa using (List.mem_filter.1 hq).2)
theorem Mm (rs:List R3):(Cs rs).map AX=Cq rs:=by unfold Cs Cq;rw[List.map_map];rfl
theorem Io {ts:List R3} {i:Nat} {a:R3} (h:ts[i]?=some a):ts.take (i+1)=ts.take i++[a]:=by obtain ⟨h1,h2⟩:=List.getElem?_eq_some_iff.1 h;rw[List.take_add_one,h];rfl
def SE (js:List Bd):Option (List R3)->Prop
 |none=>∃b∈js,BN b=none
 |some out=>(∀b∈js,BN b≠none)/\out.Perm (F8 js)/\EL out
theorem N0 {rs:List R3} {o:Option (List R3)} (hk:∀r∈rs,tk r≠-1) (h:I1 rs o):Cr (Cs rs) (Cs rs).length=o:=by
 have hT:=Kn (rs:=rs);have hF:=O9 (rs:=rs);have hB:=Mm rs;obtain ⟨bs,hp,hs,hcase⟩:∃bs:List Bd,bs.Perm (Cq rs)/\CF bs/\SE (Ci bs) o:=by
  cases o with
  |none=>
   rcases h with ⟨r,hr,h⟩|⟨bs,h1,h2,h3⟩
   · exact absurd h (hk r hr)
   · exact ⟨bs,h1,h2,h3⟩
  |some out=> have hr:=GQ h;obtain ⟨-,bs,h1,h2,h3,h4,-⟩:=h;exact ⟨bs,h1,h2,h3,h4,hr⟩
 have hJ:Ei ((Cs rs).map AX) (Ci bs):=by have h0:=Dk hs;rw[hB];exact ⟨fun c hc=>by obtain ⟨b,h1,h2⟩:=h0.from_ c hc;exact ⟨b,hp.mem_iff.1 h1,h2⟩,fun b hb=>h0.all_ b (hp.mem_iff.2 hb),fun c hc z=>(h0.lo c hc z).trans ⟨fun h1 b hb=>h1 b (hp.mem_iff.2 hb),fun h1 b hb=>h1 b (hp.mem_iff.1 hb)⟩,fun c hc z=>(h0.hi c hc z).trans ⟨fun h1 b hb=>h1 b (hp.mem_iff.2 hb),fun h1 b hb=>h1 b (hp.mem_iff.1 hb)⟩⟩
 have hok:∀c∈Ci bs,Nv c/\Ua c:=Gq (fun c=>Nv c/\Ua c) (fun x y hx hy _=>⟨Kj hx.1 hy.1,hx.2⟩) (fun b hb=>⟨(Gs rs b (hp.mem_iff.1 hb)).1,Q6 rs b (hp.mem_iff.1 hb)⟩);have hu:=Ec hs;clear h hp hs hk hB;generalize hts:Cs rs=ts at *;generalize Ci bs=js at *;clear hts;have one:∀a∈ts,∃c∈js,c.S=(AX a).S/\Cb ts a=I4 a c:=by intro a ha;obtain ⟨c,hc,e⟩:=hJ.all_ _ (List.mem_map.2 ⟨a,ha,rfl⟩);exact ⟨c,hc,e,SB hT hJ (hT a ha) hc e⟩
 have hsee:∀a∈ts,∀c∈js,c.S=(AX a).S->(DT (Cb ts a)=none↔BN c=none)/\∀ds,DT (Cb ts a)=some ds->ds.Nodup/\∃ds',BN c=some ds'/\∀y,y∈ds↔y∈ds':=by intro a ha c hc e;rw[SB hT hJ (hT a ha) hc e];exact Vi (hF a ha) (hok c hc).1 (hok c hc).2 e
 have walk:∀i≤ts.length,match Cr ts i with
   |none=>∃c∈js,BN c=none
   |some out=>(∀a∈ts.take i,DT (Cb ts a)≠none)/\EL out/\(∀y,y∈out↔∃a∈ts.take i,∃c∈js,c.S=(AX a).S/\∃ds,BN c=some ds/\y∈ds):=by
  intro i;induction i with
  |zero=>intro _;refine ⟨fun a ha=>by simp at ha,List.Pairwise.nil,fun y=>?_⟩;simp
  |succ i ih=>
   intro hi;have ih:=ih (by omega);obtain ⟨a,ha⟩:∃a,ts[i]?=some a:=⟨ts[i]'(by omega),List.getElem?_eq_getElem (by omega)⟩;have ham:=List.mem_of_getElem? ha;obtain ⟨c,hc,ecs,-⟩:=one a ham;obtain ⟨s1,s2⟩:=hsee a ham c hc ecs;have htk:=Io ha;unfold Cr;cases hfo:Cr ts i with
   |none=>rw[hfo]at ih;exact ih
   |some out=>
     rw[hfo]at ih;rw[ha];dsimp only at ih ⊢
     obtain ⟨i1,i2,i3⟩:=ih;cases had:DT (Cb ts a) with
     |none=>exact ⟨c,hc,s1.1 had⟩
     |some ds=>
      obtain ⟨nd,ds',hds',hmem⟩:=s2 ds had;obtain ⟨-,fx,-,-⟩:=GT (hok c hc).1 (hok c hc).2 hds';have hnone:∀b∈ts.take (i+1),DT (Cb ts b)≠none:=by
        intro b hb;rw[htk]at hb;rcases List.mem_append.1 hb with hb|hb
        · exact i1 b hb
        · rw[List.mem_singleton]at hb;rw[hb,had];simp
      have hcu:∀d∈js,d.S=(AX a).S->∀es,BN d=some es->es=ds':=by
        intro d hd e es he;have:=Ub hu hd hc (e.trans ecs.symm);rw[this,hds']at he;injection he with he
        exact he.symm
      dsimp only
      by_cases hfi:Dz (ts.take i) a=true
      · rw[if_pos hfi];have hnot:∀y∈ds,y ∉ out:=by
          intro y hy ho;obtain ⟨b,hb,d,hd,e,es,he,hye⟩:=(i3 y).1 ho;have h1:=(fx y ((hmem y).1 hy)).2;have h2:=((GT (hok d hd).1 (hok d hd).2 he).2.1 y hye).2;unfold Dz at hfi;rw[List.all_eq_true]at hfi;have h3:E6 b.1 a.1=0:=(by simpa using hfi b hb);exact (KU (hT a ham) (hT b (List.mem_of_mem_take hb))).2 (by rw[<-e,<-h2,h1,ecs]) h3
        refine ⟨hnone,Ml ds out nd hnot (fun y hy=>(fx y ((hmem y).1 hy)).1.1) (fun x hx=>?_) i2,fun y=>?_⟩
        · obtain ⟨b,hb,d,hd,e,es,he,hye⟩:=(i3 x).1 hx;exact ((GT (hok d hd).1 (hok d hd).2 he).2.1 x hye).1.1
        · rw[Q9,htk];constructor
          · rintro (hy|hy)
            · exact ⟨a,by simp,c,hc,ecs,ds',hds',(hmem y).1 hy⟩
            · obtain ⟨b,hb,r⟩:=(i3 y).1 hy;exact ⟨b,List.mem_append.2 (.inl hb),r⟩
          · rintro ⟨b,hb,d,hd,e,es,he,hye⟩;rcases List.mem_append.1 hb with hb|hb
            · exact .inr ((i3 y).2 ⟨b,hb,d,hd,e,es,he,hye⟩)
            · rw[List.mem_singleton]at hb;rw[hb]at e;rw[hcu d hd e es he]at hye;exact .inl ((hmem y).2 hye)
      · rw[if_neg hfi];refine ⟨hnone,i2,fun y=>?_⟩;rw[i3,htk];constructor
        · rintro ⟨b,hb,r⟩;exact ⟨b,List.mem_append.2 (.inl hb),r⟩
        · rintro ⟨b,hb,d,hd,e,es,he,hye⟩;rcases List.mem_append.1 hb with hb|hb
          · exact ⟨b,hb,d,hd,e,es,he,hye⟩
          · rw[List.mem_singleton]at hb;rw[hb]at e;unfold Dz at hfi;rw[List.all_eq_true]at hfi;have h4:∃b'∈ts.take i,¬E6 b'.1 a.1=0:=by
              apply Classical.byContradiction;intro hcon;apply hfi;intro b' hb';by_cases h5:E6 b'.1 a.1=0
              · simp[h5]
              · exact absurd ⟨b',hb',h5⟩ hcon
            obtain ⟨b',hb',h5⟩:=h4;have h6:=(KU (hT a ham) (hT b' (List.mem_of_mem_take hb'))).1 h5;exact ⟨b',hb',d,hd,e.trans h6.symm,es,he,hye⟩
 have hend:=walk ts.length (Nat.le_refl _);rw[List.take_length]at hend;cases hfo:Cr ts ts.length with
 |none=>
  rw[hfo]at hend;cases o with
  |none=>rfl
  |some out=>
   obtain ⟨c,hc,e⟩:=hend;exact absurd e (hcase.1 c hc)
 |some out'=>
  rw[hfo]at hend;obtain ⟨e1,e2,e3⟩:=hend;cases o with
  |none=>
   obtain ⟨c,hc,e⟩:=hcase;obtain ⟨b,hb,eb⟩:=hJ.from_ c hc;obtain ⟨a,ha,rfl⟩:=List.mem_map.1 hb;exact absurd ((hsee a ha c hc eb.symm).1.2 e) (e1 a ha)
  |some out=>
   obtain ⟨h1,h2,h3⟩:=hcase;rw[L3 e2 h3 (fun y=>?_)];rw[e3,h2.mem_iff];unfold F8;constructor
   · rintro ⟨a,ha,c,hc,e,ds,hds,hy⟩;exact List.mem_flatten.2 ⟨ds,List.mem_map.2 ⟨c,hc,by rw[hds];rfl⟩,hy⟩
   · intro hy;obtain ⟨l,hl,hy⟩:=List.mem_flatten.1 hy;obtain ⟨c,hc,rfl⟩:=List.mem_map.1 hl;obtain ⟨ds,hds⟩:=Option.ne_none_iff_exists'.1 (h1 c hc);rw[hds]at hy;obtain ⟨b,hb,eb⟩:=hJ.from_ c hc;obtain ⟨a,ha,rfl⟩:=List.mem_map.1 hb;exact ⟨a,ha,c,hc,eb.symm,ds,hds,hy⟩
end
section
open Go.RowKit
def BR (Pt:List Value->Prop) (T:TypeId) (sz:Nat) (w:World) (base:Nat) (v:Value) (n:Nat) (xs:List Value):Prop:=
 xs.length=n*sz/\((v=.slice none 0 0/\n=0) \/
  ∃g cap cur,v=.slice (some ⟨g,0,none⟩) n cap/\base<=g/\w.heap[g]?=some (.cells cur T (0,0))/\n<=cap/\cap<=maxLen/\cur.size=cap*sz/\cur.toList.take (n*sz)=xs/\FB cur.toList/\Pt cur.toList)
theorem BR.lrow {Pt:List Value->Prop} {T:TypeId} {sz:Nat} {w:World} {base:Nat} {v:Value} {n:Nat} {xs:List Value} (h:BR Pt T sz w base v n xs):AF T sz w base v n xs:=
 ⟨h.1,h.2.imp id fun ⟨g,cap,cur,a,b,c,d,e,f,i,j,_⟩=>⟨g,cap,cur,a,b,c,d,e,f,i,j⟩⟩
theorem BR.nil (Pt:List Value->Prop) (T:TypeId) (sz:Nat) (w:World) (base:Nat):BR Pt T sz w base (.slice none 0 0) 0 []:=⟨by simp,.inl ⟨rfl,rfl⟩⟩
theorem BR.kept {Pt:List Value->Prop} {T:TypeId} {sz:Nat} {w w':World} {base:Nat} {v:Value} {n:Nat} {xs:List Value} {row:Option Nat} (h:BR Pt T sz w base v n xs) (hg:w.grownBy w' row) (hne:v.ownBlock=none\/v.ownBlock≠row):BR Pt T sz w' base v n xs:=by
 refine ⟨h.1,?_⟩;rcases h.2 with hn|⟨g,cap,cur,rfl,hb,hgg,rest⟩
 · exact .inl hn
 · refine .inr ⟨g,cap,cur,rfl,hb,?_,rest⟩;rw[hg.block g (Array.getElem?_eq_some_iff.1 hgg).1 (by simpa[Value.ownBlock] using hne)];exact hgg
theorem BR.below {Pt:List Value->Prop} {T:TypeId} {sz:Nat} {w w':World} {base:Nat} {v:Value} {n:Nat} {xs:List Value} (h:BR Pt T sz w base v n xs) (hb:Below w.heap.size w w'):BR Pt T sz w' base v n xs:=
 h.kept (row:=none) ⟨hb.os,hb.tape,hb.output,hb.size,fun k hk _=>hb.block k hk⟩ (by
  by_cases h0:v.ownBlock=none
  · exact .inl h0
  · exact .inr h0)
section
variable {P:Program} (w:World)
theorem Fj (Pt:List Value->Prop) (base:Nat) (t ty e:TypeId) (i:TypeInfo) (z:Value) (size bytes:Nat) (ht:P.underlying t=some (.slice e)) (hi:P.info? e=some i) (hz:i.zero=some z)
   (hsize:i.size=size) (hby:i.bytes=bytes) (hzs:z.cells.size=size) (hsz:0<size) (hzn:FB z.cells.toList)
   (v:Value) (n:Nat) (xs:List Value) (hown:BR Pt e size w base v n xs)
   (a:Addr) (m c:Nat) (news:List Value) (hl:news.length=m*size) (hnews:∀j u,news[j]?=some u->w.cell? (a.add j)=some u) (h1:∀u∈news,u.oneCell'=true) (hnn:FB news)
   (h63:n+m<=maxLen) (hbytes:(n+m)*bytes<=140737488355328) (hbase:base<=w.heap.size)
   (p0:Pt []) (pa:∀a b:List Value,a.length%size=0->Pt a->Pt b->Pt (a++b)) (pt:∀(a:List Value) (k:Nat),Pt a->Pt (a.take k)) (pd:∀(a:List Value) (k:Nat),k%size=0->Pt a->Pt (a.drop k)) (pz:∀k,Pt (Builtin.zeroCells z.cells k).toList) (pn:Pt news) :
   ∃v' w',(Builtin.append_ #[t,t] ty #[v,.slice (some a) m c]).run P w=.ok v' w'/\BR Pt e size w' base v' (n+m) (xs++news)/\w.grownBy w' v.ownBlock/\(v'.ownBlock=v.ownBlock\/v'.ownBlock=some w.heap.size):=by
 subst hsize;subst hby;have hsmall:n+m<=9223372036854775807:=by simp only[maxLen]at h63;omega
 have hlen:(xs++news).length=(n+m)*i.size:=by rw[List.length_append,hown.1,hl,Nat.add_mul]
 have hxn:=hown.lrow.isNLs;have hxp:Pt xs:=by
   rcases hown.2 with ⟨-,h0⟩|⟨g,cap,cur,-,-,-,-,-,-,ht,-,hp⟩
   · have:xs=[]:=List.eq_nil_of_length_eq_zero (by rw[hown.1,h0,Nat.zero_mul]);rw[this];exact p0
   · rw[<-ht];exact pt _ _ hp
 have hzz:∀k,FB (Builtin.zeroCells z.cells k).toList:=by intro k u hu;have h2:u∈(Builtin.zeroCells z.cells k):=(by simpa using hu);unfold Builtin.zeroCells at h2;obtain ⟨q,-,hq⟩:=Array.mem_map.1 h2;have hlt:q%z.cells.size<z.cells.size:=Nat.mod_lt _ (by omega);rw[getElem!_pos z.cells _ hlt]at hq;exact hzn u (by rw[<-hq];simp)
 have grown:∀(old:Nat),old<n+m->∀(row:Option Nat),
     BR Pt e i.size (w.drew.alloc (.cells (xs.toArray++news.toArray++Builtin.zeroCells z.cells (grownCap w (n+m) old e-(n+m))) e)) base
       (.slice (some ⟨w.heap.size,0,none⟩) (n+m) (grownCap w (n+m) old e)) (n+m) (xs++news) /\
     w.grownBy (w.drew.alloc (.cells (xs.toArray++news.toArray++Builtin.zeroCells z.cells (grownCap w (n+m) old e-(n+m))) e)) row:=by
   intro old ho row;have hge:=grownCap_ge w (n+m) old e;have hcm:grownCap w (n+m) old e<=maxLen:=grownCap_le_maxLen w (n+m) old e h63;refine ⟨⟨hlen,.inr ⟨w.heap.size,_,_,rfl,hbase,heap_alloc_new w.drew _,hge,hcm,?_,?_,?_,?_⟩⟩,⟨rfl,rfl,rfl,by simp,fun k hk _=>Below.heap_alloc w.drew _ k hk⟩⟩
   · simp only[Array.size_append,List.size_toArray,size_zeroCells,hzs,hown.1,hl,<-Nat.add_mul];congr 1
     omega
   · simp only[Array.toList_append,List.append_assoc];rw[<-List.append_assoc,<-hlen];exact List.take_left
   · simp only[Array.toList_append];exact (hxn.append hnn).append (hzz _)
   · simp only[Array.toList_append];exact pa _ _ (by show (xs++news).length%i.size=0;rw[hlen];exact Nat.mul_mod_left _ _) (pa _ _ (by show xs.length%i.size=0;rw[hown.1];exact Nat.mul_mod_left _ _) hxp pn) (pz _)
 rcases hown.2 with ⟨rfl,rfl⟩|⟨g,cap,cur,rfl,hbg,hg,hnc,hcm,hcs,htake,hcn,hcp⟩
 · have hx:xs=[]:=List.eq_nil_of_length_eq_zero (by simpa using hown.1);subst hx;by_cases hm:m=0
   · subst hm;have hn:news=[]:=List.eq_nil_of_length_eq_zero (by simpa using hl);subst hn;refine ⟨.slice none 0 0,w,?_,BR.nil Pt e i.size w base,⟨rfl,rfl,rfl,Nat.le_refl _,fun _ _ _=>rfl⟩,.inl rfl⟩;simp[Builtin.append_,run_underlying ht,sizeOf,typeInfo,hi,Builtin.lenOf,Builtin.firstCells,loadCells,loadCellsFrom]
   · have hr:=run_append_nil (P:=P) w t ty e i z ht hi hz a m c news hl hnews (by omega) (by omega) (by have hb:=hbytes;simp only[Nat.zero_add]at hb;omega);have hgr:=grown 0 (by omega) (Value.ownBlock (.slice none 0 0));simp only[Nat.zero_add,List.nil_append,Array.empty_append]at hgr ⊢;exact ⟨_,_,hr,hgr.1,hgr.2,.inr rfl⟩
 · by_cases hroom:n+m<=cap
   · have hfit:n*i.size+news.length<=cur.size:=(by rw[hl,hcs,<-Nat.add_mul];exact Nat.mul_le_mul_right _ hroom);have hr:=run_append_room (P:=P) w t ty e i ht hi g n cap cur hg a m c news hl hnews h1 hroom hfit;refine ⟨_,_,hr,⟨hlen,.inr ⟨g,cap,_,rfl,hbg,setRow_heap w g cur _ e _ hg,hroom,hcm,?_,?_,?_,?_⟩⟩,⟨rfl,rfl,rfl,by simp,fun k _ hk=>setRow_other w g k _ (fun e=>hk (by simp[Value.ownBlock,e]))⟩,.inl rfl⟩
     · simp only[List.size_toArray,List.length_append,List.length_take,List.length_drop,Array.length_toList];omega
     · rw[htake,<-hlen];exact List.take_left
     · exact ((hcn.take _).append hnn).append (hcn.drop _)
     · have e1:(cur.toList.take (n*i.size)).length%i.size=0:=(by rw[htake,hown.1];exact Nat.mul_mod_left _ _);refine pa _ _ ?_ (pa _ _ e1 (pt _ _ hcp) pn) (pd _ _ ?_ hcp)
       · rw[htake,hlen];exact Nat.mul_mod_left _ _
       · rw[hl,<-Nat.add_mul];exact Nat.mul_mod_left _ _
   · have holds:∀j u,xs[j]?=some u->w.cell? ((⟨g,0,none⟩:Addr).add j)=some u:=by
       intro j u hu;have hadd:(⟨g,0,none⟩:Addr).add j=⟨g,j,none⟩:=(by unfold Addr.add;split<;>simp_all);rw[hadd,cell_of_row w g j cur e (0,0) hg];rw[<-htake,List.getElem?_take]at hu;split at hu
       · simpa using hu
       · cases hu
     have hr:=run_append_grow (P:=P) w t ty e i z ht hi hz ⟨g,0,none⟩ n cap xs hown.1 holds a m c news hl hnews (by omega) (by omega) (growslice_fits (by omega) hbytes);have hgr:=grown cap (by omega) (Value.ownBlock (.slice (some ⟨g,0,none⟩) n cap));exact ⟨_,_,hr,hgr.1,hgr.2,.inr rfl⟩
end
end
end Go.Proofs.YtmedjkhmadfjlaaGreat
