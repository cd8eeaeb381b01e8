/- Texts of one seat, put together: ExprT ExprG ExprRt. -/
import Derived.Test.YtgohmojcopajoaaGreatDoorP19
import Derived.Test.YtgohmojcopajoaaGreatDoorP05
import Derived.Test.YtgohmojcopajoaaGreatDoorP04
set_option linter.unusedVariables false
set_option linter.unusedSimpArgs false
set_option maxRecDepth 100000
set_option maxHeartbeats 16000000
namespace Go.Proofs.YtgohmojcopajoaaGreatDoor.Ex
section
theorem GQ (t:Tr):∀lv lv',lv<=lv'->right lv t->right lv' t:=by
 induction t with
 |leaf b=>intro lv lv' _ _;trivial
 |cmp l op x=>intro lv lv' _ h;exact h
 |deny t ih=>
  intro lv lv' hl h;unfold right at h ⊢;split
  · rename_i hc
    rw[if_pos hc]at h;exact ⟨by have:=h.1;omega,ih _ _ (by omega) h.2⟩
  · rename_i hc
    rw[if_neg hc]at h;exact ⟨by have:=h.1;omega,ih _ _ (by omega) h.2⟩
 |both a b iha ihb=>
  intro lv lv' hl h;obtain ⟨h1,h2⟩:=h;refine ⟨?_,?_⟩
  · split
    · rename_i hc
      rw[if_pos hc]at h1;exact ⟨by have:=h1.1;omega,iha _ _ (by omega) h1.2⟩
    · rename_i hc
      rw[if_neg hc]at h1;exact iha _ _ hl h1
  · split
    · rename_i hc
      rw[if_pos hc]at h2;exact ⟨by have:=h2.1;omega,ihb _ _ (by omega) h2.2⟩
    · rename_i hc
      rw[if_neg hc]at h2;exact ihb _ _ hl h2
 |any a b iha ihb=>
  intro lv lv' hl h;obtain ⟨h1,h2⟩:=h;refine ⟨iha _ _ hl h1,?_⟩;split
  · rename_i hc
    rw[if_pos hc]at h2;exact ⟨by have:=h2.1;omega,ihb _ _ (by omega) h2.2⟩
  · rename_i hc
    rw[if_neg hc]at h2;exact ihb _ _ hl h2
def WF (r:List PT):Prop:=∀p∈r,p.1=3->Dq p.2=true
theorem WF.tail {r:List PT} (h:WF r):WF r.tail:=fun p hp=>h p (List.mem_of_mem_tail hp)
theorem WF.of_cons {p:PT} {r:List PT} (h:WF (p::r)):WF r:=h.tail
theorem U7:Dq eS=false:=by decide +kernel
theorem SO:Cn eS=false:=by decide +kernel
theorem NJ {kn:ByteArray->Bool} {full neg:Bool} {r r1:List PT} {x:Mn} (hw:WF r) (h:Bu kn full neg r=.ok x r1):PG x/\WF r1/\(x.var≠eS->kn x.var=true)/\full=false:=by
 cases r with
 |nil=>cases h
 |cons p r=>
  rw[Bu]at h;by_cases c1:(p.1==3)=true
  · have hn:=hw p (List.mem_cons_self ..) (by simpa using c1);have hne:p.2≠eS:=fun e=>by rw[e,U7]at hn;cases hn
    rw[if_pos c1]at h;by_cases c2:full=true
    · rw[if_pos c2]at h;cases h
    · have hf:full=false:=(by simpa using c2);rw[if_neg c2]at h;by_cases c3:AL ⟨#[42]⟩ r=true
      · rw[if_pos c3]at h;cases hr:r.tail with
        |nil=>rw[hr]at h;cases h
        |cons p2 r2=>
          rw[hr]at h;dsimp only at h
          by_cases c4:AZ p2=true
          · rw[if_pos c4]at h;by_cases c5:kn p2.2=true
            · rw[if_pos c5]at h;injection h with h1 h2
              subst h1 h2;have hv:Cn p2.2=true:=by simp only[AZ,Bool.and_eq_true]at c4;exact c4.2
              refine ⟨⟨fun hh=>hne hh.1,Or.inr hn,Or.inr hv⟩,?_,fun _=>c5,hf⟩;have:=hw.of_cons.tail;rw[hr]at this;exact this.of_cons
            · rw[if_neg c5]at h;cases h
          · rw[if_neg c4]at h;cases h
      · rw[if_neg c3]at h;injection h with h1 h2
        subst h1 h2;exact ⟨⟨fun hh=>hne hh.1,Or.inr hn,Or.inl rfl⟩,hw.of_cons,fun hh=>absurd rfl hh,hf⟩
  · rw[if_neg c1]at h;by_cases c2:AZ p=true
    · rw[if_pos c2]at h;have hv:Cn p.2=true:=by
        simp only[AZ,Bool.and_eq_true]at c2;exact c2.2
      have hne:p.2≠eS:=fun e=>by rw[e,SO]at hv;cases hv
      by_cases c3:full=true
      · rw[if_pos c3]at h;cases h
      · rw[if_neg c3]at h;by_cases c4:kn p.2=true
        · rw[if_pos c4]at h;injection h with h1 h2
          subst h1 h2;exact ⟨⟨fun hh=>hne hh.2,Or.inl rfl,Or.inr hv⟩,hw.of_cons,fun _=>c4,by simpa using c3⟩
        · rw[if_neg c4]at h;cases h
    · rw[if_neg c2]at h;cases h
theorem I7 (kn:ByteArray->Bool) (m:Nat):∀(neg:Bool) (acc:List Mn) (r:List PT) (l:List Mn) (r1:List PT),WF r->acc.length<=64->(∀x∈acc,PG x)->I6 kn acc->DP kn m neg acc r=.ok l r1->I5 l/\WF r1/\I6 kn l:=by
 induction m with
 |zero=>intro neg acc r l r1 _ _ _ _ h;cases h
 |succ m ih=>
  intro neg acc r l r1 hw hc ha hk h;rw[DP]at h;cases hm:Bu kn (acc.length==64) neg r with
  |fuel=>rw[hm]at h;cases h
  |err c r2=>rw[hm]at h;cases h
  |ok x r2=>
   rw[hm]at h;obtain ⟨h1,h2,h3,h4⟩:=NJ hw hm;have h5:acc.length≠64:=(by simpa using h4);have ha2:∀y∈acc++[x],PG y:=fun y hy=>by
     rcases List.mem_append.1 hy with hy|hy
     · exact ha y hy
     · have:y=x:=by simpa using hy
       rw[this];exact h1
   have hk2:I6 kn (acc++[x]):=fun y hy=>by
     rcases List.mem_append.1 hy with hy|hy
     · exact hk y hy
     · have:y=x:=by simpa using hy
       rw[this];exact h3
   have hc2:(acc++[x]).length<=64:=(by rw[List.length_append,List.length_cons,List.length_nil];omega);dsimp only at h
   by_cases c1:AL ⟨#[45]⟩ r2=true
   · rw[if_pos c1]at h;exact ih _ _ _ _ _ h2.tail hc2 ha2 hk2 h
   · rw[if_neg c1]at h;by_cases c2:AL ⟨#[43]⟩ r2=true
     · rw[if_pos c2]at h;exact ih _ _ _ _ _ h2.tail hc2 ha2 hk2 h
     · rw[if_neg c2]at h;injection h with e1 e2
       subst e1 e2;exact ⟨⟨by rw[List.length_append,List.length_cons,List.length_nil];omega,hc2,ha2⟩,h2,hk2⟩
theorem Il {kn:ByteArray->Bool} {r r1:List PT} {l:List Mn} (hw:WF r) (h:Ba kn r=.ok l r1):I5 l/\WF r1/\I6 kn l:=by
 unfold Ba at h;split at h
 · exact I7 kn _ _ _ _ _ _ hw.tail (Nat.zero_le _) (fun x hx=>by cases hx) (fun x hx=>by cases hx) h
 · exact I7 kn _ _ _ _ _ _ hw (Nat.zero_le _) (fun x hx=>by cases hx) (fun x hx=>by cases hx) h
theorem U8 {r:List PT} {op:Nat} (h:Kn r=some op):op<6:=by unfold Kn at h;have:=List.mem_of_find?_eq_some h;simpa using this
theorem PI {kn:ByteArray->Bool} {r r1:List PT} {t:Tr} (hw:WF r) (h:G3 kn r=.ok t r1):∃l op x,t=.cmp l op x/\I5 l/\op<6/\I5 x/\WF r1/\I6 kn l/\I6 kn x:=by
 unfold G3 at h;cases h1:Ba kn r with
 |fuel=>rw[h1]at h;cases h
 |err c r1=>rw[h1]at h;cases h
 |ok l r2=>
  rw[h1]at h;obtain ⟨a1,a2,a3⟩:=Il hw h1;dsimp only at h
  cases h2:Kn r2 with
  |none=>rw[h2]at h;cases h
  |some op=>
   rw[h2]at h;dsimp only at h
   cases h3:Ba kn r2.tail with
   |fuel=>rw[h3]at h;cases h
   |err c r2=>rw[h3]at h;cases h
   |ok x r3=>
    rw[h3]at h;obtain ⟨b1,b2,b3⟩:=Il a2.tail h3;dsimp only at h
    injection h with e1 e2
    subst e1 e2;exact ⟨l,op,x,rfl,a1,U8 h2,b1,b2,a3,b3⟩
def J1 (lv:Nat) (t:Tr):Prop:=if BI t || Bd t then 1<=lv/\right (lv-1) t else right lv t
def MG (lv:Nat) (t:Tr):Prop:=if Bd t then 1<=lv/\right (lv-1) t else right lv t
theorem PJ {lv:Nat} {t:Tr} (h:J1 lv t):right lv t:=by
 unfold J1 at h;split at h
 · exact GQ t _ _ (by omega) h.2
 · exact h
theorem PK {lv:Nat} {t:Tr} (h:MG lv t):right lv t:=by
 unfold MG at h;split at h
 · exact GQ t _ _ (by omega) h.2
 · exact h
theorem SP {lv:Nat} {t:Tr} (h:J1 lv t):MG lv t:=by
 unfold MG;split
 · rename_i hc
   unfold J1 at h;rw[hc,Bool.or_true,if_pos rfl]at h;exact h
 · exact PJ h
def Wo (lv:Nat):Md->Tr->Prop
 |.one,t=>J1 lv t
 |.both,t=>MG lv t
 |.bothGo _,t=>MG lv t
 |.cond,t=>right lv t
 |.condGo _,t=>right lv t
def SQ (kn:ByteArray->Bool) (lv:Nat):Md->Prop
 |.bothGo t=>MG lv t/\Gw kn t
 |.condGo t=>right lv t/\Gw kn t
 |_=>True
theorem NK (kn:ByteArray->Bool) (n:Nat):∀(md:Md) (lv:Nat) (r:List PT) (t:Tr) (r1:List PT),WF r->SQ kn lv md->BD kn n md lv r=.ok t r1->Wo lv md t/\WF r1/\Gw kn t:=by
 induction n with
 |zero=>intro md lv r t r1 _ _ h;cases h
 |succ n ih=>
  intro md lv r t r1 hw hs h;cases md with
  |one=>
   rw[Hb]at h;by_cases c1:lv=0/\(AL ⟨#[33]⟩ r=true\/AL ⟨#[40]⟩ r=true)
   · rw[if_pos c1]at h;cases h
   · rw[if_neg c1]at h;by_cases c2:AL ⟨#[33]⟩ r=true
     · rw[if_pos c2]at h;obtain ⟨t2,r2,h1,h2⟩:=CV h;injection h2 with e1 e2
       subst e1 e2;obtain ⟨a1,a2,a3⟩:=ih .one _ _ _ _ hw.tail trivial h1;have hlv:1<=lv:=by
         rcases Nat.eq_zero_or_pos lv with h0|h0
         · exact absurd ⟨h0,Or.inl c2⟩ c1
         · exact h0
       refine ⟨?_,a2,a3⟩;show J1 lv (.deny t2);unfold J1;rw[if_neg (show ¬((BI (.deny t2) || Bd (.deny t2))=true) from Bool.false_ne_true)];unfold right;have a1':J1 (lv-1) t2:=a1;unfold J1 at a1';split
       · rename_i hc
         rw[if_pos hc]at a1';exact ⟨by have:=a1'.1;omega,by rw[show lv-2=lv-1-1 by omega];exact a1'.2⟩
       · rename_i hc
         rw[if_neg hc]at a1';exact ⟨hlv,a1'⟩
     · rw[if_neg c2]at h;by_cases c3:AL ⟨#[40]⟩ r=true
       · rw[if_pos c3]at h;obtain ⟨t2,r2,h1,h2⟩:=CV h;obtain ⟨a1,a2,a3⟩:=ih .cond _ _ _ _ hw.tail trivial h1;have hlv:1<=lv:=by
           rcases Nat.eq_zero_or_pos lv with h0|h0
           · exact absurd ⟨h0,Or.inr c3⟩ c1
           · exact h0
         split at h2
         · injection h2 with e1 e2
           subst e1 e2;refine ⟨?_,a2.tail,a3⟩;show J1 lv t2;unfold J1;split
           · exact ⟨hlv,a1⟩
           · exact GQ t2 _ _ (by omega) a1
         · cases h2
       · rw[if_neg c3]at h;split at h
         · injection h with e1 e2
           subst e1 e2;exact ⟨trivial,hw.tail,trivial⟩
         · split at h
           · injection h with e1 e2
             subst e1 e2;exact ⟨trivial,hw.tail,trivial⟩
           · obtain ⟨l,op,x,rfl,a1,a2,a3,a4,a5,a6⟩:=PI hw h;exact ⟨⟨a1,a2,a3⟩,a4,a5,a6⟩
  |both=>
   rw[Gg]at h;obtain ⟨t2,r2,h1,h2⟩:=CV h;obtain ⟨a1,a2,a3⟩:=ih .one _ _ _ _ hw trivial h1;exact ih (.bothGo t2) _ _ _ _ a2 ⟨SP a1,a3⟩ h2
  |bothGo k=>
   rw[EF]at h;split at h
   · obtain ⟨t2,r2,h1,h2⟩:=CV h;obtain ⟨a1,a2,a3⟩:=ih .one _ _ _ _ hw.tail trivial h1;refine ih (.bothGo (.both k t2)) _ _ _ _ a2 ⟨?_,hs.2,a3⟩ h2;unfold MG;rw[if_neg (show ¬(Bd (.both k t2)=true) from Bool.false_ne_true)];exact ⟨hs.1,a1⟩
   · injection h with e1 e2
     subst e1 e2;exact ⟨hs.1,hw,hs.2⟩
  |cond=>
   rw[Gh]at h;obtain ⟨t2,r2,h1,h2⟩:=CV h;obtain ⟨a1,a2,a3⟩:=ih .both _ _ _ _ hw trivial h1;exact ih (.condGo t2) _ _ _ _ a2 ⟨PK a1,a3⟩ h2
  |condGo k=>
   rw[EG]at h;split at h
   · obtain ⟨t2,r2,h1,h2⟩:=CV h;obtain ⟨a1,a2,a3⟩:=ih .both _ _ _ _ hw.tail trivial h1;exact ih (.condGo (.any k t2)) _ _ _ _ a2 ⟨⟨hs.1,a1⟩,hs.2,a3⟩ h2
   · injection h with e1 e2
     subst e1 e2;exact ⟨hs.1,hw,hs.2⟩
theorem NM {kn:ByteArray->Bool} {lv:Nat} {r r1:List PT} {t:Tr} (hw:WF r) (h:Ap kn .cond lv r=.ok t r1):right lv t/\WF r1/\Gw kn t:=NK kn _ .cond lv r t r1 hw trivial h
end
end Go.Proofs.YtgohmojcopajoaaGreatDoor.Ex
namespace Go.Proofs.YtgohmojcopajoaaGreatDoor
section
open Lx Ex
def JF (m:Mn):Bool:=!(decide (m.num=eS)&&decide (m.var=eS))&&(decide (m.num=eS) || Dq m.num)&&(decide (m.var=eS) || Cn m.var)
theorem SR (m:Mn):JF m=true↔PG m:=by
 unfold JF PG;simp only[Bool.and_eq_true,Bool.or_eq_true,decide_eq_true_eq,Bool.not_eq_true',Bool.and_eq_false_imp,decide_eq_false_iff_not];constructor
 · rintro ⟨⟨h1,h2⟩,h3⟩;exact ⟨fun h=>h1 h.1 h.2,h2,h3⟩
 · rintro ⟨h1,h2,h3⟩;exact ⟨⟨fun h h'=>h1 ⟨h,h'⟩,h2⟩,h3⟩
def BE (l:List Mn):Bool:=decide (1<=l.length)&&decide (l.length<=64)&&l.all JF
theorem MH (l:List Mn):BE l=true↔I5 l:=by unfold BE I5;simp only[Bool.and_eq_true,decide_eq_true_eq,List.all_eq_true,SR,and_assoc]
def GT.kind:GT->Int|.mk k _ _ _ _ _ _=>k
def GT.kids:GT->List GT|.mk _ _ _ _ _ _ ks=>ks
def Gx:GT->Bool|.mk _ l r op p q _=>decide (l.length=0)&&decide (r.length=0)&&decide (op=0)&&decide (p=eS)&&decide (q=eS)
def Lk:GT->Bool|.mk k l r op p q ks=>decide (k=2)&&decide (p=eS)&&decide (q=eS)&&decide (ks.length=0)&&decide (0<=op)&&decide (op<6)&&BE l&&BE r
def Bm (k kid:Int) (i:Nat):Bool:=if kid=5 then decide (k≠5) || decide (0<i) else if kid=4 then decide (k=3) || (decide (k=4)&&decide (0<i)) else false
def Ev (k:Int):Option Nat:=if k=0\/k=1 then some 0 else if k=3 then some 1 else if k=4\/k=5 then some 2 else none
mutual
def Bb:GT->Int->Bool
 |.mk k l r op p q kids,lv=>if k=2 then Lk (.mk k l r op p q kids) else match Ev k with
  |none=>false
  |some n=>decide (kids.length=n)&&Gx (.mk k l r op p q kids)&&BU kids k 0 (if k=3 then lv-1 else lv)
def BU:List GT->Int->Nat->Int->Bool
 |[],_,_,_=>true
 |t::ts,k,i,lv=>(decide (0<=(if Bm k t.kind i then lv-1 else lv))&&Bb t (if Bm k t.kind i then lv-1 else lv))&&BU ts k (i+1) lv
end
theorem I8 (u:Tr):BI u=decide ((gt u).kind=4):=by cases u<;>first|rfl|(rename_i b;cases b<;>rfl)
theorem F5 (u:Tr):Bd u=decide ((gt u).kind=5):=by cases u<;>first|rfl|(rename_i b;cases b<;>rfl)
theorem TQ (u:Tr) (i:Nat):Bm 3 (gt u).kind i=(BI u || Bd u):=by
 rw[I8,F5];unfold Bm;by_cases h5:(gt u).kind=5
 · rw[h5];simp
 · by_cases h4:(gt u).kind=4
   · rw[h4];simp
   · simp[h4,h5]
theorem Ro (u:Tr):Bm 4 (gt u).kind 0=Bd u:=by
 rw[F5];unfold Bm;by_cases h5:(gt u).kind=5
 · rw[h5];simp
 · by_cases h4:(gt u).kind=4
   · rw[h4];simp
   · simp[h4,h5]
theorem Rp (u:Tr):Bm 4 (gt u).kind 1=(BI u || Bd u):=by
 rw[I8,F5];unfold Bm;by_cases h5:(gt u).kind=5
 · rw[h5];simp
 · by_cases h4:(gt u).kind=4
   · rw[h4];simp
   · simp[h4,h5]
theorem Rq (u:Tr):Bm 5 (gt u).kind 0=false:=by
 unfold Bm;by_cases h5:(gt u).kind=5
 · rw[h5];simp
 · by_cases h4:(gt u).kind=4
   · rw[h4];simp
   · simp[h4,h5]
theorem Rr (u:Tr):Bm 5 (gt u).kind 1=Bd u:=by
 rw[F5];unfold Bm;by_cases h5:(gt u).kind=5
 · rw[h5];simp
 · by_cases h4:(gt u).kind=4
   · rw[h4];simp
   · simp[h4,h5]
theorem SU {c:Bool} {t:GT} {lv:Int} {P:Nat->Prop} (h:∀l:Nat,Bb t (l:Int)=true↔P l):(decide (0<=(if c then lv-1 else lv))&&Bb t (if c then lv-1 else lv))=true↔if c then 1<=lv/\P (lv-1).toNat else 0<=lv/\P lv.toNat:=by
 cases c
 · simp only[Bool.false_eq_true,if_false,Bool.and_eq_true,decide_eq_true_eq];constructor
   · rintro ⟨h1,h2⟩;exact ⟨h1,(h _).1 (by rw[Int.toNat_of_nonneg h1];exact h2)⟩
   · rintro ⟨h1,h2⟩;refine ⟨h1,?_⟩;have:=(h _).2 h2;rwa [Int.toNat_of_nonneg h1]at this
 · simp only[if_true,Bool.and_eq_true,decide_eq_true_eq];constructor
   · rintro ⟨h1,h2⟩;exact ⟨by omega,(h _).1 (by rw[Int.toNat_of_nonneg h1];exact h2)⟩
   · rintro ⟨h1,h2⟩;refine ⟨by omega,?_⟩;have:=(h _).2 h2;rwa [Int.toNat_of_nonneg (by omega)]at this
def PL (t:GT) (k:Int) (i:Nat) (lv:Int):Bool:=decide (0<=(if Bm k t.kind i then lv-1 else lv))&&Bb t (if Bm k t.kind i then lv-1 else lv)
theorem Ew (t:GT) (ts:List GT) (k:Int) (i:Nat) (lv:Int):BU (t::ts) k i lv=(PL t k i lv&&BU ts k (i+1) lv):=by rw[BU];rfl
theorem Fg (k:Int) (i:Nat) (lv:Int):BU [] k i lv=true:=by rw[BU]
theorem FW {t:GT} {k:Int} {i:Nat} {lv:Int} {P:Nat->Prop} (h:∀l:Nat,Bb t (l:Int)=true↔P l):PL t k i lv=true↔if Bm k t.kind i then 1<=lv/\P (lv-1).toNat else 0<=lv/\P lv.toNat:=SU h
theorem Im (u:Tr):∀lv:Nat,Bb (gt u) (lv:Int)=true↔right lv u:=by
 have bare:∀(k:Int) (ks:List GT),Gx (.mk k [] [] 0 ⟨#[]⟩ ⟨#[]⟩ ks)=true:=fun k ks=>by simp[Gx,eS]
 induction u with
 |leaf b=>intro lv;cases b<;>simp[gt,Bb,right,Ev,Gx,BU,eS]
 |cmp l op r=>
  intro lv;rw[gt,Bb,if_pos rfl,Lk,right,<-MH,<-MH];simp[eS];constructor
  · rintro ⟨⟨h1,h2⟩,h3⟩;exact ⟨h2,by omega,h3⟩
  · rintro ⟨h2,h1,h3⟩;exact ⟨⟨by omega,h2⟩,h3⟩
 |deny t ih=>
  intro lv;have e1:((lv:Int)-1).toNat=lv-1:=by omega
  have e2:((lv:Int)-1-1).toNat=lv-2:=by omega
  rw[gt,Bb,if_neg (by decide),show Ev 3=some 1 from rfl];simp only[Ew,Fg,Bool.and_true,Bool.and_eq_true,if_true];rw[FW ih,TQ,right,e1,e2];cases BI t || Bd t
  · simp only[Bool.false_eq_true,if_false];exact ⟨fun h=>⟨by omega,h.2.2⟩,fun h=>⟨⟨rfl,bare _ _⟩,by omega,h.2⟩⟩
  · simp only[if_true];exact ⟨fun h=>⟨by omega,h.2.2⟩,fun h=>⟨⟨rfl,bare _ _⟩,by omega,h.2⟩⟩
 |both a b iha ihb=>
  intro lv;have e1:((lv:Int)-1).toNat=lv-1:=by omega
  have e2:((lv:Int)).toNat=lv:=by omega
  rw[gt,Bb,if_neg (by decide),show Ev 4=some 2 from rfl];simp only[Ew,Fg,Bool.and_true,Bool.and_eq_true,Nat.zero_add];rw[if_neg (show ¬(4:Int)=3 by decide),FW iha,FW ihb,Ro,Rp,right,e1,e2];cases Bd a<;>cases BI b || Bd b
  · simp only[Bool.false_eq_true,if_false];exact ⟨fun h=>⟨h.2.1.2,h.2.2.2⟩,fun h=>⟨⟨rfl,bare _ _⟩,⟨by omega,h.1⟩,⟨by omega,h.2⟩⟩⟩
  · simp only[Bool.false_eq_true,if_false,if_true];exact ⟨fun h=>⟨h.2.1.2,by omega,h.2.2.2⟩,fun h=>⟨⟨rfl,bare _ _⟩,⟨by omega,h.1⟩,⟨by omega,h.2.2⟩⟩⟩
  · simp only[Bool.false_eq_true,if_false,if_true];exact ⟨fun h=>⟨⟨by omega,h.2.1.2⟩,h.2.2.2⟩,fun h=>⟨⟨rfl,bare _ _⟩,⟨by omega,h.1.2⟩,⟨by omega,h.2⟩⟩⟩
  · simp only[if_true];exact ⟨fun h=>⟨⟨by omega,h.2.1.2⟩,by omega,h.2.2.2⟩,fun h=>⟨⟨rfl,bare _ _⟩,⟨by omega,h.1.2⟩,⟨by omega,h.2.2⟩⟩⟩
 |any a b iha ihb=>
  intro lv;have e1:((lv:Int)-1).toNat=lv-1:=by omega
  have e2:((lv:Int)).toNat=lv:=by omega
  rw[gt,Bb,if_neg (by decide),show Ev 5=some 2 from rfl];simp only[Ew,Fg,Bool.and_true,Bool.and_eq_true,Nat.zero_add];rw[if_neg (show ¬(5:Int)=3 by decide),FW iha,FW ihb,Rq,Rr,right,e1,e2];cases Bd b
  · simp only[Bool.false_eq_true,if_false];exact ⟨fun h=>⟨h.2.1.2,h.2.2.2⟩,fun h=>⟨⟨rfl,bare _ _⟩,⟨by omega,h.1⟩,⟨by omega,h.2⟩⟩⟩
  · simp only[Bool.false_eq_true,if_false,if_true];exact ⟨fun h=>⟨h.2.1.2,by omega,h.2.2.2⟩,fun h=>⟨⟨rfl,bare _ _⟩,⟨by omega,h.1⟩,⟨by omega,h.2.2⟩⟩⟩
end
section
open Go.RowKit
open Lx Ex
def BF (b:Bool) (w:World) (e:Ending) (w':World):Prop:=e=.returned (.bool b)/\Below w.heap.size w w'
theorem SV:(eS.toList:List UInt8)=[]:=by rw[Lib.toList_data];rfl
theorem DD {s:ByteArray} (h:s=eS):(s.toList==([]:List UInt8))=true:=by rw[h,SV];rfl
theorem C7 {s:ByteArray} (h:s≠eS):(s.toList==([]:List UInt8))=false:=by
 rw[beq_eq_false_iff_ne];intro e;apply h;rw[Lib.toList_data]at e;cases s with
 |mk d=>cases d with
  |mk l=>simp at e;rw[e];rfl
theorem PM (m:Mn) (w0:World) (hn:m.num.size<=4611686018427387904) (hv:m.var.size<=4611686018427387904):Calls Tryz.prog 39 #[.agg #[.bool m.neg,.string m.num,.string m.var]] w0 (BF (JF m) w0):=by
 obtain ⟨x1,hb,-⟩:=Ay 88 w0 #[.bool m.neg,.string m.num,.string m.var];have c1:=x1.cell 1 _ rfl;have c2:=x1.cell 2 _ rfl;have HB:=Aa hb;have X1:=Aa x1;have HN:=Aa (fun W=>IW m.num W hn);have HV:=Aa (fun W=>LN m.var W hv);unfold I0 at HN HV;have HNE:=Aa (show Qr 3 m.num=Dq m.num from Km _);have HVE:=Aa (show (Qr 1 m.var&&!Gp m.var)=Cn m.var from OD _);have HNN:=Aa (fun W=>HNE.out▸HN.out W);have HVV:=Aa (fun W=>HVE.out▸HV.out W)
 obtain ⟨neg,num,var,hm⟩:∃neg num var,m=⟨num,var,neg⟩:=⟨m.neg,m.num,m.var,by cases m;rfl⟩;subst hm;clear hb x1 hn hv HN HV HNE HVE;by_cases hn:num=eS
 · by_cases hv:var=eS
   · have hn1:=DD hn;have hv1:=DD hv;have HE:=Aa (show JF ⟨num,var,neg⟩=false from by simp[JF,hn,hv]);clear hn hv;go_enter Tryz.func39,Tryz.ntmps39;go_wp2_with fail;go_ret
     exact ⟨by rw[HE.out];rfl,HB.out⟩
   · have hn1:=DD hn;have hv1:=C7 hv;have HE:=Aa (show JF ⟨num,var,neg⟩=Cn var from by simp[JF,hn,hv]);clear hn hv;go_enter Tryz.func39,Tryz.ntmps39;go_wp2_with fail;refine (HVV.out _).mono ?_;rintro e w2 ⟨rfl,b2⟩;have HB2:=Aa (HB.out.next b2);clear b2;go_wp2_with fail;go_ret
     exact ⟨by rw[HE.out];rfl,HB2.out⟩
 · by_cases hv:var=eS
   · have hn1:=C7 hn;have hv1:=DD hv;have HE:=Aa (show JF ⟨num,var,neg⟩=(Dq num&&true) from by simp[JF,hn,hv]);clear hn hv;go_enter Tryz.func39,Tryz.ntmps39;go_wp2_with fail;refine (HNN.out _).mono ?_;rintro e w2 ⟨rfl,b2⟩;have HB2:=Aa (HB.out.next b2);have c1:=(X1.out.next b2).cell 1 _ rfl;have c2:=(X1.out.next b2).cell 2 _ rfl;clear b2;have HE:=Aa HE.out;generalize Dq num=rn at *;cases rn
     · go_wp2_with fail;go_ret
       exact ⟨by rw[HE.out];rfl,HB2.out⟩
     · go_wp2_with fail;go_ret
       exact ⟨by rw[HE.out];rfl,HB2.out⟩
   · have hn1:=C7 hn;have hv1:=C7 hv;have HE:=Aa (show JF ⟨num,var,neg⟩=(Dq num&&Cn var) from by simp[JF,hn,hv]);clear hn hv;go_enter Tryz.func39,Tryz.ntmps39;go_wp2_with fail;refine (HNN.out _).mono ?_;rintro e w2 ⟨rfl,b2⟩;have HB2:=Aa (HB.out.next b2);have c1:=(X1.out.next b2).cell 1 _ rfl;have c2:=(X1.out.next b2).cell 2 _ rfl;clear b2;have HE:=Aa HE.out;generalize Dq num=rn at *;cases rn
     · go_wp2_with fail;go_ret
       exact ⟨by rw[HE.out];rfl,HB2.out⟩
     · go_wp2_with fail;refine (HVV.out _).mono ?_;rintro e w3 ⟨rfl,b3⟩;have HB3:=Aa (HB2.out.next b3);clear b3;go_wp2_with fail;go_ret
       exact ⟨by rw[HE.out];rfl,HB3.out⟩
end
end Go.Proofs.YtgohmojcopajoaaGreatDoor
