/- Texts of one seat, put together: ExprB ExprT ExprG ExprRt. -/
import Derived.Test.YtgohmojcopajoaaGreatDoorP19
import Derived.Test.YtgohmojcopajoaaGreatDoorP05
import Derived.Test.YtgohmojcopajoaaGreatDoorP04
set_option linter.unusedVariables false
set_option linter.unusedSimpArgs false
set_option maxRecDepth 100000
set_option maxHeartbeats 16000000
namespace Go.Proofs.YtgohmojcopajoaaGreatDoor.Ex
section
theorem Hx (i:Nat) (x:ByteArray) (r:List PT):AD x ((2,CR i)::r)=decide (CR i=x):=by simp[AD]
theorem RO (op:Nat) (h:op<6) (r:List PT):JM ((2,CR op)::r)=some op:=by
 unfold JM;rw[show (fun i=>AD (CR i) ((2,CR op)::r))=fun i=>decide (CR op=CR i) from funext fun i=>Hx op (CR i) r];have h6:op=0\/op=1\/op=2\/op=3\/op=4\/op=5:=by omega
 rcases h6 with rfl|rfl|rfl|rfl|rfl|rfl<;>decide +kernel
theorem RP (op:Nat) (h:op<6) (r:List PT):Ez ((2,CR op)::r):=by
 unfold Ez;rw[Hx,Hx,Hx];have h6:op=0\/op=1\/op=2\/op=3\/op=4\/op=5:=by omega
 rcases h6 with rfl|rfl|rfl|rfl|rfl|rfl<;>exact ⟨by decide +kernel,by decide +kernel,by decide +kernel⟩
theorem RQ (kn:ByteArray->Bool) (l:List Mn) (op:Nat) (x:List Mn) (r:List PT) (hl:FM l) (ho:op<6) (hx:FM x) (kl:FN kn l) (kx:FN kn x) (hr:Ez r):FS kn (Gf l++(2,CR op)::(Gf x++r))=.ok (.cmp l op x) r:=by
 unfold FS;rw[MU kn l _ hl kl (RP op ho _)];dsimp only
 rw[RO op ho];dsimp only
 rw[List.tail_cons,MU kn x r hx kx hr]
theorem EU (s:ByteArray) (c:UInt8) (hs:s≠⟨#[c]⟩) (r:List PT):AD ⟨#[c]⟩ ((1,s)::r)=false:=by
 cases hd:AD ⟨#[c]⟩ ((1,s)::r) with
 |false=>rfl
 |true=> have h2:(decide (s=⟨#[c]⟩)&&((1:Nat)==1 || (1:Nat)==2 || (1:Nat)==4))=true:=hd;rw[Bool.and_eq_true]at h2;exact absurd (of_decide_eq_true h2.1) hs
theorem Pl (s:ByteArray) (r:List PT):AD s ((1,s)::r)=true:=by simp[AD]
theorem Gw (kn:ByteArray->Bool) (lv:Nat) (t:Tr) (r:List PT) (h:AD ⟨#[38]⟩ r=false):Ak kn (.bothGo t) lv r=.ok t r:=by rw[Eb,if_neg (by rw[h];decide)]
end
section
theorem Ha (t:Tr):∀lv lv',lv<=lv'->right lv t->right lv' t:=by
 induction t with
 |leaf b=>intro lv lv' _ _;trivial
 |cmp l op x=>intro lv lv' _ h;exact h
 |deny t ih=>
  intro lv lv' hl h;unfold right at h ⊢;split
  · rename_i hc
    rw[if_pos hc]at h;exact ⟨by have:=h.1;omega,ih _ _ (by omega) h.2⟩
  · rename_i hc
    rw[if_neg hc]at h;exact ⟨by have:=h.1;omega,ih _ _ (by omega) h.2⟩
 |both a b iha ihb=>
  intro lv lv' hl h;obtain ⟨h1,h2⟩:=h;refine ⟨?_,?_⟩
  · split
    · rename_i hc
      rw[if_pos hc]at h1;exact ⟨by have:=h1.1;omega,iha _ _ (by omega) h1.2⟩
    · rename_i hc
      rw[if_neg hc]at h1;exact iha _ _ hl h1
  · split
    · rename_i hc
      rw[if_pos hc]at h2;exact ⟨by have:=h2.1;omega,ihb _ _ (by omega) h2.2⟩
    · rename_i hc
      rw[if_neg hc]at h2;exact ihb _ _ hl h2
 |any a b iha ihb=>
  intro lv lv' hl h;obtain ⟨h1,h2⟩:=h;refine ⟨iha _ _ hl h1,?_⟩;split
  · rename_i hc
    rw[if_pos hc]at h2;exact ⟨by have:=h2.1;omega,ihb _ _ (by omega) h2.2⟩
  · rename_i hc
    rw[if_neg hc]at h2;exact ihb _ _ hl h2
def WF (r:List PT):Prop:=∀p∈r,p.1=3->Do p.2=true
theorem WF.tail {r:List PT} (h:WF r):WF r.tail:=fun p hp=>h p (List.mem_of_mem_tail hp)
theorem WF.of_cons {p:PT} {r:List PT} (h:WF (p::r)):WF r:=h.tail
theorem Vj:Do eS=false:=by decide +kernel
theorem TJ:BK eS=false:=by decide +kernel
theorem Oa {kn:ByteArray->Bool} {full neg:Bool} {r r1:List PT} {x:Mn} (hw:WF r) (h:Bd kn full neg r=.ok x r1):Kd x/\WF r1/\(x.var≠eS->kn x.var=true)/\full=false:=by
 cases r with
 |nil=>cases h
 |cons p r=>
  rw[Bd]at h;by_cases c1:(p.1==3)=true
  · have hn:=hw p (List.mem_cons_self ..) (by simpa using c1);have hne:p.2≠eS:=fun e=>by rw[e,Vj]at hn;cases hn
    rw[if_pos c1]at h;by_cases c2:full=true
    · rw[if_pos c2]at h;cases h
    · have hf:full=false:=(by simpa using c2);rw[if_neg c2]at h;by_cases c3:AD ⟨#[42]⟩ r=true
      · rw[if_pos c3]at h;cases hr:r.tail with
        |nil=>rw[hr]at h;cases h
        |cons p2 r2=>
          rw[hr]at h;dsimp only at h
          by_cases c4:AL p2=true
          · rw[if_pos c4]at h;by_cases c5:kn p2.2=true
            · rw[if_pos c5]at h;injection h with h1 h2
              subst h1 h2;have hv:BK p2.2=true:=by simp only[AL,Bool.and_eq_true]at c4;exact c4.2
              refine ⟨⟨fun hh=>hne hh.1,Or.inr hn,Or.inr hv⟩,?_,fun _=>c5,hf⟩;have:=hw.of_cons.tail;rw[hr]at this;exact this.of_cons
            · rw[if_neg c5]at h;cases h
          · rw[if_neg c4]at h;cases h
      · rw[if_neg c3]at h;injection h with h1 h2
        subst h1 h2;exact ⟨⟨fun hh=>hne hh.1,Or.inr hn,Or.inl rfl⟩,hw.of_cons,fun hh=>absurd rfl hh,hf⟩
  · rw[if_neg c1]at h;by_cases c2:AL p=true
    · rw[if_pos c2]at h;have hv:BK p.2=true:=by
        simp only[AL,Bool.and_eq_true]at c2;exact c2.2
      have hne:p.2≠eS:=fun e=>by rw[e,TJ]at hv;cases hv
      by_cases c3:full=true
      · rw[if_pos c3]at h;cases h
      · rw[if_neg c3]at h;by_cases c4:kn p.2=true
        · rw[if_pos c4]at h;injection h with h1 h2
          subst h1 h2;exact ⟨⟨fun hh=>hne hh.2,Or.inl rfl,Or.inr hv⟩,hw.of_cons,fun _=>c4,by simpa using c3⟩
        · rw[if_neg c4]at h;cases h
    · rw[if_neg c2]at h;cases h
theorem IE (kn:ByteArray->Bool) (m:Nat):∀(neg:Bool) (acc:List Mn) (r:List PT) (l:List Mn) (r1:List PT),WF r->acc.length<=64->(∀x∈acc,Kd x)->FN kn acc->CO kn m neg acc r=.ok l r1->FM l/\WF r1/\FN kn l:=by
 induction m with
 |zero=>intro neg acc r l r1 _ _ _ _ h;cases h
 |succ m ih=>
  intro neg acc r l r1 hw hc ha hk h;rw[CO]at h;cases hm:Bd kn (acc.length==64) neg r with
  |fuel=>rw[hm]at h;cases h
  |err c r2=>rw[hm]at h;cases h
  |ok x r2=>
   rw[hm]at h;obtain ⟨h1,h2,h3,h4⟩:=Oa hw hm;have h5:acc.length≠64:=(by simpa using h4);have ha2:∀y∈acc++[x],Kd y:=fun y hy=>by
     rcases List.mem_append.1 hy with hy|hy
     · exact ha y hy
     · have:y=x:=by simpa using hy
       rw[this];exact h1
   have hk2:FN kn (acc++[x]):=fun y hy=>by
     rcases List.mem_append.1 hy with hy|hy
     · exact hk y hy
     · have:y=x:=by simpa using hy
       rw[this];exact h3
   have hc2:(acc++[x]).length<=64:=(by rw[List.length_append,List.length_cons,List.length_nil];omega);dsimp only at h
   by_cases c1:AD ⟨#[45]⟩ r2=true
   · rw[if_pos c1]at h;exact ih _ _ _ _ _ h2.tail hc2 ha2 hk2 h
   · rw[if_neg c1]at h;by_cases c2:AD ⟨#[43]⟩ r2=true
     · rw[if_pos c2]at h;exact ih _ _ _ _ _ h2.tail hc2 ha2 hk2 h
     · rw[if_neg c2]at h;injection h with e1 e2
       subst e1 e2;exact ⟨⟨by rw[List.length_append,List.length_cons,List.length_nil];omega,hc2,ha2⟩,h2,hk2⟩
theorem Iv {kn:ByteArray->Bool} {r r1:List PT} {l:List Mn} (hw:WF r) (h:AX kn r=.ok l r1):FM l/\WF r1/\FN kn l:=by
 unfold AX at h;split at h
 · exact IE kn _ _ _ _ _ _ hw.tail (Nat.zero_le _) (fun x hx=>by cases hx) (fun x hx=>by cases hx) h
 · exact IE kn _ _ _ _ _ _ hw (Nat.zero_le _) (fun x hx=>by cases hx) (fun x hx=>by cases hx) h
theorem Vk {r:List PT} {op:Nat} (h:JM r=some op):op<6:=by unfold JM at h;have:=List.mem_of_find?_eq_some h;simpa using this
theorem Qg {kn:ByteArray->Bool} {r r1:List PT} {t:Tr} (hw:WF r) (h:FS kn r=.ok t r1):∃l op x,t=.cmp l op x/\FM l/\op<6/\FM x/\WF r1/\FN kn l/\FN kn x:=by
 unfold FS at h;cases h1:AX kn r with
 |fuel=>rw[h1]at h;cases h
 |err c r1=>rw[h1]at h;cases h
 |ok l r2=>
  rw[h1]at h;obtain ⟨a1,a2,a3⟩:=Iv hw h1;dsimp only at h
  cases h2:JM r2 with
  |none=>rw[h2]at h;cases h
  |some op=>
   rw[h2]at h;dsimp only at h
   cases h3:AX kn r2.tail with
   |fuel=>rw[h3]at h;cases h
   |err c r2=>rw[h3]at h;cases h
   |ok x r3=>
    rw[h3]at h;obtain ⟨b1,b2,b3⟩:=Iv a2.tail h3;dsimp only at h
    injection h with e1 e2
    subst e1 e2;exact ⟨l,op,x,rfl,a1,Vk h2,b1,b2,a3,b3⟩
def J8 (lv:Nat) (t:Tr):Prop:=if Bp t || AR t then 1<=lv/\right (lv-1) t else right lv t
def MV (lv:Nat) (t:Tr):Prop:=if AR t then 1<=lv/\right (lv-1) t else right lv t
theorem Qh {lv:Nat} {t:Tr} (h:J8 lv t):right lv t:=by
 unfold J8 at h;split at h
 · exact Ha t _ _ (by omega) h.2
 · exact h
theorem Qi {lv:Nat} {t:Tr} (h:MV lv t):right lv t:=by
 unfold MV at h;split at h
 · exact Ha t _ _ (by omega) h.2
 · exact h
theorem TL {lv:Nat} {t:Tr} (h:J8 lv t):MV lv t:=by
 unfold MV;split
 · rename_i hc
   unfold J8 at h;rw[hc,Bool.or_true,if_pos rfl]at h;exact h
 · exact Qh h
def WX (lv:Nat):Md->Tr->Prop
 |.one,t=>J8 lv t
 |.both,t=>MV lv t
 |.bothGo _,t=>MV lv t
 |.cond,t=>right lv t
 |.condGo _,t=>right lv t
def TM (kn:ByteArray->Bool) (lv:Nat):Md->Prop
 |.bothGo t=>MV lv t/\knows kn t
 |.condGo t=>right lv t/\knows kn t
 |_=>True
theorem Ob (kn:ByteArray->Bool) (n:Nat):∀(md:Md) (lv:Nat) (r:List PT) (t:Tr) (r1:List PT),WF r->TM kn lv md->BE kn n md lv r=.ok t r1->WX lv md t/\WF r1/\knows kn t:=by
 induction n with
 |zero=>intro md lv r t r1 _ _ h;cases h
 |succ n ih=>
  intro md lv r t r1 hw hs h;cases md with
  |one=>
   rw[Hj]at h;by_cases c1:lv=0/\(AD ⟨#[33]⟩ r=true\/AD ⟨#[40]⟩ r=true)
   · rw[if_pos c1]at h;cases h
   · rw[if_neg c1]at h;by_cases c2:AD ⟨#[33]⟩ r=true
     · rw[if_pos c2]at h;obtain ⟨t2,r2,h1,h2⟩:=bind_ok h;injection h2 with e1 e2
       subst e1 e2;obtain ⟨a1,a2,a3⟩:=ih .one _ _ _ _ hw.tail trivial h1;have hlv:1<=lv:=by
         rcases Nat.eq_zero_or_pos lv with h0|h0
         · exact absurd ⟨h0,Or.inl c2⟩ c1
         · exact h0
       refine ⟨?_,a2,a3⟩;show J8 lv (.deny t2);unfold J8;rw[if_neg (show ¬((Bp (.deny t2) || AR (.deny t2))=true) from Bool.false_ne_true)];unfold right;have a1':J8 (lv-1) t2:=a1;unfold J8 at a1';split
       · rename_i hc
         rw[if_pos hc]at a1';exact ⟨by have:=a1'.1;omega,by rw[show lv-2=lv-1-1 by omega];exact a1'.2⟩
       · rename_i hc
         rw[if_neg hc]at a1';exact ⟨hlv,a1'⟩
     · rw[if_neg c2]at h;by_cases c3:AD ⟨#[40]⟩ r=true
       · rw[if_pos c3]at h;obtain ⟨t2,r2,h1,h2⟩:=bind_ok h;obtain ⟨a1,a2,a3⟩:=ih .cond _ _ _ _ hw.tail trivial h1;have hlv:1<=lv:=by
           rcases Nat.eq_zero_or_pos lv with h0|h0
           · exact absurd ⟨h0,Or.inr c3⟩ c1
           · exact h0
         split at h2
         · injection h2 with e1 e2
           subst e1 e2;refine ⟨?_,a2.tail,a3⟩;show J8 lv t2;unfold J8;split
           · exact ⟨hlv,a1⟩
           · exact Ha t2 _ _ (by omega) a1
         · cases h2
       · rw[if_neg c3]at h;split at h
         · injection h with e1 e2
           subst e1 e2;exact ⟨trivial,hw.tail,trivial⟩
         · split at h
           · injection h with e1 e2
             subst e1 e2;exact ⟨trivial,hw.tail,trivial⟩
           · obtain ⟨l,op,x,rfl,a1,a2,a3,a4,a5,a6⟩:=Qg hw h;exact ⟨⟨a1,a2,a3⟩,a4,a5,a6⟩
  |both=>
   rw[Gq]at h;obtain ⟨t2,r2,h1,h2⟩:=bind_ok h;obtain ⟨a1,a2,a3⟩:=ih .one _ _ _ _ hw trivial h1;exact ih (.bothGo t2) _ _ _ _ a2 ⟨TL a1,a3⟩ h2
  |bothGo k=>
   rw[EK]at h;split at h
   · obtain ⟨t2,r2,h1,h2⟩:=bind_ok h;obtain ⟨a1,a2,a3⟩:=ih .one _ _ _ _ hw.tail trivial h1;refine ih (.bothGo (.both k t2)) _ _ _ _ a2 ⟨?_,hs.2,a3⟩ h2;unfold MV;rw[if_neg (show ¬(AR (.both k t2)=true) from Bool.false_ne_true)];exact ⟨hs.1,a1⟩
   · injection h with e1 e2
     subst e1 e2;exact ⟨hs.1,hw,hs.2⟩
  |cond=>
   rw[Gr]at h;obtain ⟨t2,r2,h1,h2⟩:=bind_ok h;obtain ⟨a1,a2,a3⟩:=ih .both _ _ _ _ hw trivial h1;exact ih (.condGo t2) _ _ _ _ a2 ⟨Qi a1,a3⟩ h2
  |condGo k=>
   rw[EL]at h;split at h
   · obtain ⟨t2,r2,h1,h2⟩:=bind_ok h;obtain ⟨a1,a2,a3⟩:=ih .both _ _ _ _ hw.tail trivial h1;exact ih (.condGo (.any k t2)) _ _ _ _ a2 ⟨⟨hs.1,a1⟩,hs.2,a3⟩ h2
   · injection h with e1 e2
     subst e1 e2;exact ⟨hs.1,hw,hs.2⟩
theorem Oc {kn:ByteArray->Bool} {lv:Nat} {r r1:List PT} {t:Tr} (hw:WF r) (h:Ak kn .cond lv r=.ok t r1):right lv t/\WF r1/\knows kn t:=Ob kn _ .cond lv r t r1 hw trivial h
end
end Go.Proofs.YtgohmojcopajoaaGreatDoor.Ex
namespace Go.Proofs.YtgohmojcopajoaaGreatDoor
section
open Lx Ex
def JN (m:Mn):Bool:=!(decide (m.num=eS)&&decide (m.var=eS))&&(decide (m.num=eS) || Do m.num)&&(decide (m.var=eS) || BK m.var)
theorem TN (m:Mn):JN m=true↔Kd m:=by
 unfold JN Kd;simp only[Bool.and_eq_true,Bool.or_eq_true,decide_eq_true_eq,Bool.not_eq_true',Bool.and_eq_false_imp,decide_eq_false_iff_not];constructor
 · rintro ⟨⟨h1,h2⟩,h3⟩;exact ⟨fun h=>h1 h.1 h.2,h2,h3⟩
 · rintro ⟨h1,h2,h3⟩;exact ⟨⟨fun h h'=>h1 ⟨h,h'⟩,h2⟩,h3⟩
def BF (l:List Mn):Bool:=decide (1<=l.length)&&decide (l.length<=64)&&l.all JN
theorem MW (l:List Mn):BF l=true↔FM l:=by unfold BF FM;simp only[Bool.and_eq_true,decide_eq_true_eq,List.all_eq_true,TN,and_assoc]
def GT.kind:GT->Int|.mk k _ _ _ _ _ _=>k
def GT.kids:GT->List GT|.mk _ _ _ _ _ _ ks=>ks
def GD:GT->Bool|.mk _ l r op p q _=>decide (l.length=0)&&decide (r.length=0)&&decide (op=0)&&decide (p=eS)&&decide (q=eS)
def Lu:GT->Bool|.mk k l r op p q ks=>decide (k=2)&&decide (p=eS)&&decide (q=eS)&&decide (ks.length=0)&&decide (0<=op)&&decide (op<6)&&BF l&&BF r
def Bn (k kid:Int) (i:Nat):Bool:=if kid=5 then decide (k≠5) || decide (0<i) else if kid=4 then decide (k=3) || (decide (k=4)&&decide (0<i)) else false
def E7 (k:Int):Option Nat:=if k=0\/k=1 then some 0 else if k=3 then some 1 else if k=4\/k=5 then some 2 else none
mutual
def Bb:GT->Int->Bool
 |.mk k l r op p q kids,lv=>if k=2 then Lu (.mk k l r op p q kids) else match E7 k with
  |none=>false
  |some n=>decide (kids.length=n)&&GD (.mk k l r op p q kids)&&BZ kids k 0 (if k=3 then lv-1 else lv)
def BZ:List GT->Int->Nat->Int->Bool
 |[],_,_,_=>true
 |t::ts,k,i,lv=>(decide (0<=(if Bn k t.kind i then lv-1 else lv))&&Bb t (if Bn k t.kind i then lv-1 else lv))&&BZ ts k (i+1) lv
end
theorem IF (u:Tr):Bp u=decide ((gt u).kind=4):=by cases u<;>first|rfl|(rename_i b;cases b<;>rfl)
theorem FC (u:Tr):AR u=decide ((gt u).kind=5):=by cases u<;>first|rfl|(rename_i b;cases b<;>rfl)
theorem U3 (u:Tr) (i:Nat):Bn 3 (gt u).kind i=(Bp u || AR u):=by
 rw[IF,FC];unfold Bn;by_cases h5:(gt u).kind=5
 · rw[h5];simp
 · by_cases h4:(gt u).kind=4
   · rw[h4];simp
   · simp[h4,h5]
theorem RR (u:Tr):Bn 4 (gt u).kind 0=AR u:=by
 rw[FC];unfold Bn;by_cases h5:(gt u).kind=5
 · rw[h5];simp
 · by_cases h4:(gt u).kind=4
   · rw[h4];simp
   · simp[h4,h5]
theorem RS (u:Tr):Bn 4 (gt u).kind 1=(Bp u || AR u):=by
 rw[IF,FC];unfold Bn;by_cases h5:(gt u).kind=5
 · rw[h5];simp
 · by_cases h4:(gt u).kind=4
   · rw[h4];simp
   · simp[h4,h5]
theorem RU (u:Tr):Bn 5 (gt u).kind 0=false:=by
 unfold Bn;by_cases h5:(gt u).kind=5
 · rw[h5];simp
 · by_cases h4:(gt u).kind=4
   · rw[h4];simp
   · simp[h4,h5]
theorem RV (u:Tr):Bn 5 (gt u).kind 1=AR u:=by
 rw[FC];unfold Bn;by_cases h5:(gt u).kind=5
 · rw[h5];simp
 · by_cases h4:(gt u).kind=4
   · rw[h4];simp
   · simp[h4,h5]
theorem TP {c:Bool} {t:GT} {lv:Int} {P:Nat->Prop} (h:∀l:Nat,Bb t (l:Int)=true↔P l):(decide (0<=(if c then lv-1 else lv))&&Bb t (if c then lv-1 else lv))=true↔if c then 1<=lv/\P (lv-1).toNat else 0<=lv/\P lv.toNat:=by
 cases c
 · simp only[Bool.false_eq_true,if_false,Bool.and_eq_true,decide_eq_true_eq];constructor
   · rintro ⟨h1,h2⟩;exact ⟨h1,(h _).1 (by rw[Int.toNat_of_nonneg h1];exact h2)⟩
   · rintro ⟨h1,h2⟩;refine ⟨h1,?_⟩;have:=(h _).2 h2;rwa [Int.toNat_of_nonneg h1]at this
 · simp only[if_true,Bool.and_eq_true,decide_eq_true_eq];constructor
   · rintro ⟨h1,h2⟩;exact ⟨by omega,(h _).1 (by rw[Int.toNat_of_nonneg h1];exact h2)⟩
   · rintro ⟨h1,h2⟩;refine ⟨by omega,?_⟩;have:=(h _).2 h2;rwa [Int.toNat_of_nonneg (by omega)]at this
def Qj (t:GT) (k:Int) (i:Nat) (lv:Int):Bool:=decide (0<=(if Bn k t.kind i then lv-1 else lv))&&Bb t (if Bn k t.kind i then lv-1 else lv)
theorem E8 (t:GT) (ts:List GT) (k:Int) (i:Nat) (lv:Int):BZ (t::ts) k i lv=(Qj t k i lv&&BZ ts k (i+1) lv):=by rw[BZ];rfl
theorem Fp (k:Int) (i:Nat) (lv:Int):BZ [] k i lv=true:=by rw[BZ]
theorem Gg {t:GT} {k:Int} {i:Nat} {lv:Int} {P:Nat->Prop} (h:∀l:Nat,Bb t (l:Int)=true↔P l):Qj t k i lv=true↔if Bn k t.kind i then 1<=lv/\P (lv-1).toNat else 0<=lv/\P lv.toNat:=TP h
theorem Iw (u:Tr):∀lv:Nat,Bb (gt u) (lv:Int)=true↔right lv u:=by
 have bare:∀(k:Int) (ks:List GT),GD (.mk k [] [] 0 ⟨#[]⟩ ⟨#[]⟩ ks)=true:=fun k ks=>by simp[GD,eS]
 induction u with
 |leaf b=>intro lv;cases b<;>simp[gt,Bb,right,E7,GD,BZ,eS]
 |cmp l op r=>
  intro lv;rw[gt,Bb,if_pos rfl,Lu,right,<-MW,<-MW];simp[eS];constructor
  · rintro ⟨⟨h1,h2⟩,h3⟩;exact ⟨h2,by omega,h3⟩
  · rintro ⟨h2,h1,h3⟩;exact ⟨⟨by omega,h2⟩,h3⟩
 |deny t ih=>
  intro lv;have e1:((lv:Int)-1).toNat=lv-1:=by omega
  have e2:((lv:Int)-1-1).toNat=lv-2:=by omega
  rw[gt,Bb,if_neg (by decide),show E7 3=some 1 from rfl];simp only[E8,Fp,Bool.and_true,Bool.and_eq_true,if_true];rw[Gg ih,U3,right,e1,e2];cases Bp t || AR t
  · simp only[Bool.false_eq_true,if_false];exact ⟨fun h=>⟨by omega,h.2.2⟩,fun h=>⟨⟨rfl,bare _ _⟩,by omega,h.2⟩⟩
  · simp only[if_true];exact ⟨fun h=>⟨by omega,h.2.2⟩,fun h=>⟨⟨rfl,bare _ _⟩,by omega,h.2⟩⟩
 |both a b iha ihb=>
  intro lv;have e1:((lv:Int)-1).toNat=lv-1:=by omega
  have e2:((lv:Int)).toNat=lv:=by omega
  rw[gt,Bb,if_neg (by decide),show E7 4=some 2 from rfl];simp only[E8,Fp,Bool.and_true,Bool.and_eq_true,Nat.zero_add];rw[if_neg (show ¬(4:Int)=3 by decide),Gg iha,Gg ihb,RR,RS,right,e1,e2];cases AR a<;>cases Bp b || AR b
  · simp only[Bool.false_eq_true,if_false];exact ⟨fun h=>⟨h.2.1.2,h.2.2.2⟩,fun h=>⟨⟨rfl,bare _ _⟩,⟨by omega,h.1⟩,⟨by omega,h.2⟩⟩⟩
  · simp only[Bool.false_eq_true,if_false,if_true];exact ⟨fun h=>⟨h.2.1.2,by omega,h.2.2.2⟩,fun h=>⟨⟨rfl,bare _ _⟩,⟨by omega,h.1⟩,⟨by omega,h.2.2⟩⟩⟩
  · simp only[Bool.false_eq_true,if_false,if_true];exact ⟨fun h=>⟨⟨by omega,h.2.1.2⟩,h.2.2.2⟩,fun h=>⟨⟨rfl,bare _ _⟩,⟨by omega,h.1.2⟩,⟨by omega,h.2⟩⟩⟩
  · simp only[if_true];exact ⟨fun h=>⟨⟨by omega,h.2.1.2⟩,by omega,h.2.2.2⟩,fun h=>⟨⟨rfl,bare _ _⟩,⟨by omega,h.1.2⟩,⟨by omega,h.2.2⟩⟩⟩
 |any a b iha ihb=>
  intro lv;have e1:((lv:Int)-1).toNat=lv-1:=by omega
  have e2:((lv:Int)).toNat=lv:=by omega
  rw[gt,Bb,if_neg (by decide),show E7 5=some 2 from rfl];simp only[E8,Fp,Bool.and_true,Bool.and_eq_true,Nat.zero_add];rw[if_neg (show ¬(5:Int)=3 by decide),Gg iha,Gg ihb,RU,RV,right,e1,e2];cases AR b
  · simp only[Bool.false_eq_true,if_false];exact ⟨fun h=>⟨h.2.1.2,h.2.2.2⟩,fun h=>⟨⟨rfl,bare _ _⟩,⟨by omega,h.1⟩,⟨by omega,h.2⟩⟩⟩
  · simp only[Bool.false_eq_true,if_false,if_true];exact ⟨fun h=>⟨h.2.1.2,by omega,h.2.2.2⟩,fun h=>⟨⟨rfl,bare _ _⟩,⟨by omega,h.1⟩,⟨by omega,h.2.2⟩⟩⟩
end
section
open Go.RowKit
open Lx Ex
def BG (b:Bool) (w:World) (e:Ending) (w':World):Prop:=e=.returned (.bool b)/\Below w.heap.size w w'
theorem TQ:(eS.toList:List UInt8)=[]:=by rw[Lib.toList_data];rfl
theorem D9 {s:ByteArray} (h:s=eS):(s.toList==([]:List UInt8))=true:=by rw[h,TQ];rfl
theorem Cz {s:ByteArray} (h:s≠eS):(s.toList==([]:List UInt8))=false:=by
 rw[beq_eq_false_iff_ne];intro e;apply h;rw[Lib.toList_data]at e;cases s with
 |mk d=>cases d with
  |mk l=>simp at e;rw[e];rfl
theorem Qk (m:Mn) (w0:World) (hn:m.num.size<=4611686018427387904) (hv:m.var.size<=4611686018427387904):Calls Tryz.prog 39 #[.agg #[.bool m.neg,.string m.num,.string m.var]] w0 (BG (JN m) w0):=by
 obtain ⟨x1,hb,-⟩:=Ax 88 w0 #[.bool m.neg,.string m.num,.string m.var];have c1:=x1.cell 1 _ rfl;have c2:=x1.cell 2 _ rfl;have HB:=Aa hb;have X1:=Aa x1;have HN:=Aa (fun W=>Jd m.num W hn);have HV:=Aa (fun W=>LY m.var W hv);unfold I9 at HN HV;have HNE:=Aa (show QM 3 m.num=Do m.num from number_eq _);have HVE:=Aa (show (QM 1 m.var&&!Gz m.var)=BK m.var from OV _);have HNN:=Aa (fun W=>HNE.out▸HN.out W);have HVV:=Aa (fun W=>HVE.out▸HV.out W)
 obtain ⟨neg,num,var,hm⟩:∃neg num var,m=⟨num,var,neg⟩:=⟨m.neg,m.num,m.var,by cases m;rfl⟩;subst hm;clear hb x1 hn hv HN HV HNE HVE;by_cases hn:num=eS
 · by_cases hv:var=eS
   · have hn1:=D9 hn;have hv1:=D9 hv;have HE:=Aa (show JN ⟨num,var,neg⟩=false from by simp[JN,hn,hv]);clear hn hv;go_enter Tryz.func39,Tryz.ntmps39;go_wp2_with fail;go_ret
     exact ⟨by rw[HE.out];rfl,HB.out⟩
   · have hn1:=D9 hn;have hv1:=Cz hv;have HE:=Aa (show JN ⟨num,var,neg⟩=BK var from by simp[JN,hn,hv]);clear hn hv;go_enter Tryz.func39,Tryz.ntmps39;go_wp2_with fail;refine (HVV.out _).mono ?_;rintro e w2 ⟨rfl,b2⟩;have HB2:=Aa (HB.out.next b2);clear b2;go_wp2_with fail;go_ret
     exact ⟨by rw[HE.out];rfl,HB2.out⟩
 · by_cases hv:var=eS
   · have hn1:=Cz hn;have hv1:=D9 hv;have HE:=Aa (show JN ⟨num,var,neg⟩=(Do num&&true) from by simp[JN,hn,hv]);clear hn hv;go_enter Tryz.func39,Tryz.ntmps39;go_wp2_with fail;refine (HNN.out _).mono ?_;rintro e w2 ⟨rfl,b2⟩;have HB2:=Aa (HB.out.next b2);have c1:=(X1.out.next b2).cell 1 _ rfl;have c2:=(X1.out.next b2).cell 2 _ rfl;clear b2;have HE:=Aa HE.out;generalize Do num=rn at *;cases rn
     · go_wp2_with fail;go_ret
       exact ⟨by rw[HE.out];rfl,HB2.out⟩
     · go_wp2_with fail;go_ret
       exact ⟨by rw[HE.out];rfl,HB2.out⟩
   · have hn1:=Cz hn;have hv1:=Cz hv;have HE:=Aa (show JN ⟨num,var,neg⟩=(Do num&&BK var) from by simp[JN,hn,hv]);clear hn hv;go_enter Tryz.func39,Tryz.ntmps39;go_wp2_with fail;refine (HNN.out _).mono ?_;rintro e w2 ⟨rfl,b2⟩;have HB2:=Aa (HB.out.next b2);have c1:=(X1.out.next b2).cell 1 _ rfl;have c2:=(X1.out.next b2).cell 2 _ rfl;clear b2;have HE:=Aa HE.out;generalize Do num=rn at *;cases rn
     · go_wp2_with fail;go_ret
       exact ⟨by rw[HE.out];rfl,HB2.out⟩
     · go_wp2_with fail;refine (HVV.out _).mono ?_;rintro e w3 ⟨rfl,b3⟩;have HB3:=Aa (HB2.out.next b3);clear b3;go_wp2_with fail;go_ret
       exact ⟨by rw[HE.out];rfl,HB3.out⟩
end
end Go.Proofs.YtgohmojcopajoaaGreatDoor
