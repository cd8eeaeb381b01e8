/- Texts of one seat, put together: Math BitMath MoveMath Base. -/
import Derived.Laws.BitsLemmas
import Derived.Laws.BitsAllLaws
import Derived.Test.YtmedjkhmadfjlaaGreatChecked
import Derived.WalkKit
import Derived.WalkSpells
import Derived.WalkLawsBesides
import Derived.Lib.Hide
import Derived.Laws.CopyOwn
import Derived.Deep.RegionLaw
import Derived.Deep.QuietTactic
import Derived.BigQuiet
import Derived.Deep.DeepFit
set_option linter.unusedVariables false
set_option linter.unusedSimpArgs false
set_option maxRecDepth 100000
set_option maxHeartbeats 16000000
namespace Go.Proofs.YtmedjkhmadfjlaaGreat.Limb
section
def val:List Nat->Nat
 |[]=>0
 |x::xs=>x+4294967296*val xs
def Ok (xs:List Nat):Prop:=∀x∈xs,x<4294967296
def Fq:Nat->Nat->List Nat
 |0,_=>[]
 |f+1,n=>if n=0 then [] else n%4294967296::Fq f (n/4294967296)
def canon (n:Nat):List Nat:=Fq n n
theorem Gy:∀(f g n:Nat),n<=f->n<=g->Fq f n=Fq g n
 |0,0,_,_,_=>rfl
 |0,g+1,n,h,_=>by
  have:n=0:=by omega
  subst this;simp[Fq]
 |f+1,0,n,_,h=>by
  have:n=0:=by omega
  subst this;simp[Fq]
 |f+1,g+1,n,h1,h2=>by
  by_cases h0:n=0
  · simp[Fq,h0]
  · simp only[Fq,if_neg h0];rw[Gy f g (n/4294967296) (by omega) (by omega)]
theorem canon_zero:canon 0=[]:=rfl
theorem canon_pos (n:Nat) (h:n≠0):canon n=n%4294967296::canon (n/4294967296):=by
 unfold canon;match n,h with
 |n+1,_=> simp only[Fq,if_neg (Nat.succ_ne_zero n)];rw[Gy n ((n+1)/4294967296) _ (by omega) (by omega)]
theorem val_canon:∀n:Nat,val (canon n)=n:=by
 intro n;induction n using Nat.strongRecOn with
 |ind n ih=>
  by_cases h:n=0
  · subst h;rfl
  · rw[canon_pos n h];simp only[val];rw[ih (n/4294967296) (by omega)];omega
theorem ok_canon:∀n:Nat,Ok (canon n):=by
 intro n;induction n using Nat.strongRecOn with
 |ind n ih=>
  by_cases h:n=0
  · subst h;intro x hx;simp[canon_zero]at hx
  · rw[canon_pos n h];intro x hx;rcases List.mem_cons.1 hx with rfl|hx
    · omega
    · exact ih (n/4294967296) (by omega) x hx
theorem Ok.tail {x:Nat} {xs:List Nat} (h:Ok (x::xs)):Ok xs:=fun y hy=>h y (List.mem_cons_of_mem _ hy)
theorem Ok.head {x:Nat} {xs:List Nat} (h:Ok (x::xs)):x<4294967296:=h x (List.mem_cons_self ..)
theorem Ok.cons {x:Nat} {xs:List Nat} (h:x<4294967296) (hs:Ok xs):Ok (x::xs):=by
 intro y hy;rcases List.mem_cons.1 hy with rfl|hy
 · exact h
 · exact hs y hy
theorem Ok.nil:Ok []:=fun x hx=>by simp at hx
theorem Ok.append {xs ys:List Nat} (h:Ok xs) (k:Ok ys):Ok (xs++ys):=by
 intro y hy;rcases List.mem_append.1 hy with hy|hy
 · exact h y hy
 · exact k y hy
theorem Ok.take {xs:List Nat} (h:Ok xs) (n:Nat):Ok (xs.take n):=fun y hy=>h y (List.mem_of_mem_take hy)
theorem Ok.drop {xs:List Nat} (h:Ok xs) (n:Nat):Ok (xs.drop n):=fun y hy=>h y (List.mem_of_mem_drop hy)
theorem Ok.getD {xs:List Nat} (h:Ok xs) (i:Nat):xs.getD i 0<4294967296:=by
 by_cases hi:i<xs.length
 · rw[List.getD_eq_getElem?_getD,List.getElem?_eq_getElem hi];exact h _ (List.getElem_mem hi)
 · rw[List.getD_eq_getElem?_getD,List.getElem?_eq_none (by omega)];simp
theorem Ok.replicate (n:Nat):Ok (List.replicate n 0):=by intro y hy;have:=(List.mem_replicate.1 hy).2;omega
theorem Ok.set {xs:List Nat} (h:Ok xs) (i v:Nat) (hv:v<4294967296):Ok (xs.set i v):=by
 intro y hy;rcases List.mem_or_eq_of_mem_set hy with hy|rfl
 · exact h y hy
 · exact hv
theorem val_append (xs ys:List Nat):val (xs++ys)=val xs+4294967296^xs.length*val ys:=by
 induction xs with
 |nil=>simp[val]
 |cons x xs ih=> simp only[List.cons_append,val,List.length_cons,ih,Nat.pow_succ];rw[Nat.mul_add,Nat.mul_comm (4294967296^xs.length) 4294967296,Nat.mul_assoc];omega
theorem val_replicate (n:Nat):val (List.replicate n 0)=0:=by
 induction n with
 |zero=>rfl
 |succ n ih=>simp[List.replicate_succ,val,ih]
theorem val_lt (xs:List Nat) (h:Ok xs):val xs<4294967296^xs.length:=by
 induction xs with
 |nil=>simp[val]
 |cons x xs ih=> have h1:=ih h.tail;have h2:=h.head;simp only[val,List.length_cons,Nat.pow_succ];omega
theorem val_take_drop (xs:List Nat) (n:Nat) (h:n<=xs.length):val xs=val (xs.take n)+4294967296^n*val (xs.drop n):=by have e:=val_append (xs.take n) (xs.drop n);rw[List.take_append_drop,List.length_take,Nat.min_eq_left h]at e;exact e
theorem val_set (xs:List Nat) (i v:Nat) (h:i<xs.length):val (xs.set i v)+4294967296^i*xs.getD i 0=val xs+4294967296^i*v:=by
 induction xs generalizing i with
 |nil=>simp at h
 |cons x xs ih=>
  cases i with
  |zero=>simp[val];omega
  |succ i=> have:=ih i (by simpa using h);simp only[List.set_cons_succ,val,List.getD_cons_succ,Nat.pow_succ];generalize 4294967296^i=p at *;generalize xs.getD i 0=g at *;have e1:p*4294967296*g=4294967296*(p*g):=(by rw[Nat.mul_comm p,Nat.mul_assoc]);have e2:p*4294967296*v=4294967296*(p*v):=(by rw[Nat.mul_comm p,Nat.mul_assoc]);rw[e1,e2];omega
def QV (xs:List Nat):Prop:=∀h:xs≠[],xs.getLast h≠0
theorem P9 (xs:List Nat) (h:Ok xs) (ht:QV xs):canon (val xs)=xs:=by
 induction xs with
 |nil=>rfl
 |cons x xs ih=>
  have hx:=h.head;have ht':QV xs:=fun hn=>by
   have:=ht (by simp);rwa [List.getLast_cons hn]at this
  have hi:=ih h.tail ht';have hne:val (x::xs)≠0:=by intro h0;simp only[val]at h0;have hx0:x=0:=(by omega);have hv0:val xs=0:=(by omega);rw[hv0]at hi;subst hi;have:=ht (by simp);simp[canon_zero]at this;exact this hx0
  rw[canon_pos _ hne];have e1:val (x::xs)%4294967296=x:=by simp only[val];omega
  have e2:val (x::xs)/4294967296=val xs:=by simp only[val];omega
  rw[e1,e2,hi]
theorem tight_canon (n:Nat):QV (canon n):=by
 induction n using Nat.strongRecOn with
 |ind n ih=>
  by_cases h:n=0
  · subst h;intro hn;exact absurd rfl hn
  · intro hn;have e:=canon_pos n h;by_cases h2:n/4294967296=0
    · have e2:canon n=[n%4294967296]:=(by rw[e,h2,canon_zero]);simp only[e2,List.getLast_singleton];omega
    · have hi:=ih (n/4294967296) (by omega);have hne:canon (n/4294967296)≠[]:=by
       rw[canon_pos _ h2];simp
      have:=hi hne;simp only[e];rwa [List.getLast_cons hne]
theorem KA (xs:List Nat) (n:Nat) (h0:∀i,n<=i->i<xs.length->xs.getD i 0=0):val xs=val (xs.take n):=by
 by_cases hn:n<=xs.length
 · rw[val_take_drop xs n hn];have:val (xs.drop n)=0:=by
    have:xs.drop n=List.replicate (xs.length-n) 0:=by
     apply List.ext_getElem
     · simp
     · intro i h1 h2;rw[List.getElem_drop,List.getElem_replicate];have hl:n+i<xs.length:=(by simp at h1;omega);have:=h0 (n+i) (by omega) hl;rwa [List.getD_eq_getElem?_getD,List.getElem?_eq_getElem hl]at this
    rw[this,val_replicate]
   rw[this];simp
 · rw[List.take_of_length_le (by omega)]
theorem canon_take (xs:List Nat) (h:Ok xs) (n:Nat) (hn:n<=xs.length) (hz:∀i,n<=i->i<xs.length->xs.getD i 0=0) (ht:0<n->xs.getD (n-1) 0≠0) :
  canon (val xs)=xs.take n:=by
 rw[KA xs n hz];refine P9 _ (h.take n) ?_;intro hne;have hpos:0<n:=by
  rcases Nat.eq_zero_or_pos n with h0|h0
  · subst h0;simp at hne
  · exact h0
 rw[List.getLast_eq_getElem,List.getElem_take];have:=ht hpos;rw[List.getD_eq_getElem?_getD,List.getElem?_eq_getElem (by omega)]at this;simp only[List.length_take];have hl:min n xs.length-1=n-1:=by omega
 simpa[hl] using this
theorem canon_inj {a b:Nat} (h:canon a=canon b):a=b:=by rw[<-val_canon a,<-val_canon b,h]
theorem canon_len_le (n k:Nat) (h:n<4294967296^k):(canon n).length<=k:=by
 induction k generalizing n with
 |zero=>
  have:n=0:=by simpa using h
  subst this;simp[canon_zero]
 |succ k ih=>
  by_cases h0:n=0
  · subst h0;simp[canon_zero]
  · rw[canon_pos n h0,List.length_cons];have:=ih (n/4294967296) (by
     rw[Nat.pow_succ]at h;exact Nat.div_lt_of_lt_mul (by rw[Nat.mul_comm];exact h))
    omega
theorem canon_lt (n:Nat):n<4294967296^(canon n).length:=by have:=val_lt (canon n) (ok_canon n);rwa [val_canon]at this
theorem canon_len_mono {a b:Nat} (h:a<=b):(canon a).length<=(canon b).length:=
 canon_len_le a _ (Nat.lt_of_le_of_lt h (canon_lt b))
theorem KC (n:Nat):canon n=[]↔n=0:=by
 constructor
 · intro h;have:=val_canon n;rw[h]at this;exact this.symm
 · rintro rfl;rfl
theorem canon_len_zero (n:Nat):(canon n).length=0↔n=0:=by rw[List.length_eq_zero_iff];exact KC n
def fixed:Nat->Nat->List Nat
 |0,_=>[]
 |k+1,n=>n%4294967296::fixed k (n/4294967296)
theorem fixed_length (k n:Nat):(fixed k n).length=k:=by
 induction k generalizing n with
 |zero=>rfl
 |succ k ih=>simp[fixed,ih]
theorem fixed_ok (k n:Nat):Ok (fixed k n):=by
 induction k generalizing n with
 |zero=>exact Ok.nil
 |succ k ih=>exact Ok.cons (by omega) (ih _)
theorem fixed_val (k n:Nat):val (fixed k n)=n%4294967296^k:=by
 induction k generalizing n with
 |zero=>simp[fixed,val,Nat.mod_one]
 |succ k ih=> simp only[fixed,val,ih];rw[Nat.pow_succ,Nat.mul_comm (4294967296^k),Nat.mod_mul]
theorem fixed_of_val (xs:List Nat) (h:Ok xs):fixed xs.length (val xs)=xs:=by
 induction xs with
 |nil=>rfl
 |cons x xs ih=>
  have hx:=h.head;simp only[List.length_cons,fixed,val];have e1:(x+4294967296*val xs)%4294967296=x:=by omega
  have e2:(x+4294967296*val xs)/4294967296=val xs:=by omega
  rw[e1,e2,ih h.tail]
theorem eq_of_val {xs ys:List Nat} (hx:Ok xs) (hy:Ok ys) (hl:xs.length=ys.length) (h:val xs=val ys):xs=ys:=by rw[<-fixed_of_val xs hx,<-fixed_of_val ys hy,hl,h]
theorem eq_fixed {xs:List Nat} (k n c:Nat) (hx:Ok xs) (hl:xs.length=k) (h:val xs+4294967296^k*c=n):xs=fixed k n:=by refine eq_of_val hx (fixed_ok _ _) (by rw[fixed_length,hl]) ?_;rw[fixed_val,<-h,Nat.add_mul_mod_self_left,Nat.mod_eq_of_lt];have:=val_lt xs hx;rwa [hl]at this
theorem canon_eq_fixed (k n:Nat) (h:n<4294967296^k):canon n=(fixed k n).take (canon n).length:=by
 have hl:=canon_len_le n k h;have hv:val (canon n++List.replicate (k-(canon n).length) 0)=n:=by rw[val_append,val_replicate,val_canon];simp
 have e:canon n++List.replicate (k-(canon n).length) 0=fixed k n:=by
  refine eq_of_val ((ok_canon n).append (Ok.replicate _)) (fixed_ok _ _) ?_ ?_
  · rw[fixed_length,List.length_append,List.length_replicate];omega
  · rw[hv,fixed_val,Nat.mod_eq_of_lt h]
 rw[<-e];simp
theorem fixed_eq_canon (k n:Nat) (h:n<4294967296^k):fixed k n=canon n++List.replicate (k-(canon n).length) 0:=by
 have hl:=canon_len_le n k h;symm
 refine eq_of_val ((ok_canon n).append (Ok.replicate _)) (fixed_ok _ _) ?_ ?_
 · rw[fixed_length,List.length_append,List.length_replicate];omega
 · rw[fixed_val,Nat.mod_eq_of_lt h,val_append,val_replicate,val_canon];simp
theorem H8 (xs ys:List Nat) (i:Nat) (h:i<xs.length):(xs++ys).getD i 0=xs.getD i 0:=by simp[List.getD_eq_getElem?_getD,List.getElem?_append_left h]
theorem take_succ_getD (xs:List Nat) (i:Nat) (h:i<xs.length):xs.take (i+1)=xs.take i++[xs.getD i 0]:=by rw[List.take_succ_eq_append_getElem h,List.getD_eq_getElem?_getD,List.getElem?_eq_getElem h];rfl
theorem val_take_succ (xs:List Nat) (i:Nat) (h:i<xs.length):val (xs.take (i+1))=val (xs.take i)+4294967296^i*xs.getD i 0:=by rw[take_succ_getD xs i h,val_append,List.length_take,Nat.min_eq_left (by omega)];simp[val]
theorem step_set (cur:List Nat) (i s x c c':Nat) (hi:i<cur.length) (t:Nat) (h:val cur+4294967296^i*c=t) (hs:s+4294967296*c'=cur.getD i 0+x+c) :
  val (cur.set i s)+4294967296^(i+1)*c'=t+4294967296^i*x:=by
 have e:=val_set cur i s hi;have e2:4294967296^(i+1)*c'=4294967296^i*(4294967296*c'):=by rw[Nat.pow_succ,Nat.mul_assoc]
 have e3:4294967296^i*s+4294967296^i*(4294967296*c')=4294967296^i*cur.getD i 0+4294967296^i*x+4294967296^i*c:=by rw[<-Nat.mul_add,hs,Nat.mul_add,Nat.mul_add]
 omega
theorem step_unset (cur:List Nat) (i s x c c':Nat) (hi:i<cur.length) (t u:Nat) (h:val cur+u=t+4294967296^i*c) (hs:s+x+c=cur.getD i 0+4294967296*c') :
  val (cur.set i s)+(u+4294967296^i*x)=t+4294967296^(i+1)*c':=by
 have e:=val_set cur i s hi;have e2:4294967296^(i+1)*c'=4294967296^i*(4294967296*c'):=by rw[Nat.pow_succ,Nat.mul_assoc]
 have e3:4294967296^i*s+4294967296^i*x+4294967296^i*c=4294967296^i*cur.getD i 0+4294967296^i*(4294967296*c'):=by rw[<-Nat.mul_add,<-Nat.mul_add,hs,Nat.mul_add]
 omega
theorem lt_of_top (xs ys:List Nat) (hx:Ok xs) (i:Nat) (hl:xs.length=ys.length) (hi:i<xs.length) (hd:xs.drop (i+1)=ys.drop (i+1)) (h:xs.getD i 0<ys.getD i 0):val xs<val ys:=by have e1:=val_take_drop xs (i+1) (by omega);have e2:=val_take_drop ys (i+1) (by omega);rw[hd]at e1;rw[val_take_succ xs i (by omega)]at e1;rw[val_take_succ ys i (by omega)]at e2;have h1:=val_lt (xs.take i) (hx.take i);rw[List.length_take,Nat.min_eq_left (by omega)]at h1;have h2:4294967296^i*(xs.getD i 0+1)<=4294967296^i*ys.getD i 0:=Nat.mul_le_mul_left _ h;rw[Nat.mul_add,Nat.mul_one]at h2;omega
theorem lt_of_len {a b:Nat} (h:(canon a).length<(canon b).length):a<b:=by apply Nat.lt_of_not_le;intro hle;have:=canon_len_mono hle;omega
theorem drop_eq_step (xs ys:List Nat) (i:Nat) (hl:xs.length=ys.length) (hi:i<xs.length) (hd:xs.drop (i+1)=ys.drop (i+1)) (h:xs.getD i 0=ys.getD i 0):xs.drop i=ys.drop i:=by
 have hj:i<ys.length:=by omega
 rw[List.drop_eq_getElem_cons hi,List.drop_eq_getElem_cons hj,hd];rw[List.getD_eq_getElem?_getD,List.getD_eq_getElem?_getD,List.getElem?_eq_getElem hi,List.getElem?_eq_getElem hj]at h;simp only[Option.getD_some]at h;rw[h]
theorem carry_zero (v p z a:Nat) (h:v+p*z=a) (hlt:a<p):v=a:=by
 cases z with
 |zero=>rw[Nat.mul_zero]at h;omega
 |succ z=>rw[Nat.mul_succ]at h;omega
theorem borrow_zero (v p z a b:Nat) (h:v+b=a+p*z) (hv:v<p) (hle:b<=a):v=a-b:=by
 cases z with
 |zero=>rw[Nat.mul_zero]at h;omega
 |succ z=>rw[Nat.mul_succ]at h;omega
theorem pow_mono {a b:Nat} (h:a<=b):4294967296^a<=4294967296^b:=Nat.pow_le_pow_right (by omega) h
theorem sum_lt (a b p:Nat) (ha:a<p) (hb:b<p):a+b<p*4294967296:=by omega
theorem val_cons (x:Nat) (xs:List Nat):val (x::xs)=x+4294967296*val xs:=rfl
theorem OX:val []=0:=rfl
def limb (xs:List Nat) (i:Nat):Nat:=xs.getD i 0
theorem limb_beyond {xs:List Nat} {i:Nat} (h:xs.length<=i):limb xs i=0:=by unfold limb;rw[List.getD_eq_getElem?_getD,List.getElem?_eq_none h];rfl
theorem EY (xs:List Nat) (k i:Nat):limb (xs++List.replicate k 0) i=limb xs i:=by
 unfold limb;by_cases h:i<xs.length
 · exact H8 _ _ _ h
 · have e:=limb_beyond (xs:=xs) (i:=i) (by omega);unfold limb at e;rw[e,List.getD_eq_getElem?_getD,List.getElem?_append_right (by omega),List.getElem?_replicate];split<;>rfl
theorem IW (xs:List Nat) (k:Nat):val (xs++List.replicate k 0)=val xs:=by rw[val_append,val_replicate];simp
theorem M1 {xs ys:List Nat} (hl:xs.length=ys.length) (h:∀i,limb xs i=limb ys i):xs=ys:=by apply List.ext_getElem hl;intro i h1 h2;have:=h i;unfold limb at this;rwa [List.getD_eq_getElem?_getD,List.getD_eq_getElem?_getD,List.getElem?_eq_getElem h1,List.getElem?_eq_getElem h2]at this
theorem limb_drop (xs:List Nat) (k i:Nat):limb (xs.drop k) i=limb xs (k+i):=by unfold limb;rw[List.getD_eq_getElem?_getD,List.getD_eq_getElem?_getD,List.getElem?_drop]
theorem val_lt_of_limbs (xs ys:List Nat) (hx:Ok xs) (i:Nat) (hd:∀j,i<j->limb xs j=limb ys j) (h:limb xs i<limb ys i):val xs<val ys:=by
 rw[<-IW xs (ys.length+i+1),<-IW ys (xs.length+i+1)];refine lt_of_top _ _ (hx.append (Ok.replicate _)) i (by simp;omega) (by simp;omega) ?_ ?_
 · apply M1 (by simp;omega);intro j;rw[limb_drop,limb_drop,EY,EY];exact hd _ (by omega)
 · have e1:=EY xs (ys.length+i+1) i;have e2:=EY ys (xs.length+i+1) i;unfold limb at e1 e2 h;rw[e1,e2];exact h
theorem val_eq_of_limbs (xs ys:List Nat) (h:∀j,limb xs j=limb ys j):val xs=val ys:=by
 rw[<-IW xs ys.length,<-IW ys xs.length];congr 1
 apply M1 (by simp;omega);intro j;rw[EY,EY,h]
theorem AQ {xs:List Nat} (h:Ok xs) (i:Nat):limb xs i<4294967296:=h.getD i
def upto (xs:List Nat) (i:Nat):Nat:=val (xs.take i)
theorem AC (xs:List Nat):upto xs 0=0:=by simp[upto,val]
theorem upto_succ (xs:List Nat) (i:Nat):upto xs (i+1)=upto xs i+4294967296^i*limb xs i:=by
 unfold upto;by_cases h:i<xs.length
 · exact val_take_succ xs i h
 · rw[limb_beyond (by omega),List.take_of_length_le (by omega),List.take_of_length_le (by omega)];omega
theorem Az (xs:List Nat) (i:Nat) (h:xs.length<=i):upto xs i=val xs:=by unfold upto;rw[List.take_of_length_le h]
theorem limb_le (xs:List Nat) (i:Nat):4294967296^i*limb xs i<=val xs:=by
 by_cases h:i<xs.length
 · have e:=val_take_drop xs i (by omega);have e2:val (xs.drop i)=limb xs i+4294967296*val (xs.drop (i+1)):=by
    rw[List.drop_eq_getElem_cons h];unfold limb;rw[List.getD_eq_getElem?_getD,List.getElem?_eq_getElem h];rfl
   rw[e,e2,Nat.mul_add];generalize 4294967296^i*limb xs i=t;omega
 · rw[limb_beyond (by omega),Nat.mul_zero];exact Nat.zero_le _
theorem limb_zero_of_lt (xs:List Nat) (i:Nat) (h:val xs<4294967296^i):limb xs i=0:=by
 have h1:=limb_le xs i;rcases Nat.eq_zero_or_pos (limb xs i) with h0|h0
 · exact h0
 · have h3:1<=limb xs i:=h0;have h4:=Nat.mul_le_mul_left (4294967296^i) h3;rw[Nat.mul_one]at h4;omega
end
section
def bl (n:Nat):Nat:=if n=0 then 0 else Nat.log2 n+1
theorem bl_half (n:Nat) (h:0<n):bl n=bl (n/2)+1:=by
 unfold bl;rw[if_neg (by omega)];by_cases h1:n=1
 · subst h1;rfl
 · rw[if_neg (by omega),Nat.log2_def n,if_pos (by omega)]
theorem Ut (n:Nat):n<2^bl n:=by
 induction n using Nat.strongRecOn with
 |_ n ih=>
  rcases Nat.eq_zero_or_pos n with h|h
  · subst h;decide
  · rw[bl_half n h,Nat.pow_succ];have:=ih (n/2) (by omega);omega
theorem bl_spec (n k:Nat) (h1:2^k<=n) (h2:n<2^(k+1)):bl n=k+1:=by
 induction k generalizing n with
 |zero=>
  have:n=1:=by simp at h1 h2;omega
  subst this;rfl
 |succ k ih=> rw[Nat.pow_succ]at h1 h2;have hp:0<2^k:=Nat.two_pow_pos k;have h3:2^(k+1)=2^k*2:=Nat.pow_succ ..;rw[bl_half n (by omega),ih (n/2) (by omega) (by omega)]
theorem Uu (n:Nat) (h:0<n):∃k,bl n=k+1/\2^k<=n:=by
 induction n using Nat.strongRecOn with
 |_ n ih=>
  by_cases h1:n=1
  · subst h1;exact ⟨0,rfl,by decide⟩
  · obtain ⟨k,hk,hle⟩:=ih (n/2) (by omega) (by omega);refine ⟨k+1,by rw[bl_half n h,hk],?_⟩;rw[Nat.pow_succ];omega
theorem U8 (x t j:Nat) (hx:x<2^j) (ht:0<t):bl (x+2^j*t)=j+bl t:=by
 obtain ⟨k,hk,hle⟩:=Uu t ht;have hlt:=Ut t;rw[hk]at hlt;rw[hk,<-Nat.add_assoc];apply bl_spec
 · rw[Nat.pow_add];have:=Nat.mul_le_mul_left (2^j) hle;omega
 · rw[Nat.add_assoc,Nat.pow_add];have h1:2^j*(t+1)<=2^j*2^(k+1):=Nat.mul_le_mul_left _ hlt;rw[Nat.mul_add]at h1;omega
theorem bl_le (n k:Nat) (h:n<2^k):bl n<=k:=by
 rcases Nat.eq_zero_or_pos n with h0|h0
 · subst h0;exact Nat.zero_le _
 · obtain ⟨j,hj,hle⟩:=Uu n h0;rw[hj];exact (Nat.pow_lt_pow_iff_right (by omega)).1 (Nat.lt_of_le_of_lt hle h)
theorem upper_step (n k:Nat):n/2^k=2*(n/2^(k+1))+n/2^k%2:=by rw[Nat.pow_succ,<-Nat.div_div_eq_div_mul];omega
theorem upper_top (n:Nat):n/2^bl n=0:=Nat.div_eq_of_lt (Ut n)
theorem quo_yes (m q b r e:Nat) (h:m=q*b+r) (hr:r<b) (he:e<=1) (hb:b<=2*r+e):2*m+e=(2*q+1)*b+(2*r+e-b)/\2*r+e-b<b:=by refine ⟨?_,by omega⟩;rw[Nat.add_mul,Nat.one_mul,Nat.mul_assoc];subst h;omega
theorem quo_no (m q b r e:Nat) (h:m=q*b+r) (hb:2*r+e<b):2*m+e=(2*q)*b+(2*r+e)/\2*r+e<b:=by refine ⟨?_,hb⟩;rw[Nat.mul_assoc];subst h;omega
theorem quo_done (m q b r:Nat) (h:m=q*b+r) (hr:r<b):q=m/b/\r=m%b:=by
 subst h;rw[Nat.mul_comm q b];refine ⟨?_,?_⟩
 · rw[Nat.mul_add_div (by omega),Nat.div_eq_of_lt hr,Nat.add_zero]
 · rw[Nat.mul_add_mod,Nat.mod_eq_of_lt hr]
theorem QW (xs:List Nat) (h:Ok xs) (k:Nat):val xs/4294967296^k%4294967296=limb xs k:=by
 induction xs generalizing k with
 |nil=>simp[val,limb]
 |cons x xs ih=>
  have hx:x<4294967296:=h x (by simp);have hxs:Ok xs:=fun y hy=>h y (by simp[hy])
  cases k with
  |zero=>simp[val,limb];omega
  |succ k=> have h1:val (x::xs)/4294967296=val xs:=(by simp only[val];omega);have h2:limb (x::xs) (k+1)=limb xs k:=(by simp[limb]);rw[Nat.pow_succ,Nat.mul_comm,<-Nat.div_div_eq_div_mul,h1,h2];exact ih hxs k
theorem PC (u s:Nat) (hs:s<32):u%4294967296/2^s%2=u/2^s%2:=by
 have h:=Nat.testBit_mod_two_pow u 32 s;rw[Nat.testBit_eq_decide_div_mod_eq,Nat.testBit_eq_decide_div_mod_eq]at h;have e:(2:Nat)^32=4294967296:=by decide
 rw[e]at h;simp only[hs,decide_true,Bool.true_and,decide_eq_decide]at h;have h1:=Nat.mod_two_eq_zero_or_one (u%4294967296/2^s);have h2:=Nat.mod_two_eq_zero_or_one (u/2^s);omega
theorem two_pow32 (j:Nat):(4294967296:Nat)^j=2^(32*j):=by rw[Nat.pow_mul]
theorem digit (xs:List Nat) (h:Ok xs) (i:Nat):limb xs (i/32)/2^(i%32)%2=val xs/2^i%2:=by rw[<-QW xs h (i/32),PC _ _ (Nat.mod_lt _ (by decide)),two_pow32,Nat.div_div_eq_div_mul,<-Nat.pow_add,Nat.div_add_mod]
theorem bl_limbs (xs:List Nat) (k:Nat) (h:Ok xs) (hk:xs.length=k+1) (ht:0<limb xs k):bl (val xs)=32*k+bl (limb xs k):=by
 have h1:val xs=upto xs k+4294967296^k*limb xs k:=by rw[<-upto_succ,Az xs (k+1) (by omega)]
 have h2:upto xs k<2^(32*k):=by have:=val_lt (xs.take k) (h.take k);rw[List.length_take,Nat.min_eq_left (by omega)]at this;rw[<-two_pow32];exact this
 rw[h1,two_pow32];exact U8 _ _ _ h2 ht
end
end Go.Proofs.YtmedjkhmadfjlaaGreat.Limb
namespace Go.Proofs.YtmedjkhmadfjlaaGreat.Limb
def VV (a r:Nat):Prop:=∀s,s*s<=a->s<=r
def Vu (n r p:Nat):Prop:=r*r<=n/\n<(r+p)*(r+p)/\r%p=0/\r+p<=4294967296
theorem bl_eq_zero (n:Nat):bl n=0↔n=0:=by unfold bl;split<;>simp_all
def Uv (B:Nat):List Nat->List Nat
 |[]=>[]
 |x::xs=>(x/2+xs.headD 0%2*B)::Uv B xs
def half (xs:List Nat):List Nat:=Uv 2147483648 xs
end Go.Proofs.YtmedjkhmadfjlaaGreat.Limb
namespace Go.Proofs.YtmedjkhmadfjlaaGreat
end Go.Proofs.YtmedjkhmadfjlaaGreat
namespace Go.Proofs.YtmedjkhmadfjlaaGreat
section
open Go.RowKit
def Cy (xs:List Nat):List Value:=xs.map fun (x:Nat)=>Value.int .u32 (x:Int)
theorem Ir (xs:List Nat):(Cy xs).length=xs.length:=by simp[Cy]
theorem Jm (xs:List Nat) (i:Nat) (h:i<xs.length):(Cy xs)[i]?=some (.int .u32 ((xs.getD i 0:Nat):Int)):=by simp[Cy,List.getElem?_map,List.getD_eq_getElem?_getD,List.getElem?_eq_getElem h]
theorem FH (xs ys:List Nat):Cy (xs++ys)=Cy xs++Cy ys:=by simp[Cy]
theorem PD (xs:List Nat) (n:Nat):Cy (xs.take n)=(Cy xs).take n:=by simp[Cy,List.map_take]
theorem PE (xs:List Nat) (n:Nat):Cy (xs.drop n)=(Cy xs).drop n:=by simp[Cy,List.map_drop]
theorem Jn (n:Nat):Cy (List.replicate n 0)=List.replicate n (.int .u32 0):=by simp[Cy]
theorem QX (xs:List Nat):∀u∈Cy xs,u.oneCell'=true:=by intro u hu;obtain ⟨x,_,rfl⟩:=List.mem_map.1 hu;rfl
def Av (w:World) (A:Option Addr) (n:Nat) (xs:List Nat):Prop:=
 xs.length=n/\Limb.Ok xs/\(0<n->∃b o,A=some ⟨b,o,none⟩/\∀i,i<n->w.cell? ⟨b,o+i,none⟩=some (.int .u32 ((xs.getD i 0:Nat):Int)))
def Row (w:World) (g:Nat) (zs:List Nat):Prop:=w.heap[g]?=some (.cells (Cy zs).toArray 122 (0,0))
def Apart (A:Option Addr) (g:Nat):Prop:=∀ad,A=some ad->ad.block≠g
def Own (w:World) (base:Nat) (A:Option Addr) (n c:Nat) (N:Nat):Prop:=
 n=(Limb.canon N).length/\n<=c/\c<=4611686018427387904/\(N≠0->∃g zs,A=some ⟨g,0,none⟩/\base<=g/\Row w g zs/\Limb.Ok zs/\c<=zs.length/\zs.take n=Limb.canon N)
section
variable {w w':World} {A:Option Addr} {n c g N base:Nat} {xs zs:List Nat}
theorem Av.len (h:Av w A n xs):xs.length=n:=h.1
theorem Av.ok (h:Av w A n xs):Limb.Ok xs:=h.2.1
theorem Av.nil (w:World) (A:Option Addr):Av w A 0 []:=⟨rfl,Limb.Ok.nil,fun h=>absurd h (by omega)⟩
theorem Av.at_ {i:Nat} (h:Av w A n xs) (hi:i<n):∃b o x,A=some ⟨b,o,none⟩/\x<4294967296/\x=xs.getD i 0/\w.cell? ⟨b,o+i,none⟩=some (.int .u32 (x:Int)):=by obtain ⟨b,o,e,hc⟩:=h.2.2 (by omega);exact ⟨b,o,_,e,h.2.1.getD i,rfl,hc i hi⟩
theorem Av.keep (h:Av w A n xs) (hk:∀b,b<w.heap.size->(∀ad,A=some ad->ad.block=b->w'.heap[b]?=w.heap[b]?)):Av w' A n xs:=by refine ⟨h.1,h.2.1,fun hn=>?_⟩;obtain ⟨b,o,e,hc⟩:=h.2.2 hn;refine ⟨b,o,e,fun i hi=>?_⟩;have h1:=hc i hi;have hlt:=World.block_lt_of_cell? w _ h1;have hb:w'.heap[b]?=w.heap[b]?:=hk b hlt ⟨b,o,none⟩ e rfl;exact (World.cell?_of_block (w:=w) (a:=⟨b,o+i,none⟩) hb).trans h1
theorem Av.below (h:Av w A n xs) (hb:Below w.heap.size w w'):Av w' A n xs:=h.keep fun b hlt _ _ _=>hb.block b hlt
theorem Av.grown (h:Av w A n xs) (hg:w.grownBy w' (some g)) (ha:Apart A g):Av w' A n xs:=
 h.keep fun b hlt ad e he=>hg.block b hlt (fun hh=>ha ad e (by injection hh with hh;omega))
theorem Av.grown' (h:Av w A n xs) (hg:w.grownBy w' (some g)) (ha:0<n->Apart A g):Av w' A n xs:=by
 rcases Nat.eq_zero_or_pos n with h0|h0
 · subst h0;exact ⟨h.1,h.2.1,fun hh=>absurd hh (by omega)⟩
 · exact h.grown hg (ha h0)
theorem Av.grownNone (h:Av w A n xs) (hg:w.grownBy w' none):Av w' A n xs:=
 h.keep fun b hlt _ _ _=>hg.block b hlt (fun hh=>by cases hh)
theorem Av.alloc (h:Av w A n xs) (o:Obj):Av (w.alloc o) A n xs:=h.keep fun b hlt _ _ _=>Below.heap_alloc w o b hlt
theorem Av.drew (h:Av w A n xs):Av w.drew A n xs:=h
theorem Av.drewN (h:Av w A n xs) (k:Nat):Av (w.drewN k) A n xs:=h
theorem Av.setCell (h:Av w A n xs) (p:Addr) (u:Value) (ha:Apart A p.block):Av (w.setCell p u) A n xs:=
 h.keep fun b _ ad e he=>Below.heap_setCell w p u b (fun hh=>ha ad e (by omega))
theorem Av.apart (h:Av w A n xs) (hn:0<n) (hg:w.heap.size<=g):Apart A g:=by
 intro ad e;obtain ⟨b,o,e',hc⟩:=h.2.2 hn;have hlt:=World.block_lt_of_cell? w _ (hc 0 hn);rw[e]at e';injection e' with e'
 subst e';show b≠g;have:b<w.heap.size:=hlt;omega
theorem Av.take (h:Av w A n xs) {k:Nat} (hk:k<=n):Av w A k (xs.take k):=by refine ⟨by rw[List.length_take,h.1];omega,h.2.1.take k,fun h0=>?_⟩;obtain ⟨b,o,e,hc⟩:=h.2.2 (by omega);refine ⟨b,o,e,fun i hi=>?_⟩;rw[hc i (by omega)];simp[List.getD_eq_getElem?_getD,List.getElem?_take_of_lt hi]
theorem Av.cut (h:Av w A n xs) {k cap:Nat} (hk:k<=n) (hc:n<=cap):Av w (if cap=k then A else A.map (·.add k)) (n-k) (xs.drop k):=by refine ⟨by rw[List.length_drop,h.1],h.2.1.drop k,fun hn=>?_⟩;obtain ⟨b,o,rfl,hcell⟩:=h.2.2 (by omega);rw[if_neg (by omega)];refine ⟨b,o+k,by simp[Addr.add],fun i hi=>?_⟩;rw[Nat.add_assoc,hcell (k+i) (by omega)];simp[List.getD_eq_getElem?_getD,List.getElem?_drop]
theorem Row.lt (h:Row w g zs):g<w.heap.size:=by
 rcases Nat.lt_or_ge g w.heap.size with hlt|hge
 · exact hlt
 · unfold Row at h;rw[Array.getElem?_eq_none hge]at h;cases h
theorem Row.cell {i:Nat} (h:Row w g zs) (hi:i<zs.length):w.cell? ⟨g,i,none⟩=some (.int .u32 ((zs.getD i 0:Nat):Int)):=by rw[cell_of_row w g i _ _ _ h,List.getElem?_toArray,Jm zs i hi]
theorem Row.frozen (h:Row w g zs) (i:Nat):w.frozen? ⟨g,i,none⟩=false:=by unfold Row at h;simp[World.frozen?,h]
theorem Row.set_ (h:Row w g zs) (i v:Nat):Row (w.setCell ⟨g,i,none⟩ (.int .u32 (v:Int))) g (zs.set i v):=by unfold Row at h ⊢;simp[World.setCell,Array.getElem?_modify,h,Cy,List.map_set]
theorem Row.keep (h:Row w g zs) (hk:w'.heap[g]?=w.heap[g]?):Row w' g zs:=hk.trans h
theorem Row.below {B:Nat} (h:Row w g zs) (hb:Below B w w') (hg:g<B):Row w' g zs:=h.keep (hb.block g hg)
theorem Row.grown {r:Option Nat} (h:Row w g zs) (hb:w.grownBy w' r) (hg:some g≠r):Row w' g zs:=h.keep (hb.block g h.lt hg)
theorem Row.far (h:Row w g zs) {p:Addr} (hp:g≠p.block) (u:Value):Row (w.setCell p u) g zs:=h.keep (Below.heap_setCell w p u g hp)
theorem Row.drew (h:Row w g zs):Row w.drew g zs:=h
theorem Row.drewN (h:Row w g zs) (k:Nat):Row (w.drewN k) g zs:=h
theorem Row.nums (h:Row w g zs) (ho:Limb.Ok zs) {o n:Nat} (hn:o+n<=zs.length):Av w (some ⟨g,o,none⟩) n ((zs.drop o).take n):=by refine ⟨by rw[List.length_take,List.length_drop];omega,(ho.drop o).take n,fun _=>⟨g,o,rfl,fun i hi=>?_⟩⟩;rw[h.cell (i:=o+i) (by omega)];simp[List.getD_eq_getElem?_getD,List.getElem?_take_of_lt hi,List.getElem?_drop]
theorem Own.len (h:Own w base A n c N):n=(Limb.canon N).length:=h.1
theorem Own.nums (h:Own w base A n c N):Av w A n (Limb.canon N):=by
 by_cases h0:N=0
 · subst h0;have:n=0:=h.1;subst this;exact Av.nil _ _
 · obtain ⟨g,zs,rfl,hg,hr,ho,hc,ht⟩:=h.2.2.2 h0;have hl:=h.2.1;have:=hr.nums ho (o:=0) (n:=n) (by omega);rw[List.drop_zero,ht]at this;exact this
theorem Own.below (h:Own w base A n c N) (hb:Below w.heap.size w w'):Own w' base A n c N:=by refine ⟨h.1,h.2.1,h.2.2.1,fun h0=>?_⟩;obtain ⟨g,zs,e,hg,hr,ho,hc,ht⟩:=h.2.2.2 h0;exact ⟨g,zs,e,hg,hr.below hb hr.lt,ho,hc,ht⟩
theorem Own.mono {base':Nat} (h:Own w base A n c N) (hb:base'<=base):Own w base' A n c N:=by refine ⟨h.1,h.2.1,h.2.2.1,fun h0=>?_⟩;obtain ⟨g,zs,e,hg,hr,ho,hc,ht⟩:=h.2.2.2 h0;exact ⟨g,zs,e,by omega,hr,ho,hc,ht⟩
theorem Own.apart (h:Own w base A n c N) (hn:0<n) (hg:g<base):Apart A g:=by
 intro ad had;obtain ⟨g',zs,e,hb,_⟩:=h.2.2.2 (fun h0=>by subst h0;have:=h.1;simp[Limb.canon_zero]at this;omega);rw[had]at e;injection e with e
 subst e;show g'≠g;omega
theorem Own.zero (w:World) (base:Nat) (A:Option Addr) (c:Nat) (hc:c<=4611686018427387904):Own w base A 0 c 0:=⟨rfl,by omega,hc,fun h=>absurd rfl h⟩
theorem Own.row (hr:Row w g zs) (ho:Limb.Ok zs) (hb:base<=g) (hn:n<=c) (hc:c<=zs.length) (hc2:c<=4611686018427387904) (ht:zs.take n=Limb.canon N):Own w base (some ⟨g,0,none⟩) n c N:=
 ⟨by rw[<-ht,List.length_take];omega,hn,hc2,fun _=>⟨g,zs,rfl,hb,hr,ho,hc,ht⟩⟩
end
theorem _root_.Go.RowKit.Below.next {a b c:World} (h:Below a.heap.size a b) (k:Below b.heap.size b c):Below a.heap.size a c:=h.trans (k.mono h.size)
theorem Af (w:World) (o:Obj):Below w.heap.size w (w.alloc o):=(Below.refl _ _).alloc (Nat.le_refl _) o
theorem Ap (w:World) (k:Nat):Below w.heap.size w (w.drewN k):=⟨rfl,rfl,rfl,Nat.le_refl _,fun _ _=>rfl⟩
theorem Ac {p:Prop} (h:p):Hid p:=h
theorem FI {P:Program} {f:FuncId} {args:Array Value} {w:World} {a n:Nat} {v:Value}
  (h:Calls P f args (w.drewN (a+n)) fun e w'=>e=.returned v/\w.drewN (a+n)=w') :
  Calls P f args (w.drewN (a+n)) fun e w''=>e=.returned v/\∃m,w''=w.drewN (a+m):=
 h.mono fun _ _ ⟨he,hm⟩=>⟨he,n,hm.symm⟩
theorem NJ {P:Program} {f:FuncId} {args:Array Value} {w:World} {n:Nat} {v:Value}
  (h:Calls P f args (w.drewN n) fun e w'=>e=.returned v/\w.drewN n=w'):Calls P f args (w.drewN n) fun e w''=>e=.returned v/\∃m,w''=w.drewN m:=
 h.mono fun _ _ ⟨he,hm⟩=>⟨he,n,hm.symm⟩
theorem below_drewN {B:Nat} {a w:World} (h:Below B a w) (n:Nat):Below B a (w.drewN n):=⟨h.os,h.tape,h.output,h.size,h.block⟩
theorem Jo:(Tryz.prog.info? 122).map (fun i=>(i.zero,i.size,i.bytes))=some (some (.int .u32 0),1,4):=by kernel_rfl
theorem M2:(Tryz.prog.info? 122).map (·.size)=some 1:=by kernel_rfl
theorem Row.made {w':World} {g n:Nat} {base:Nat} (h:w'.ownsRow base 122 1 (.slice (some ⟨g,0,none⟩) n n) n (madeCells (Value.int .u32 0).cells (n*1)).toList):Row w' g (List.replicate n 0)/\base<=g:=by
 obtain ⟨hl,hc⟩:=h;rcases hc with ⟨h0,_⟩|⟨g',cap,cur,hv,hb,hh,h1,h2,h3,h4⟩
 · cases h0
 · injection hv with hv1 hv2 hv3
   injection hv1 with hv1
   injection hv1 with hv1
   subst hv1;subst hv3;have e:cur.toList=List.replicate n (.int .u32 0):=by have h5:cur.toList.length=n*1:=(by simpa using h3);rw[List.take_of_length_le (by omega)]at h4;rw[h4,Nat.mul_one];exact toList_madeCells_one _ _
   refine ⟨?_,hb⟩;unfold Row;rw[hh,Jn,<-e]
def VM (N:Nat) (w:World) (e:Ending) (w':World):Prop:=∃A n c,e=.returned (.slice A n c)/\Own w' w.heap.size A n c N/\Below w.heap.size w w'
theorem Am {a b c:Value} {X p:Prop} (f:X->p->a=b) (x:X) (h:p) (g:p->b=c):a=c:=(f x h).trans (g h)
theorem M0 {p q:Prop} (h:p):(true=true->p)/\(true=false->q):=⟨fun _=>h,fun e=>by cases e⟩
theorem KD {p q:Prop} (h:q):(false=true->p)/\(false=false->q):=⟨fun e=>(by cases e),fun _=>h⟩
end
end Go.Proofs.YtmedjkhmadfjlaaGreat
