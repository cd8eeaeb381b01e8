/- Texts of one seat, put together: LexG LexS LexT LexRow LexTok LexU LexKIn LexSIn. -/
import Derived.Test.YtgohmojcopajoaaGreatDoorH02
import Derived.Test.YtgohmojcopajoaaGreatDoorH01
set_option linter.unusedVariables false
set_option linter.unusedSimpArgs false
set_option maxRecDepth 100000
set_option maxHeartbeats 16000000
namespace Go.Proofs.YtgohmojcopajoaaGreatDoor
section
open Go.RowKit
open Lx
theorem Dh (s:ByteArray):s.toList.isEmpty=decide (s.size=0):=by
 rw[Lib.toList_data];have h:s.data.toList.length=s.size:=by simp
 cases hl:s.data.toList with
 |nil=>rw[hl]at h;simp at h;simp[<-h]
 |cons x xs=>rw[hl]at h;simp at h;rw[decide_eq_false (by omega)];rfl
def Qw (k:Nat) (s:ByteArray):Nat:=if s.size=0 then 100 else if k=1/\20<s.size then 2 else if k=3/\60<s.size then 2 else if k=3/\1<s.size/\Ad s 0=48 then 20 else 0
theorem KO (k:Nat) (s:ByteArray) (w:World) (hk:k<10) (hs:s.size<=4611686018427387904):Calls Tryz.prog 98 #[.int .i64 (k:Int),.string s] w (FM (.int .i64 (Qw k s:Nat)) w):=by
 have HC:=Aa (show Qw k s=if s.size=0 then 100 else if k=1/\20<s.size then 2 else if k=3/\60<s.size then 2 else if k=3/\1<s.size/\Ad s 0=48 then 20 else 0 from rfl);generalize Qw k s=r at *;have he:=Dh s;have hne:(s.toList==[])=decide (s.size=0):=by rw[<-he];cases s.toList<;>rfl
 by_cases h0:s.size=0
 · have hr:=HC.out.trans (if_pos h0);subst hr;rw[decide_eq_true h0]at he hne;clear HC h0;go_enter Tryz.func98,Tryz.ntmps98;go_wp2_with fail;go_ret
   exact ⟨rfl,0,rfl⟩
 · rw[decide_eq_false h0]at he hne;have HC:=Aa (HC.out.trans (if_neg h0));have hbe:=Bp s 0 (by omega);have hl1:0<s.size:=(by omega);by_cases h1:k=1
   · subst h1;by_cases h2:20<s.size
     · have hr:=HC.out.trans (if_pos ⟨rfl,h2⟩);subst hr;clear HC hbe h0;go_enter Tryz.func98,Tryz.ntmps98;go_wp2_with fail;go_ret
       exact ⟨rfl,0,rfl⟩
     · have hr:=HC.out.trans ((if_neg (by omega)).trans ((if_neg (by omega)).trans (if_neg (by omega))));subst hr;clear HC hbe h0;go_enter Tryz.func98,Tryz.ntmps98;go_wp2_with fail;go_ret
       exact ⟨rfl,0,rfl⟩
   · by_cases h3:k=3
     · subst h3;by_cases h4:60<s.size
       · have hr:=HC.out.trans ((if_neg (by omega)).trans (if_pos ⟨rfl,h4⟩));subst hr;clear HC hbe h0 h1;go_enter Tryz.func98,Tryz.ntmps98;go_wp2_with fail;go_ret
         exact ⟨rfl,0,rfl⟩
       · by_cases h5:1<s.size
         · by_cases h6:Ad s 0=48
           · have hr:=HC.out.trans ((if_neg (by omega)).trans ((if_neg (by omega)).trans (if_pos ⟨rfl,h5,h6⟩)));subst hr;have g:((s[0]'hl1).toNat:Int)=48:=(by omega);clear HC hbe h0 h1 h6;go_enter Tryz.func98,Tryz.ntmps98;go_wp2_with fail;go_ret
             exact ⟨rfl,0,rfl⟩
           · have hr:=HC.out.trans ((if_neg (by omega)).trans ((if_neg (by omega)).trans (if_neg (fun h=>h6 h.2.2))));subst hr;have g:¬((s[0]'hl1).toNat:Int)=48:=(by omega);clear HC hbe h0 h1 h6;go_enter Tryz.func98,Tryz.ntmps98;go_wp2_with fail;go_ret
             exact ⟨rfl,0,rfl⟩
         · have hr:=HC.out.trans ((if_neg (by omega)).trans ((if_neg (by omega)).trans (if_neg (fun h=>h5 h.2.1))));subst hr;clear HC hbe h0 h1;go_enter Tryz.func98,Tryz.ntmps98;go_wp2_with fail;go_ret
           exact ⟨rfl,0,rfl⟩
     · have hr:=HC.out.trans ((if_neg (by omega)).trans ((if_neg (by omega)).trans (if_neg (by omega))));subst hr;have g1:¬(k:Int)=1:=(by omega);have g3:¬(k:Int)=3:=(by omega);clear HC hbe h0 h1 h3;go_enter Tryz.func98,Tryz.ntmps98;go_wp2_with fail;go_ret
       exact ⟨rfl,0,rfl⟩
end
section
open Go.RowKit
open Lx
theorem ext_size (s:ByteArray) (i j:Nat) (h:i<=j) (hj:j<=s.size):(s.extract i j).size=j-i:=by simp;omega
theorem Di (s:ByteArray) (i j k:Nat) (hj:j<=s.size) (hk:i+k<j):Ad (s.extract i j) k=Ad s (i+k):=by
 have h1:k<(s.extract i j).size:=by rw[ext_size s i j (by omega) hj];omega
 rw[Bp _ _ h1,Bp s (i+k) (by omega)];simp[ByteArray.getElem_eq_getElem_data]
theorem PI (s:ByteArray) (i n k:Nat) (hn:n<=s.size) (hk:i+k<=n):(s.extract i n).extract k (n-i)=s.extract (i+k) n:=by
 apply ByteArray.ext;apply Array.ext
 · simp;omega
 · intro j h1 h2;simp
theorem Oi {p:Nat->Bool} {f g:Nat->Nat} {a:Nat} (m k:Nat) (h:∀j,k<=j->j<k+m->g j=f (a+j)):a+Jh p g m k=Jh p f m (a+k):=by
 induction m generalizing k with
 |zero=>rfl
 |succ m ih=>
  rw[Jh,Jh,h k (Nat.le_refl _) (by omega)];split
  · rw[ih (k+1) (fun j h1 h2=>h j (by omega) (by omega))];congr 1
  · rfl
theorem M6 (p:Nat->Bool) (s:ByteArray) (i:Nat) (hi:i<=s.size):i+stop p (Ad (s.extract i s.size)) (s.extract i s.size).size 0=stop p (Ad s) s.size i:=by unfold stop;rw[ext_size s i s.size hi (Nat.le_refl _),Nat.sub_zero];exact Oi _ 0 (fun j _ h2=>Di s i s.size j (Nat.le_refl _) (by omega))
theorem LJ {f g:Nat->Nat} {a:Nat} (m k:Nat) (com:Bool) (h:∀j,k<=j->j<k+m->g j=f (a+j)):a+Dx g m k com=Dx f m (a+k) com:=by
 induction m generalizing k com with
 |zero=>rfl
 |succ m ih=>
  rw[Dx,Dx,h k (Nat.le_refl _) (by omega)];have e:=fun c=>ih (k+1) c (fun j h1 h2=>h j (by omega) (by omega))
  split
  · exact e false
  · split
    · exact e true
    · split
      · rfl
      · exact e com
theorem Sv (s:ByteArray) (i:Nat) (hi:i<=s.size):i+skip (Ad (s.extract i s.size)) (s.extract i s.size).size 0 false=skip (Ad s) s.size i false:=by unfold skip;rw[ext_size s i s.size hi (Nat.le_refl _),Nat.sub_zero];exact LJ _ 0 false (fun j _ h2=>Di s i s.size j (Nat.le_refl _) (by omega))
theorem M7 (s:ByteArray) (i:Nat) (hi:i<s.size):AY (Ad (s.extract i s.size) 0)=AY (Ad s i):=by rw[Di s i s.size 0 (Nat.le_refl _) (by omega)];rfl
theorem KP (s:ByteArray) (i k:Nat) (h:i+k<=s.size):(List.range k).foldl (fun q j=>Df q (Ad (s.extract i (i+k)) j)) (AD (Ad s) i)=AD (Ad s) (i+k):=by
 have:∀m,m<=k->(List.range m).foldl (fun q j=>Df q (Ad (s.extract i (i+k)) j)) (AD (Ad s) i)=AD (Ad s) (i+m):=by
  intro m;induction m with
  |zero=>intro _;rfl
  |succ m ih=> intro hm;rw[List.range_succ,List.foldl_append,ih (by omega)];show Df _ _=AD _ (i+m+1);rw[AD,Di s i (i+k) m h (by omega)]
 exact this k (Nat.le_refl _)
end
section
open Go.RowKit
open Lx
def AZ (f:Nat->Nat) (n i:Nat):Nat:=
 if CU (f i)=true then stop DK f n i-i else if Bq (f i)=true then stop Bq f n i-i else if Fh (f i)=true then 1
 else if 2<=n-i/\Ih (f i) (f (i+1))=true then 2 else if Jg (f i)=true then 1 else 0
theorem Kh (s:ByteArray) (i:Nat) (hi:i<s.size):BS (s.extract i s.size)=AZ (Ad s) s.size i:=by
 have e0:=Di s i s.size 0 (Nat.le_refl _) (by omega);have hz:=ext_size s i s.size (by omega) (Nat.le_refl _);have h1:=M6 DK s i (by omega);have h2:=M6 Bq s i (by omega);unfold BS AZ Fj;rw[e0,Nat.add_zero];by_cases c1:CU (Ad s i)=true
 · rw[if_pos c1,if_pos c1];omega
 · rw[if_neg c1,if_neg c1];by_cases c2:Bq (Ad s i)=true
   · rw[if_pos c2,if_pos c2];omega
   · rw[if_neg c2,if_neg c2];by_cases c3:Fh (Ad s i)=true
     · rw[if_pos c3,if_pos c3]
     · rw[if_neg c3,if_neg c3,hz];by_cases c4:2<=s.size-i
       · rw[Di s i s.size 1 (Nat.le_refl _) (by omega)]
       · have c5:∀P:Prop,¬(2<=s.size-i/\P):=fun P h=>c4 h.1
         rw[if_neg (c5 _),if_neg (c5 _)]
theorem UJ {x y:Nat} (h:Ih x y=true):Jg x=true:=by rcases KJ h with ⟨rfl,_⟩|⟨rfl,_⟩|⟨rfl,_⟩|⟨rfl,_⟩|⟨rfl,_⟩|⟨rfl,_⟩<;>rfl
theorem Jk (f:Nat->Nat) {n i:Nat} (hi:i<n):i+AZ f n i<=n:=by
 have h1:=Fi DK f (n:=n) (i:=i) (by omega);have h2:=Fi Bq f (n:=n) (i:=i) (by omega);unfold AZ;split
 · omega
 · split
   · omega
   · split
     · omega
     · split
       · omega
       · split<;>omega
theorem I5 (f:Nat->Nat) {n i:Nat} (hi:i<n):(AZ f n i=0↔Cl f n i=100)/\(Cl f n i≠100->i+AZ f n i=Dg f n i):=by
 have h1:=Fi DK f (n:=n) (i:=i+1) (by omega);have h2:=Fi Bq f (n:=n) (i:=i+1) (by omega);unfold AZ Cl Dg;by_cases c1:CU (f i)=true
 · have e:=CY DK f hi;rw[if_pos (by unfold DK;rw[c1];rfl)]at e;simp only[c1,if_true];rw[e];refine ⟨⟨by omega,?_⟩,by omega⟩;split<;>omega
 · simp only[show CU (f i)=false by simpa using c1,Bool.false_eq_true,if_false];by_cases c2:Bq (f i)=true
   · have e:=CY Bq f hi;rw[if_pos c2]at e;simp only[c2,if_true];rw[e];refine ⟨⟨by omega,?_⟩,by omega⟩;split
     · omega
     · split<;>omega
   · simp only[show Bq (f i)=false by simpa using c2,Bool.false_eq_true,if_false];by_cases c3:Fh (f i)=true
     · simp[c3]
     · simp only[show Fh (f i)=false by simpa using c3,Bool.false_eq_true,if_false];by_cases c4:2<=n-i/\Ih (f i) (f (i+1))=true
       · have c5:=UJ c4.2;have c6:i+1<n/\Ih (f i) (f (i+1))=true:=⟨by omega,c4.2⟩;rw[if_pos c4,if_pos c6];simp[c5]
       · have c6:¬(i+1<n/\Ih (f i) (f (i+1))=true):=fun h=>c4 ⟨by omega,h.2⟩
         rw[if_neg c4,if_neg c6];by_cases c5:Jg (f i)=true
         · simp[c5]
         · simp[show Jg (f i)=false by simpa using c5]
theorem UK (s:ByteArray) (i:Nat) (hi:i<s.size):Qw (AY (Ad s i)) ((s.extract i s.size).extract 0 (AZ (Ad s) s.size i))=Cl (Ad s) s.size i:=by
 have hle:=Jk (Ad s) hi;have hz0:=ext_size s i s.size (by omega) (Nat.le_refl _);have hz:((s.extract i s.size).extract 0 (AZ (Ad s) s.size i)).size=AZ (Ad s) s.size i:=by rw[ext_size _ 0 _ (Nat.zero_le _) (by omega)];rfl
 have hb:0<AZ (Ad s) s.size i->Ad ((s.extract i s.size).extract 0 (AZ (Ad s) s.size i)) 0=Ad s i:=by intro h;rw[Di _ 0 _ 0 (by omega) (by omega),Di s i s.size 0 (Nat.le_refl _) (by omega)];rfl
 have he:=I5 (Ad s) hi;unfold Qw;rw[hz];by_cases h0:AZ (Ad s) s.size i=0
 · rw[if_pos h0,he.1.1 h0]
 · rw[if_neg h0,hb (by omega)];have hne:Cl (Ad s) s.size i≠100:=fun h=>h0 (he.1.2 h)
   revert hne
   generalize hts:AZ (Ad s) s.size i=z at *;unfold AZ at hts;unfold Cl AY;by_cases c1:CU (Ad s i)=true
   · rw[if_pos c1]at hts;simp[c1,hts]
   · simp only[show CU (Ad s i)=false by simpa using c1,Bool.false_eq_true,if_false]at hts ⊢;by_cases c2:Bq (Ad s i)=true
     · rw[if_pos c2]at hts;simp[c2,hts]
     · simp only[show Bq (Ad s i)=false by simpa using c2,Bool.false_eq_true,if_false];by_cases c3:Fh (Ad s i)=true
       · simp[c3]
       · simp only[show Fh (Ad s i)=false by simpa using c3,Bool.false_eq_true,if_false];by_cases c5:Jg (Ad s i)=true
         · simp[c5]
         · simp[show Jg (Ad s i)=false by simpa using c5]
end
section
open Go.RowKit
def Ai (g:Nat) (w w':World):Prop:=w.grownBy w' (some g)
theorem Ai.refl (g:Nat) (w:World):Ai g w w:=World.grownBy.refl w _
theorem Ai.gb {g:Nat} {w w':World} (h:Ai g w w'):w.grownBy w' (some g):=h
theorem Ai.trans {g:Nat} {a b c:World} (h:Ai g a b) (k:Ai g b c):Ai g a c:=
 ⟨k.os.trans h.os,k.tape.trans h.tape,k.output.trans h.output,Nat.le_trans h.size k.size,fun i hi hne=>(k.block i (Nat.lt_of_lt_of_le hi h.size) hne).trans (h.block i hi hne)⟩
theorem Ai.setCell {g:Nat} {a w:World} (h:Ai g a w) (i:Nat) (u:Value):Ai g a (w.setCell ⟨g,i,none⟩ u):=
 ⟨h.os,h.tape,h.output,by simpa[World.setCell] using h.size,fun k hk hne=>(Below.heap_setCell w ⟨g,i,none⟩ u k (fun hh=>hne (by rw[hh]))).trans (h.block k hk hne)⟩
theorem Ai.below {g B:Nat} {a w:World} (h:Ai g a w) (hB:B<=a.heap.size) (hg:B<=g):Below B a w:=
 ⟨h.os,h.tape,h.output,h.size,fun k hk=>h.block k (by omega) (fun hh=>by injection hh with hh;omega)⟩
def Kp (w w':World):Prop:=∀A n xs,Nums w A n xs->Nums w' A n xs
theorem Kp.refl (w:World):Kp w w:=fun _ _ _ h=>h
theorem Kp.trans {a b c:World} (h:Kp a b) (k:Kp b c):Kp a c:=fun _ _ _ hx=>k _ _ _ (h _ _ _ hx)
theorem Kp.of_below {w w':World} (h:Below w.heap.size w w'):Kp w w':=fun _ _ _ hx=>hx.below h
def NL (u:Value):Prop:=∀z,u≠.int .u32 z
def Cw (xs:List Value):Prop:=∀u∈xs,NL u
theorem Cw.append {xs ys:List Value} (h:Cw xs) (k:Cw ys):Cw (xs++ys):=fun u hu=>(List.mem_append.1 hu).elim (h u) (k u)
theorem Cw.take {xs:List Value} (h:Cw xs) (n:Nat):Cw (xs.take n):=fun u hu=>h u (List.mem_of_mem_take hu)
theorem Cw.drop {xs:List Value} (h:Cw xs) (n:Nat):Cw (xs.drop n):=fun u hu=>h u (List.mem_of_mem_drop hu)
theorem NL.bool (b:Bool):NL (.bool b):=fun _ h=>by cases h
theorem NL.slice (A:Option Addr) (n c:Nat):NL (.slice A n c):=fun _ h=>by cases h
theorem NL.i64 (z:Int):NL (.int .i64 z):=fun _ h=>by cases h
theorem Kp.block {w w':World} {g:Nat} {cur:Array Value} {T:TypeId} (hb:w.heap[g]?=some (.cells cur T (0,0))) (hn:Cw cur.toList) (hg:w.grownBy w' (some g)):Kp w w':=by
 intro A n xs hx;refine hx.grown' hg (fun h0 ad had he=>?_);obtain ⟨b,o,e,hc⟩:=hx.2.2 h0;have h1:=hc 0 h0;rw[had]at e;injection e with e
 subst e;have he':b=g:=he;subst he';rw[cell_of_row w b _ _ _ _ hb]at h1;have h2:(Value.int .u32 ((xs.getD 0 0:Nat):Int))∈cur.toList:=by have:=Array.mem_of_getElem? h1;simpa using this
 exact hn _ h2 _ rfl
theorem Kp.none {w w':World} (hg:w.grownBy w' none):Kp w w':=fun _ _ _ hx=>hx.grownNone hg
def Ak (T:TypeId) (sz:Nat) (w:World) (base:Nat) (v:Value) (n:Nat) (xs:List Value):Prop:=
 xs.length=n*sz/\((v=.slice none 0 0/\n=0) \/
  ∃g cap cur,v=.slice (some ⟨g,0,none⟩) n cap/\base<=g/\w.heap[g]?=some (.cells cur T (0,0))/\n<=cap/\cap<=maxLen/\cur.size=cap*sz/\cur.toList.take (n*sz)=xs/\Cw cur.toList)
section
variable {T:TypeId} {sz:Nat} {w w':World} {base:Nat} {v:Value} {n:Nat} {xs:List Value}
theorem Ak.nil (T:TypeId) (sz:Nat) (w:World) (base:Nat):Ak T sz w base (.slice none 0 0) 0 []:=⟨by simp,.inl ⟨rfl,rfl⟩⟩
theorem Ak.made (cur:Array Value) (cap:Nat) (hb:base<=w.heap.size) (hm:cap<=maxLen) (hs:cur.size=cap*sz) (hn:Cw cur.toList) :
  Ak T sz (w.alloc (.cells cur T)) base (.slice (some ⟨w.heap.size,0,none⟩) 0 cap) 0 []:=
 ⟨by simp,.inr ⟨w.heap.size,cap,cur,rfl,hb,heap_alloc_new w _,Nat.zero_le _,hm,hs,by simp,hn⟩⟩
theorem Ak.lit (cur:Array Value) (n:Nat) (hb:base<=w.heap.size) (hm:n<=maxLen) (hs:cur.size=n*sz) (hn:Cw cur.toList) :
  Ak T sz (w.alloc (.cells cur T)) base (.slice (some ⟨w.heap.size,0,none⟩) n n) n cur.toList:=
 ⟨by simpa using hs,.inr ⟨w.heap.size,n,cur,rfl,hb,heap_alloc_new w _,Nat.le_refl _,hm,hs,List.take_of_length_le (by simpa using Nat.le_of_eq hs),hn⟩⟩
theorem Ak.lt (h:Ak T sz w base v n xs):∀k,v.ownBlock=some k->base<=k/\k<w.heap.size:=by
 intro k hk;rcases h.2 with ⟨rfl,_⟩|⟨g,cap,cur,rfl,hb,hg,_⟩
 · simp[Value.ownBlock]at hk
 · simp[Value.ownBlock]at hk;subst hk;exact ⟨hb,(Array.getElem?_eq_some_iff.1 hg).1⟩
theorem Ak.kept {row:Option Nat} (h:Ak T sz w base v n xs) (hg:w.grownBy w' row) (hne:v.ownBlock=none\/v.ownBlock≠row):Ak T sz w' base v n xs:=by
 refine ⟨h.1,?_⟩;rcases h.2 with hn|⟨g,cap,cur,rfl,hb,hgg,rest⟩
 · exact .inl hn
 · refine .inr ⟨g,cap,cur,rfl,hb,?_,rest⟩;rw[hg.block g (Array.getElem?_eq_some_iff.1 hgg).1 (by simpa[Value.ownBlock] using hne)];exact hgg
theorem Ak.below (h:Ak T sz w base v n xs) (hb:Below w.heap.size w w'):Ak T sz w' base v n xs:=
 h.kept (row:=none) ⟨hb.os,hb.tape,hb.output,hb.size,fun k hk _=>hb.block k hk⟩ (by
  by_cases h0:v.ownBlock=none
  · exact .inl h0
  · exact .inr h0)
theorem Ak.other {g:Nat} (h:Ak T sz w base v n xs) (ho:Ai g w w') (hg:g<base\/w.heap.size<=g):Ak T sz w' base v n xs:=
 h.kept ho (by
  cases hv:v.ownBlock with
  |none=>exact .inl rfl
  |some k=> have:=h.lt k hv;exact .inr (fun e=>by injection e with e;omega))
theorem Ak.len (h:Ak T sz w base v n xs):∃A c,v=.slice A n c/\n<=c/\c<=9223372036854775807/\(0<n->∃g,A=some ⟨g,0,none⟩):=by
 rcases h.2 with ⟨rfl,rfl⟩|⟨g,cap,cur,rfl,_,_,h1,h2,_⟩
 · exact ⟨none,0,rfl,by omega,by omega,fun h=>absurd h (by omega)⟩
 · unfold maxLen at h2;exact ⟨_,cap,rfl,h1,h2,fun _=>⟨g,rfl⟩⟩
theorem Ak.cell {A:Option Addr} {c:Nat} (h:Ak T sz w base (.slice A n c) n xs) (hn:0<n):∃g,A=some ⟨g,0,none⟩/\base<=g/\g<w.heap.size/\∀j u,xs[j]?=some u->w.cell? ⟨g,j,none⟩=some u/\w.frozen? ⟨g,j,none⟩=false:=by
 rcases h.2 with ⟨hv,h0⟩|⟨g,cap,cur,hv,hb,hh,_,_,_,ht,_⟩
 · omega
 · injection hv with hv
   refine ⟨g,hv,hb,(Array.getElem?_eq_some_iff.1 hh).1,fun j u hu=>⟨?_,by simp[World.frozen?,hh]⟩⟩;rw[cell_of_row w g j _ _ _ hh];rw[<-ht,List.getElem?_take]at hu;split at hu
   · simpa using hu
   · cases hu
theorem Ak.isNLs (h:Ak T sz w base v n xs):Cw xs:=by
 rcases h.2 with ⟨_,rfl⟩|⟨g,cap,cur,_,_,_,_,_,_,ht,hn⟩
 · have:xs=[]:=List.eq_nil_of_length_eq_zero (by simpa using h.1);subst this;intro u hu;cases hu
 · rw[<-ht];exact hn.take _
theorem Ak.kp (h:Ak T sz w base v n xs) (hg:w.grownBy w' v.ownBlock):Kp w w':=by
 rcases h.2 with ⟨rfl,_⟩|⟨g,cap,cur,rfl,_,hh,_,_,_,_,hn⟩
 · exact Kp.none hg
 · exact Kp.block hh hn hg
theorem Ak.back {B:Nat} (h:Ak T sz w base v n xs) (hg:w.grownBy w' v.ownBlock) (hB:B<=base) (hw:B<=w.heap.size):Below B w w':=
 (Below.refl _ _).grown hg hw (fun k hk=>by have:=(h.lt k hk).1;omega)
theorem Ak.old {w0:World} {B:Nat} (h:Ak T sz w base v n xs) (h0:Below B w0 w) (hg:w.grownBy w' v.ownBlock) (hB:B<=base) (hw:B<=w0.heap.size):Below B w0 w':=
 h0.trans (h.back hg hB (Nat.le_trans hw h0.size))
theorem Ak.set {g c j:Nat} {u:Value} (h:Ak T sz w base (.slice (some ⟨g,0,none⟩) n c) n xs) (hu:NL u):Ak T sz (w.setCell ⟨g,j,none⟩ u) base (.slice (some ⟨g,0,none⟩) n c) n (xs.set j u):=by
 refine ⟨by simpa using h.1,?_⟩;rcases h.2 with ⟨hv,_⟩|⟨g',cap,cur,hv,hb,hh,h1,h2,h3,h4,h5⟩
 · cases hv
 · injection hv with e1 e2 e3
   injection e1 with e1
   injection e1 with e1
   subst e1 e3;refine .inr ⟨g,c,cur.setIfInBounds j u,rfl,hb,?_,h1,h2,by simpa using h3,?_,?_⟩
   · simp[World.setCell,Array.getElem?_modify,hh]
   · rw[Array.toList_setIfInBounds,List.take_set,h4]
   · intro x hx;rw[Array.toList_setIfInBounds]at hx;rcases List.mem_or_eq_of_mem_set hx with hx|rfl
     · exact h5 x hx
     · exact hu
end
section
variable {P:Program} (w:World)
theorem CS (base:Nat) (t ty e:TypeId) (i:TypeInfo) (z:Value) (size bytes:Nat) (ht:P.underlying t=some (.slice e)) (hi:P.info? e=some i) (hz:i.zero=some z)
   (hsize:i.size=size) (hby:i.bytes=bytes) (hzs:z.cells.size=size) (hsz:0<size) (hzn:Cw z.cells.toList)
   (v:Value) (n:Nat) (xs:List Value) (hown:Ak e size w base v n xs)
   (a:Addr) (m c:Nat) (news:List Value) (hl:news.length=m*size) (hnews:∀j u,news[j]?=some u->w.cell? (a.add j)=some u) (h1:∀u∈news,u.oneCell'=true) (hnn:Cw news)
   (h63:n+m<=maxLen) (hbytes:(n+m)*bytes<=140737488355328) (hbase:base<=w.heap.size) :
   ∃v' w',(Builtin.append_ #[t,t] ty #[v,.slice (some a) m c]).run P w=.ok v' w'/\Ak e size w' base v' (n+m) (xs++news)/\w.grownBy w' v.ownBlock:=by
 subst hsize;subst hby;have hsmall:n+m<=9223372036854775807:=by simp only[maxLen]at h63;omega
 have hlen:(xs++news).length=(n+m)*i.size:=by rw[List.length_append,hown.1,hl,Nat.add_mul]
 have hxn:=hown.isNLs;have hzz:∀k,Cw (Builtin.zeroCells z.cells k).toList:=by intro k u hu;have h2:u∈(Builtin.zeroCells z.cells k):=(by simpa using hu);unfold Builtin.zeroCells at h2;obtain ⟨q,-,hq⟩:=Array.mem_map.1 h2;have hlt:q%z.cells.size<z.cells.size:=Nat.mod_lt _ (by omega);rw[getElem!_pos z.cells _ hlt]at hq;exact hzn u (by rw[<-hq];simp)
 have grown:∀(old:Nat),old<n+m->∀(row:Option Nat),
     Ak e i.size (w.drew.alloc (.cells (xs.toArray++news.toArray++Builtin.zeroCells z.cells (grownCap w (n+m) old e-(n+m))) e)) base
       (.slice (some ⟨w.heap.size,0,none⟩) (n+m) (grownCap w (n+m) old e)) (n+m) (xs++news) /\
     w.grownBy (w.drew.alloc (.cells (xs.toArray++news.toArray++Builtin.zeroCells z.cells (grownCap w (n+m) old e-(n+m))) e)) row:=by
   intro old ho row;have hge:=grownCap_ge w (n+m) old e;have hcm:grownCap w (n+m) old e<=maxLen:=grownCap_le_maxLen w (n+m) old e h63;refine ⟨⟨hlen,.inr ⟨w.heap.size,_,_,rfl,hbase,heap_alloc_new w.drew _,hge,hcm,?_,?_,?_⟩⟩,⟨rfl,rfl,rfl,by simp,fun k hk _=>Below.heap_alloc w.drew _ k hk⟩⟩
   · simp only[Array.size_append,List.size_toArray,size_zeroCells,hzs,hown.1,hl,<-Nat.add_mul];congr 1
     omega
   · simp only[Array.toList_append,List.append_assoc];rw[<-List.append_assoc,<-hlen];exact List.take_left
   · simp only[Array.toList_append];exact (hxn.append hnn).append (hzz _)
 rcases hown.2 with ⟨rfl,rfl⟩|⟨g,cap,cur,rfl,hbg,hg,hnc,hcm,hcs,htake,hcn⟩
 · have hx:xs=[]:=List.eq_nil_of_length_eq_zero (by simpa using hown.1);subst hx;by_cases hm:m=0
   · subst hm;have hn:news=[]:=List.eq_nil_of_length_eq_zero (by simpa using hl);subst hn;refine ⟨.slice none 0 0,w,?_,Ak.nil e i.size w base,⟨rfl,rfl,rfl,Nat.le_refl _,fun _ _ _=>rfl⟩⟩;simp[Builtin.append_,run_underlying ht,sizeOf,typeInfo,hi,Builtin.lenOf,Builtin.firstCells,loadCells,loadCellsFrom]
   · have hr:=run_append_nil (P:=P) w t ty e i z ht hi hz a m c news hl hnews (by omega) (by omega) (by have hb:=hbytes;simp only[Nat.zero_add]at hb;omega);have hgr:=grown 0 (by omega) (Value.ownBlock (.slice none 0 0));simp only[Nat.zero_add,List.nil_append,Array.empty_append]at hgr ⊢;exact ⟨_,_,hr,hgr.1,hgr.2⟩
 · by_cases hroom:n+m<=cap
   · have hfit:n*i.size+news.length<=cur.size:=(by rw[hl,hcs,<-Nat.add_mul];exact Nat.mul_le_mul_right _ hroom);have hr:=run_append_room (P:=P) w t ty e i ht hi g n cap cur hg a m c news hl hnews h1 hroom hfit;refine ⟨_,_,hr,⟨hlen,.inr ⟨g,cap,_,rfl,hbg,setRow_heap w g cur _ e _ hg,hroom,hcm,?_,?_,?_⟩⟩,⟨rfl,rfl,rfl,by simp,fun k _ hk=>setRow_other w g k _ (fun e=>hk (by simp[Value.ownBlock,e]))⟩⟩
     · simp only[List.size_toArray,List.length_append,List.length_take,List.length_drop,Array.length_toList];omega
     · rw[htake,<-hlen];exact List.take_left
     · exact ((hcn.take _).append hnn).append (hcn.drop _)
   · have holds:∀j u,xs[j]?=some u->w.cell? ((⟨g,0,none⟩:Addr).add j)=some u:=by
       intro j u hu;have hadd:(⟨g,0,none⟩:Addr).add j=⟨g,j,none⟩:=(by unfold Addr.add;split<;>simp_all);rw[hadd,cell_of_row w g j cur e (0,0) hg];rw[<-htake,List.getElem?_take]at hu;split at hu
       · simpa using hu
       · cases hu
     have hr:=run_append_grow (P:=P) w t ty e i z ht hi hz ⟨g,0,none⟩ n cap xs hown.1 holds a m c news hl hnews (by omega) (by omega) (growslice_fits (by omega) hbytes);have hgr:=grown cap (by omega) (Value.ownBlock (.slice (some ⟨g,0,none⟩) n cap));exact ⟨_,_,hr,hgr.1,hgr.2⟩
end
theorem CZ {P:Program} {w w':World} {o:Oper} {a:Act} {s x:Operand} {t:TypeId} {vs vx v':Value} (ho:o.op=.call { callee:=.builtin .append,args:=#[s,x],argTypes:=#[t,t] })
  (hs:a.eval s=vs) (hx:a.eval x=vx) (hr:(Builtin.append_ #[t,t] o.type #[vs,vx]).run P w=.ok v' w'):(execOp a.eval o).run P w=.ok (.value v') w':=by
 unfold execOp;simp only[ho,resolve,invoke,builtin,Sem.run_bind,Sem.run_pure,Result.andThen_ok,List.map_toArray,List.map_cons,List.map_nil,hs,hx,hr]
theorem Ba {P:Program} {w:World} {ops:Array Oper} {rest:List Oper} {o:Oper} {a:Act} {Q:Exit->Act->World->Prop} (hgd:o.guard=none) (s x:Operand) (t:TypeId)
  (ho:o.op=.call { callee:=.builtin .append,args:=#[s,x],argTypes:=#[t,t] }) (base:Nat) (e:TypeId) (i:TypeInfo) (z:Value) (size bytes:Nat) (ht:P.underlying t=some (.slice e)) (hi:P.info? e=some i) (hz:i.zero=some z)
  (hsize:i.size=size) (hby:i.bytes=bytes) (hzs:z.cells.size=size) (hsz:0<size) (hzn:Cw z.cells.toList)
  (v:Value) (n:Nat) (xs:List Value) (hs:a.eval s=v) (hown:Ak e size w base v n xs)
  (ad:Addr) (m c:Nat) (news:List Value) (hx:a.eval x=.slice (some ad) m c) (hl:news.length=m*size) (hnews:∀j u,news[j]?=some u->w.cell? (ad.add j)=some u) (h1:∀u∈news,u.oneCell'=true) (hnn:Cw news)
  (h63:n+m<=maxLen) (hbytes:(n+m)*bytes<=140737488355328) (hbase:base<=w.heap.size)
  (h:∀v' w',Ak e size w' base v' (n+m) (xs++news)->w.grownBy w' v.ownBlock->wpList P ops Q rest (a.put o.dst v') w'):wpList P ops Q (o::rest) a w:=by
 obtain ⟨v',w',hr,h2,h3⟩:=CS (P:=P) w base t o.type e i z size bytes ht hi hz hsize hby hzs hsz hzn v n xs hown ad m c news hl hnews h1 hnn h63 hbytes hbase;refine wpList_plain hgd fun K hK=>?_
 unfold Oper.wp;rw[CZ ho hs hx hr];exact hK _ _ (h v' w' h2 h3)
end
section
open Go.RowKit
open Lx
structure TK where
 kind:Nat
 text:ByteArray
 line:Nat
 col:Nat
def TK.cells (t:TK):List Value:=[.int .i64 t.kind,.string t.text,.int .i64 t.line,.int .i64 t.col]
def Bu (ts:List TK):List Value:=(ts.map TK.cells).flatten
theorem LK (ps qs:List TK):Bu (ps++qs)=Bu ps++Bu qs:=by unfold Bu;rw[List.map_append,List.flatten_append]
theorem KQ {ps:List TK} {u:Value} (hu:u∈Bu ps):(∃z:Int,u=.int .i64 z)\/∃s,u=.string s:=by
 unfold Bu at hu;obtain ⟨l,hl,hu⟩:=List.mem_flatten.1 hu;obtain ⟨p,-,rfl⟩:=List.mem_map.1 hl;simp[TK.cells]at hu;rcases hu with rfl|rfl|rfl|rfl
 · exact Or.inl ⟨_,rfl⟩
 · exact Or.inr ⟨_,rfl⟩
 · exact Or.inl ⟨_,rfl⟩
 · exact Or.inl ⟨_,rfl⟩
theorem Qx (ps:List TK):∀u∈Bu ps,u.oneCell'=true:=by intro u hu;rcases KQ hu with ⟨z,rfl⟩|⟨s,rfl⟩<;>rfl
theorem Qy (ps:List TK):Cw (Bu ps):=by
 intro u hu;rcases KQ hu with ⟨z,rfl⟩|⟨s,rfl⟩
 · exact NL.i64 _
 · intro z h;cases h
theorem Sw:(Tryz.prog.info? 113).map (fun i=>(i.zero,i.size,i.bytes))=some (some (.agg #[.int .i64 0,.string ⟨#[]⟩,.int .i64 0,.int .i64 0]),4,40):=by kernel_rfl
theorem addr_add (b o j:Nat):(⟨b,o,none⟩:Addr).add j=⟨b,o+j,none⟩:=by
 by_cases hj0:j=0
 · subst hj0;rfl
 · simp[Addr.add,hj0]
theorem LL:Cw (Value.agg #[.int .i64 0,.string ⟨#[]⟩,.int .i64 0,.int .i64 0]).cells.toList:=by
 show Cw [.int .i64 0,.string ⟨#[]⟩,.int .i64 0,.int .i64 0];intro u hu;simp only[List.mem_cons,List.not_mem_nil,or_false]at hu;rcases hu with rfl|rfl|rfl|rfl
 · exact NL.i64 _
 · intro z h;cases h
 · exact NL.i64 _
 · exact NL.i64 _
theorem E6 {w:World} {ops:Array Oper} {rest:List Oper} {o:Oper} {a:Act} {Q:Exit->Act->World->Prop} (hgd:o.guard=none) (s x:Operand)
  (ho:o.op=.call { callee:=.builtin .append,args:=#[s,x],argTypes:=#[105,105] }) (base:Nat) (v:Value) (ps:List TK) (hs:a.eval s=v) (hown:Ak 113 4 w base v ps.length (Bu ps))
  (b:Nat) (p:TK) (hx:a.eval x=.slice (some ⟨b,0,none⟩) 1 1) (hb:w.heap[b]?=some (.cells p.cells.toArray 113 (0,0))) (hn:ps.length+1<=1099511627776) (hbase:base<=w.heap.size)
  (h:∀v' w',Ak 113 4 w' base v' (ps++[p]).length (Bu (ps++[p]))->w.grownBy w' v.ownBlock->wpList Tryz.prog ops Q rest (a.put o.dst v') w'):wpList Tryz.prog ops Q (o::rest) a w:=by
 obtain ⟨i0,hi0,hz0,hz1,hz2⟩:=info_parts Sw;refine Ba hgd s x 105 ho base 113 i0 _ 4 40 Tryz.underlying105 hi0 hz0 hz1 hz2 rfl (by decide) LL v ps.length (Bu ps) hs hown ⟨b,0,none⟩ 1 1 (Bu [p]) hx rfl
  (fun j u hu=>by rw[addr_add,Nat.zero_add,cell_of_row w b j _ _ _ hb];simpa[Bu] using hu) (Qx _) (Qy _) (by unfold maxLen;omega) (by omega) hbase ?_
 intro v' w' h1 h2;refine h v' w' ?_ h2;rw[LK,List.length_append];exact h1
end
section
open Go.RowKit
open Lx
theorem Ec (w:World) (g:Nat) (cs:Array Value):Ai g w (w.setRow g cs):=
 ⟨rfl,rfl,rfl,by simp[World.setRow],fun k _ hne=>setRow_other w g k cs (fun hh=>hne (by rw[hh]))⟩
def IE (w:World) (g:Nat) (x y:Value):Prop:=w.heap[g]?=some (.cells #[x,y] 25 (0,0))
theorem M8 {fn:Func} {p q t:Tmp} (h:fn.results=#[.tmp p,.cell q 25,.tmp t]) (tmps:Array Value) (w:World) (g:Nat) (x y:Value)
  (hq:tmps.getD q undef=.pointer (some ⟨g,0,none⟩)) (hg:IE w g x y) :
  (results fn tmps).run Tryz.prog w=.ok (.tuple #[tmps.getD p undef,.agg #[x,y],tmps.getD t undef]) w:=by
 have hq':tmps[q]?.getD undef=.pointer (some ⟨g,0,none⟩):=by simpa using hq
 simp[results,h,hq',asAddr,run_loadVar_row w g 25 25 #[x,y] (0,0) _ hg Tryz.underlying25 rfl (by kernel_rfl)]
theorem BX {fn:Func} {R:Ending->World->Prop} {a:Act} {w:World} {g p q t:Nat} {x y u v:Value} (hres:fn.results=#[.tmp p,.cell q 25,.tmp t]) (hq:a.tmps.getD q undef=.pointer (some ⟨g,0,none⟩))
  (hu:a.tmps.getD p undef=u) (hv:a.tmps.getD t undef=v) (hb:IE w g x y) (hd:a.defers=[]) (hR:R (.returned (.tuple #[u,.agg #[x,y],v])) w):bodyPost Tryz.prog fn R .ret a w:=
 bodyPost_ret (by rw[M8 hres _ _ g x y hq hb,hu,hv]) hd hR
def tk (s:ByteArray) (t:Tok):TK:=⟨t.1,s.extract t.2.1 t.2.2,(AD (Ad s) t.2.1).1,(AD (Ad s) t.2.1).2⟩
def BP (s:ByteArray) (r:YE):Nat×Nat:=if r.code=0 then (0,0) else AD (Ad s) r.off
def E7 (s:ByteArray) (w:World) (e:Ending) (w':World):Prop:=
 ∃v,e=.returned (.tuple #[v,.agg #[.int .i64 ((BP s (Aw (Ad s) s.size)).1:Nat),.int .i64 ((BP s (Aw (Ad s) s.size)).2:Nat)],.int .i64 ((Aw (Ad s) s.size).code:Nat)])/\Below w.heap.size w w' /\
  Ak 113 4 w' w.heap.size v (Aw (Ad s) s.size).toks.length (Bu ((Aw (Ad s) s.size).toks.map (tk s)))
theorem IE.next {w w':World} {g:Nat} {x y:Value} (h:IE w g x y) (hb:Below w.heap.size w w'):IE w' g x y:=
 (hb.block g (Array.getElem?_eq_some_iff.1 h).1).trans h
theorem Sy (s:ByteArray) (w:World) (hs:s.size<=9223372036854775807) (hl:16384<s.size):Calls Tryz.prog 50 #[.string s] w (E7 s w):=by
 have e:Aw (Ad s) s.size=⟨[],2,0⟩:=if_pos hl;have HP:=Aa (show ∀v w',(v=.slice none 0 0)->Below w.heap.size w w'->E7 s w (.returned (.tuple #[v,.agg #[.int .i64 (1:Int),.int .i64 (1:Int)],.int .i64 (2:Int)])) w' from by
  intro v w' hv hb;subst hv;refine ⟨.slice none 0 0,?_,hb,?_⟩
  · rw[e];rfl
  · rw[e];exact Ak.nil _ _ _ _)
 have x0:IE (w.alloc (.cells #[.int .i64 0,.int .i64 0] 25)) w.heap.size (.int .i64 0) (.int .i64 0):=heap_alloc_new w _;have hp:=PF (1,1) (w.alloc (.cells #[.int .i64 0,.int .i64 0] 25)) (by decide) (by decide);unfold cx at hp;simp only[show FL ((1:Nat):Int)=4607182418800017408 from Ji]at hp;go_enter Tryz.func50,Tryz.ntmps50;go_wp2_with fail;refine hp.mono ?_;rintro en w1 ⟨rfl,b1⟩;have x1:w1.heap[w.heap.size]?=some (.cells #[.int .i64 0,.int .i64 0] 25 (0,0)):=x0.next b1
 have b0:=(Ae w (.cells #[.int .i64 0,.int .i64 0] 25)).trans (b1.mono (Ae w (.cells #[.int .i64 0,.int .i64 0] 25)).size);go_wp2_with (with_reducible refine wpList_store_row rfl 25 _ _ rfl w.heap.size #[.int .i64 (1:Int),.int .i64 (1:Int)] rfl rfl 25 #[.int .i64 0,.int .i64 0] x1 (by kernel_rfl) rfl (by simp[Value.oneCell']) ?_);refine BX (g:=w.heap.size) (x:=.int .i64 (1:Int)) (y:=.int .i64 (1:Int)) rfl rfl rfl rfl (setRow_heap _ _ _ _ _ _ x1) rfl ?_
 exact HP.out _ _ rfl (b0.trans ((Ec _ _ _).below b0.size (Nat.le_refl _)))
end
section
open Go.RowKit
open Lx
theorem Oj (t:TK) (ts:List TK):Bu (t::ts)=t.cells++Bu ts:=rfl
theorem Qz (ts:List TK) (i:Nat) (t:TK) (h:ts[i]?=some t):(Bu ts)[4*i]?=some (.int .i64 t.kind)/\(Bu ts)[4*i+1]?=some (.string t.text)/\(Bu ts)[4*i+2]?=some (.int .i64 t.line)/\(Bu ts)[4*i+3]?=some (.int .i64 t.col):=by
 induction ts generalizing i with
 |nil=>simp at h
 |cons q ts ih=>
  rw[Oj];cases i with
  |zero=>
   simp at h;subst h;exact ⟨rfl,rfl,rfl,rfl⟩
  |succ i=>
   have h2:=ih i (by simpa using h);have hl:q.cells.length=4:=rfl;rw[show 4*(i+1)=q.cells.length+4*i by rw[hl];omega,show q.cells.length+4*i+1=q.cells.length+(4*i+1) by omega,show q.cells.length+4*i+2=q.cells.length+(4*i+2) by omega,show q.cells.length+4*i+3=q.cells.length+(4*i+3) by omega,
    List.getElem?_append_right (by omega),List.getElem?_append_right (by omega),List.getElem?_append_right (by omega),List.getElem?_append_right (by omega)]
   simpa using h2
def Q9 (w:World) (A:Option Addr) (n:Nat) (ts:List TK):Prop:=
 ts.length=n/\(0<n->∃b o,A=some ⟨b,o,none⟩/\b<w.heap.size/\∀j u,(Bu ts)[j]?=some u->w.cell? ⟨b,o+j,none⟩=some u)
theorem Q9.below {w w':World} {A:Option Addr} {n:Nat} {ts:List TK} (h:Q9 w A n ts) (hb:Below w.heap.size w w'):Q9 w' A n ts:=by refine ⟨h.1,fun hn=>?_⟩;obtain ⟨b,o,e,hlt,hc⟩:=h.2 hn;refine ⟨b,o,e,Nat.lt_of_lt_of_le hlt hb.size,fun j u hu=>?_⟩;exact (World.cell?_of_block (w:=w) (a:=⟨b,o+j,none⟩) (hb.block b hlt)).trans (hc j u hu)
theorem Q9.at_ {w:World} {A:Option Addr} {n i:Nat} {ts:List TK} (h:Q9 w A n ts) (hi:i<n):∃b o t,A=some ⟨b,o,none⟩/\b<w.heap.size/\ts[i]?=some t/\w.cell? ⟨b,o+i*4,none⟩=some (.int .i64 t.kind)/\w.cell? ⟨b,o+i*4+1,none⟩=some (.string t.text)/\w.cell? ⟨b,o+i*4+2,none⟩=some (.int .i64 t.line)/\w.cell? ⟨b,o+i*4+3,none⟩=some (.int .i64 t.col):=by
 obtain ⟨b,o,e,hlt,hc⟩:=h.2 (by omega);have hl:i<ts.length:=by rw[h.1];exact hi
 obtain ⟨g0,g1,g2,g3⟩:=Qz ts i ts[i] (List.getElem?_eq_getElem hl);refine ⟨b,o,ts[i],e,hlt,List.getElem?_eq_getElem hl,?_,?_,?_,?_⟩
 · rw[show o+i*4=o+4*i by omega];exact hc _ _ g0
 · rw[show o+i*4+1=o+(4*i+1) by omega];exact hc _ _ g1
 · rw[show o+i*4+2=o+(4*i+2) by omega];exact hc _ _ g2
 · rw[show o+i*4+3=o+(4*i+3) by omega];exact hc _ _ g3
theorem Ak.kin {T:TypeId} {w:World} {base:Nat} {v:Value} {ts:List TK} (h:Ak T 4 w base v ts.length (Bu ts)):∃A c,v=.slice A ts.length c/\ts.length<=c/\c<=9223372036854775807/\Q9 w A ts.length ts:=by obtain ⟨A,c,rfl,h1,h2,h3⟩:=h.len;refine ⟨A,c,rfl,h1,h2,rfl,fun hn=>?_⟩;obtain ⟨g,rfl,hb,hlt,hc⟩:=h.cell hn;exact ⟨g,0,rfl,hlt,fun j u hu=>by rw[Nat.zero_add];exact (hc j u hu).1⟩
theorem Q9.only {w w':World} {A:Option Addr} {n g:Nat} {ts:List TK} (h:Q9 w A n ts) (ho:Ai g w w') (hne:0<n->∀a,A=some a->a.block≠g):Q9 w' A n ts:=by refine ⟨h.1,fun hn=>?_⟩;obtain ⟨b,o,e,hlt,hc⟩:=h.2 hn;have hb:b≠g:=hne hn _ e;refine ⟨b,o,e,Nat.lt_of_lt_of_le hlt ho.size,fun j u hu=>?_⟩;exact (World.cell?_of_block (w:=w) (a:=⟨b,o+j,none⟩) (ho.block b hlt (fun hh=>hb (by injection hh)))).trans (hc j u hu)
end
section
open Go.RowKit
def EN (w:World) (A:Option Addr) (n:Nat) (xs:List ByteArray):Prop:=
 xs.length=n/\(0<n->∃b o,A=some ⟨b,o,none⟩/\b<w.heap.size/\∀j s,xs[j]?=some s->w.cell? ⟨b,o+j,none⟩=some (.string s))
theorem EN.below {w w':World} {A:Option Addr} {n:Nat} {xs:List ByteArray} (h:EN w A n xs) (hb:Below w.heap.size w w'):EN w' A n xs:=by refine ⟨h.1,fun hn=>?_⟩;obtain ⟨b,o,e,hlt,hc⟩:=h.2 hn;refine ⟨b,o,e,Nat.lt_of_lt_of_le hlt hb.size,fun j u hu=>?_⟩;exact (World.cell?_of_block (w:=w) (a:=⟨b,o+j,none⟩) (hb.block b hlt)).trans (hc j u hu)
theorem EN.at_ {w:World} {A:Option Addr} {n i:Nat} {xs:List ByteArray} (h:EN w A n xs) (hi:i<n):∃b o s,A=some ⟨b,o,none⟩/\b<w.heap.size/\xs[i]?=some s/\w.cell? ⟨b,o+i,none⟩=some (.string s):=by
 obtain ⟨b,o,e,hlt,hc⟩:=h.2 (by omega);have hl:i<xs.length:=by rw[h.1];exact hi
 exact ⟨b,o,xs[i],e,hlt,List.getElem?_eq_getElem hl,hc _ _ (List.getElem?_eq_getElem hl)⟩
theorem EN.only {w w':World} {A:Option Addr} {n g:Nat} {xs:List ByteArray} (h:EN w A n xs) (ho:Ai g w w') (hne:0<n->∀a,A=some a->a.block≠g):EN w' A n xs:=by refine ⟨h.1,fun hn=>?_⟩;obtain ⟨b,o,e,hlt,hc⟩:=h.2 hn;have hb:b≠g:=hne hn _ e;refine ⟨b,o,e,Nat.lt_of_lt_of_le hlt ho.size,fun j u hu=>?_⟩;exact (World.cell?_of_block (w:=w) (a:=⟨b,o+j,none⟩) (ho.block b hlt (fun hh=>hb (by injection hh)))).trans (hc j u hu)
end
end Go.Proofs.YtgohmojcopajoaaGreatDoor
