/- Texts of one seat, put together: ExprMem BoxG ExprCur. -/
import Derived.Test.YtgohmojcopajoaaGreatDoorH03
import Derived.Test.YtgohmojcopajoaaGreatDoorH04
set_option linter.unusedVariables false
set_option linter.unusedSimpArgs false
set_option maxRecDepth 100000
set_option maxHeartbeats 16000000
namespace Go.Proofs.YtgohmojcopajoaaGreatDoor
section
open Go.RowKit
open Lx Ex
def pt (t:TK):PT:=(t.kind,t.text)
def SD:TK:=⟨5,⟨#[]⟩,0,0⟩
def view (ts:List TK) (i:Nat):List TK:=if ts.length=0 then [SD] else ts.drop (min i (ts.length-1))
def rd (ts:List TK) (i:Nat):List PT:=(view ts i).map pt
def hd (ts:List TK) (i:Nat):TK:=(view ts i).headD SD
def Jp (ts:List TK):Prop:=∀t,ts[ts.length-1]?=some t->t.kind=5
theorem PN (ts:List TK) (i:Nat):0<(view ts i).length:=by
 unfold view;split
 · simp
 · rw[List.length_drop];omega
theorem Ol (ts:List TK) (i:Nat):(rd ts i).length=(view ts i).length:=by simp[rd]
theorem SE (ts:List TK) (i:Nat):0<(rd ts i).length:=by rw[Ol];exact PN ts i
theorem Fs (ts:List TK) (i:Nat):rd ts i=pt (hd ts i)::(rd ts i).tail:=by
 unfold rd hd;have:=PN ts i;cases hv:view ts i with
 |nil=>rw[hv]at this;simp at this
 |cons t r=>rfl
theorem SF (ts:List TK) (i:Nat) (h:0<ts.length):ts[min i (ts.length-1)]?=some (hd ts i):=by
 have hl:min i (ts.length-1)<ts.length:=by omega
 unfold hd view;rw[if_neg (by omega),List.drop_eq_getElem_cons hl,List.getElem?_eq_getElem hl];rfl
theorem Om (ts:List TK) (i:Nat) (h:ts.length=0):hd ts i=SD:=by unfold hd view;rw[if_pos h];rfl
theorem IU {ts:List TK} {i:Nat} (he:Jp ts) (hk:(hd ts i).kind≠5):rd ts (i+1)=(rd ts i).tail/\(rd ts (i+1)).length+1=(rd ts i).length/\i+1<ts.length:=by
 have h0:ts.length≠0:=fun h=>hk (by rw[Om ts i h];rfl)
 have h1:i<ts.length-1:=by
   rcases Nat.lt_or_ge i (ts.length-1) with h|h
   · exact h
   · have h2:=SF ts i (by omega);rw[Nat.min_eq_right h]at h2;exact absurd (he _ h2) hk
 have e1:rd ts i=(ts.drop i).map pt:=by unfold rd view;rw[if_neg h0,Nat.min_eq_left (by omega)]
 have e2:rd ts (i+1)=(ts.drop (i+1)).map pt:=by unfold rd view;rw[if_neg h0,Nat.min_eq_left (by omega)]
 rw[e1,e2];refine ⟨?_,?_,by omega⟩
 · rw[List.drop_eq_getElem_cons (show i<ts.length by omega)];rfl
 · simp;omega
theorem On (s:ByteArray) (ts:List TK) (i:Nat):AV s (rd ts i)=(decide ((hd ts i).text=s)&&((hd ts i).kind==1 || (hd ts i).kind==2 || (hd ts i).kind==4)):=by rw[Fs];rfl
theorem BZ {ts:List TK} {i:Nat} (he:Jp ts) {s:ByteArray} (h:AV s (rd ts i)=true):rd ts (i+1)=(rd ts i).tail/\(rd ts (i+1)).length+1=(rd ts i).length/\i+1<ts.length:=by refine IU he (fun h5=>?_);rw[On,h5]at h;simp at h
def Ex.Mn.cells (m:Mn):List Value:=[.bool m.neg,.string m.num,.string m.var]
def Cs (l:List Mn):List Value:=(l.map Ex.Mn.cells).flatten
theorem LO (ps qs:List Mn):Cs (ps++qs)=Cs ps++Cs qs:=by unfold Cs;rw[List.map_append,List.flatten_append]
theorem Jq (t:Mn) (ts:List Mn):Cs (t::ts)=t.cells++Cs ts:=rfl
theorem QD (l:List Mn):(Cs l).length=3*l.length:=by
 induction l with
 |nil=>rfl
 |cons m l ih=>rw[Jq,List.length_append,ih,List.length_cons];show 3+_=_;omega
theorem KU {ps:List Mn} {u:Value} (hu:u∈Cs ps):(∃z:Bool,u=.bool z)\/∃s,u=.string s:=by
 unfold Cs at hu;obtain ⟨l,hl,hu⟩:=List.mem_flatten.1 hu;obtain ⟨p,-,rfl⟩:=List.mem_map.1 hl;simp[Mn.cells]at hu;rcases hu with rfl|rfl|rfl
 · exact Or.inl ⟨_,rfl⟩
 · exact Or.inr ⟨_,rfl⟩
 · exact Or.inr ⟨_,rfl⟩
theorem QE (ps:List Mn):∀u∈Cs ps,u.oneCell'=true:=by intro u hu;rcases KU hu with ⟨z,rfl⟩|⟨s,rfl⟩<;>rfl
theorem QF (ps:List Mn):Cw (Cs ps):=by
 intro u hu;rcases KU hu with ⟨z,rfl⟩|⟨s,rfl⟩
 · exact NL.bool _
 · intro z h;cases h
theorem KV (l:List Mn) (i:Nat) (m:Mn) (h:l[i]?=some m):(Cs l)[3*i]?=some (.bool m.neg)/\(Cs l)[3*i+1]?=some (.string m.num)/\(Cs l)[3*i+2]?=some (.string m.var):=by
 induction l generalizing i with
 |nil=>simp at h
 |cons q ts ih=>
  rw[Jq];cases i with
  |zero=>
   simp at h;subst h;exact ⟨rfl,rfl,rfl⟩
  |succ i=>
   have h2:=ih i (by simpa using h);have hl:q.cells.length=3:=rfl;rw[show 3*(i+1)=q.cells.length+3*i by rw[hl];omega,show q.cells.length+3*i+1=q.cells.length+(3*i+1) by omega,show q.cells.length+3*i+2=q.cells.length+(3*i+2) by omega,
    List.getElem?_append_right (by omega),List.getElem?_append_right (by omega),List.getElem?_append_right (by omega)]
   simpa using h2
def AJ (S:Nat->Prop) (w w':World):Prop:=w.heap.size<=w'.heap.size/\∀b,S b->b<w.heap.size->w'.heap[b]?=w.heap[b]?
def BG (B b:Nat):Prop:=B<=b
theorem AJ.of_below {S:Nat->Prop} {w w':World} (h:Below w.heap.size w w'):AJ S w w':=⟨h.size,fun b _ hb=>h.block b hb⟩
theorem AJ.of_only' {S:Nat->Prop} {g:Nat} {w w':World} (h:Ai g w w') (hg:¬S g):AJ S w w':=⟨h.size,fun b hB hb=>h.block b hb (fun e=>by injection e with e;subst e;exact hg hB)⟩
theorem AJ.of_only {B g:Nat} {w w':World} (h:Ai g w w') (hg:g<B):AJ (BG B) w w':=AJ.of_only' h (fun hh=>by unfold BG at hh;omega)
def Du (S:Nat->Prop) (w:World) (A:Option Addr) (n:Nat) (l:List Mn):Prop:=
 l.length=n/\(0<n->∃b o,A=some ⟨b,o,none⟩/\S b/\b<w.heap.size/\∀j u,(Cs l)[j]?=some u->w.cell? ⟨b,o+j,none⟩=some u)
theorem Du.keep {S:Nat->Prop} {w w':World} {A:Option Addr} {n:Nat} {l:List Mn} (h:Du S w A n l) (k:AJ S w w'):Du S w' A n l:=by refine ⟨h.1,fun hn=>?_⟩;obtain ⟨b,o,e,hB,hlt,hc⟩:=h.2 hn;exact ⟨b,o,e,hB,Nat.lt_of_lt_of_le hlt k.1,fun j u hu=>(World.cell?_of_block (w:=w) (a:=⟨b,o+j,none⟩) (k.2 b hB hlt)).trans (hc j u hu)⟩
theorem Du.sub {S S':Nat->Prop} {w:World} {A:Option Addr} {n:Nat} {l:List Mn} (h:Du S w A n l) (hB:∀b,S b->S' b):Du S' w A n l:=by refine ⟨h.1,fun hn=>?_⟩;obtain ⟨b,o,e,h1,hlt,hc⟩:=h.2 hn;exact ⟨b,o,e,hB b h1,hlt,hc⟩
theorem Du.mono {B B':Nat} {w:World} {A:Option Addr} {n:Nat} {l:List Mn} (h:Du (BG B) w A n l) (hB:B'<=B):Du (BG B') w A n l:=h.sub (fun b hb=>Nat.le_trans hB hb)
theorem Du.nil (S:Nat->Prop) (w:World) (A:Option Addr):Du S w A 0 []:=⟨rfl,fun h=>absurd h (by omega)⟩
theorem Du.at_ {S:Nat->Prop} {w:World} {A:Option Addr} {n i:Nat} {l:List Mn} (h:Du S w A n l) (hi:i<n):∃b o m,A=some ⟨b,o,none⟩/\b<w.heap.size/\l[i]?=some m/\w.cell? ⟨b,o+i*3,none⟩=some (.bool m.neg)/\w.cell? ⟨b,o+i*3+1,none⟩=some (.string m.num)/\w.cell? ⟨b,o+i*3+2,none⟩=some (.string m.var):=by
 obtain ⟨b,o,e,hB,hlt,hc⟩:=h.2 (by omega);have hl:i<l.length:=by rw[h.1];exact hi
 obtain ⟨g0,g1,g2⟩:=KV l i l[i] (List.getElem?_eq_getElem hl);refine ⟨b,o,l[i],e,hlt,List.getElem?_eq_getElem hl,?_,?_,?_⟩
 · rw[show o+i*3=o+3*i by omega];exact hc _ _ g0
 · rw[show o+i*3+1=o+(3*i+1) by omega];exact hc _ _ g1
 · rw[show o+i*3+2=o+(3*i+2) by omega];exact hc _ _ g2
theorem Ak.min {T:TypeId} {w:World} {base:Nat} {v:Value} {l:List Mn} (h:Ak T 3 w base v l.length (Cs l)):∃A c,v=.slice A l.length c/\l.length<=c/\c<=9223372036854775807/\Du (BG base) w A l.length l:=by obtain ⟨A,c,rfl,h1,h2,h3⟩:=h.len;refine ⟨A,c,rfl,h1,h2,rfl,fun hn=>?_⟩;obtain ⟨g,rfl,hb,hlt,hc⟩:=h.cell hn;exact ⟨g,0,rfl,hb,hlt,fun j u hu=>by rw[Nat.zero_add];exact (hc j u hu).1⟩
inductive GT where
 |mk (kind:Int) (l r:List Mn) (op:Int) (proc loc:ByteArray) (kids:List GT)
def sl (A:Option Addr) (n c:Nat):Value:=.slice A n c
inductive AW (S:Nat->Prop) (w:World):GT->List Value->Prop where
 |mk (k op:Int) (l r:List Mn) (p q:ByteArray) (kids:List GT) (Al Ar A:Option Addr) (nl cl nr cr n c:Nat) (b o:Nat) (cs:Nat->List Value) :
  Du S w Al nl l->Du S w Ar nr r->kids.length=n->nl<=cl->cl<=9223372036854775807->nr<=cr->cr<=9223372036854775807->n<=c->c<=9223372036854775807 ->
  (0<n->A=some ⟨b,o,none⟩/\S b/\b<w.heap.size) ->
  (∀j,j<n->(cs j).length=7/\∀m u,(cs j)[m]?=some u->w.cell? ⟨b,o+j*7+m,none⟩=some u) ->
  (∀j t,kids[j]?=some t->AW S w t (cs j)) ->
  AW S w (.mk k l r op p q kids) [.int .i64 k,.slice Al nl cl,.slice Ar nr cr,.int .i64 op,.string p,.string q,.slice A n c]
theorem AW.keep {S:Nat->Prop} {w w':World} {t:GT} {vs:List Value} (h:AW S w t vs) (k:AJ S w w'):AW S w' t vs:=by
 induction h with
 |mk kd op l r p q kids Al Ar A nl cl nr cr n c b o cs h1 h2 h3 h4 h5 h6 h7 h8 h9 h10 h11 h12 ih=> refine AW.mk kd op l r p q kids Al Ar A nl cl nr cr n c b o cs (h1.keep k) (h2.keep k) h3 h4 h5 h6 h7 h8 h9 (fun hn=>⟨(h10 hn).1,(h10 hn).2.1,Nat.lt_of_lt_of_le (h10 hn).2.2 k.1⟩) (fun j hj=>⟨(h11 j hj).1,fun m u hu=>?_⟩) ih;have hb:=h10 (by omega);exact (World.cell?_of_block (w:=w) (a:=⟨b,o+j*7+m,none⟩) (k.2 b hb.2.1 hb.2.2)).trans ((h11 j hj).2 m u hu)
theorem AW.sub {S S':Nat->Prop} {w:World} {t:GT} {vs:List Value} (h:AW S w t vs) (hB:∀b,S b->S' b):AW S' w t vs:=by
 induction h with
 |mk kd op l r p q kids Al Ar A nl cl nr cr n c b o cs h1 h2 h3 h4 h5 h6 h7 h8 h9 h10 h11 h12 ih=> exact AW.mk kd op l r p q kids Al Ar A nl cl nr cr n c b o cs (h1.sub hB) (h2.sub hB) h3 h4 h5 h6 h7 h8 h9 (fun hn=>⟨(h10 hn).1,hB _ (h10 hn).2.1,(h10 hn).2.2⟩) h11 ih
theorem AW.mono {B B':Nat} {w:World} {t:GT} {vs:List Value} (h:AW (BG B) w t vs) (hB:B'<=B):AW (BG B') w t vs:=h.sub (fun b hb=>Nat.le_trans hB hb)
def gt:Tr->GT
 |.leaf b=>.mk (if b then 0 else 1) [] [] 0 ⟨#[]⟩ ⟨#[]⟩ []
 |.cmp l op r=>.mk 2 l r (op:Int) ⟨#[]⟩ ⟨#[]⟩ []
 |.deny t=>.mk 3 [] [] 0 ⟨#[]⟩ ⟨#[]⟩ [gt t]
 |.both a b=>.mk 4 [] [] 0 ⟨#[]⟩ ⟨#[]⟩ [gt a,gt b]
 |.any a b=>.mk 5 [] [] 0 ⟨#[]⟩ ⟨#[]⟩ [gt a,gt b]
def ZS:Value:=.slice none 0 0
def Xr (k:Int):List Value:=[.int .i64 k,.slice none 0 0,.slice none 0 0,.int .i64 0,.string ⟨#[]⟩,.string ⟨#[]⟩,.slice none 0 0]
theorem AW.leaf (S:Nat->Prop) (w:World) (k:Int):AW S w (.mk k [] [] 0 ⟨#[]⟩ ⟨#[]⟩ []) (Xr k):=
 AW.mk k 0 [] [] _ _ [] none none none 0 0 0 0 0 0 0 0 (fun _=>[]) (Du.nil _ _ _) (Du.nil _ _ _) rfl (by omega) (by omega) (by omega) (by omega) (by omega) (by omega) (fun h=>absurd h (by omega)) (fun j h=>absurd h (by omega)) (fun j t h=>by simp at h)
theorem AW.cmp {S:Nat->Prop} {w:World} {Al Ar:Option Addr} {nl cl nr cr:Nat} {l r:List Mn} (k op:Int) (h1:Du S w Al nl l) (h2:Du S w Ar nr r) (h3:nl<=cl) (h4:cl<=9223372036854775807) (h5:nr<=cr) (h6:cr<=9223372036854775807) :
  AW S w (.mk k l r op ⟨#[]⟩ ⟨#[]⟩ []) [.int .i64 k,.slice Al nl cl,.slice Ar nr cr,.int .i64 op,.string ⟨#[]⟩,.string ⟨#[]⟩,.slice none 0 0]:=
 AW.mk k op l r _ _ [] Al Ar none nl cl nr cr 0 0 0 0 (fun _=>[]) h1 h2 rfl h3 h4 h5 h6 (by omega) (by omega) (fun h=>absurd h (by omega)) (fun j h=>absurd h (by omega)) (fun j t h=>by simp at h)
theorem AW.len {S:Nat->Prop} {w:World} {t:GT} {vs:List Value} (h:AW S w t vs):vs.length=7:=by cases h;rfl
theorem AW.kids {S:Nat->Prop} {g:Nat} {w:World} {T:TypeId} (k:Int) (kids:List GT) (css:List (List Value)) (hl:kids.length=css.length) (hB:S g) (hg:w.heap[g]?=some (.cells css.flatten.toArray T (0,0)))
   (hk:∀(j:Nat) (t:GT),kids[j]?=some t->∃cs:List Value,css[j]?=some cs/\AW S w t cs) (hn:kids.length<=1000) :
   AW S w (.mk k [] [] 0 ⟨#[]⟩ ⟨#[]⟩ kids) [.int .i64 k,.slice none 0 0,.slice none 0 0,.int .i64 0,.string ⟨#[]⟩,.string ⟨#[]⟩,.slice (some ⟨g,0,none⟩) kids.length kids.length]:=by
 have hlen:∀cs∈css,cs.length=7:=by
   intro cs hc;obtain ⟨j,hj,he⟩:=List.mem_iff_getElem.1 hc;obtain ⟨cs',h1,h2⟩:=hk j kids[j] (List.getElem?_eq_getElem (by omega));rw[List.getElem?_eq_getElem hj,he]at h1;injection h1 with h1;subst h1
   exact h2.len
 refine AW.mk k 0 [] [] _ _ kids none none (some ⟨g,0,none⟩) 0 0 0 0 kids.length kids.length g 0 (fun j=>css.getD j []) (Du.nil _ _ _) (Du.nil _ _ _) rfl (by omega) (by omega) (by omega) (by omega) (Nat.le_refl _) (by omega)
   (fun _=>⟨rfl,hB,(Array.getElem?_eq_some_iff.1 hg).1⟩) (fun j hj=>?_) (fun j t ht=>?_)
 · have hj':j<css.length:=(by omega);have e:css.getD j []=css[j]:=(by simp[hj']);have h7:(css[j]).length=7:=hlen _ (List.getElem_mem hj');refine ⟨by rw[e];exact h7,fun m u hu=>?_⟩;rw[e]at hu;have hm:m<7:=by
    rcases Nat.lt_or_ge m 7 with h|h
    · exact h
    · rw[List.getElem?_eq_none (by omega)]at hu;cases hu
   rw[cell_of_row w g _ _ _ _ hg];have hf:∀(xs:List (List Value)) (j:Nat) (h:j<xs.length),(∀cs∈xs,cs.length=7)->(xs[j])[m]?=some u->xs.flatten[j*7+m]?=some u:=by
    intro xs;induction xs with
    |nil=>intro j h;simp at h
    |cons x xs ih=>
      intro j h ha hu;have hx:x.length=7:=ha x (by simp);rw[List.flatten_cons];cases j with
      |zero=>rw[List.getElem?_append_left (by omega)];simpa using hu
      |succ j=> rw[List.getElem?_append_right (by omega),hx,show (j+1)*7+m-7=j*7+m by omega];exact ih j (by simpa using h) (fun cs hc=>ha cs (by simp[hc])) (by simpa using hu)
   simpa using hf css j hj' hlen hu
 · obtain ⟨cs,h1,h2⟩:=hk j t ht;have:css.getD j []=cs:=by rw[List.getD_eq_getElem?_getD,h1];rfl
   rw[this];exact h2
end
section
open Go.RowKit
theorem Ft (w:World) (g:Nat) (cs:Array Value):Ai g w (w.setRow g cs):=
 ⟨rfl,rfl,rfl,by simp[World.setRow],fun k _ hne=>setRow_other w g k cs (fun hh=>hne (by rw[hh]))⟩
theorem ME (w:World) (o:Obj):(w.alloc o).heap.size=w.heap.size+1:=by show (w.heap.push o).size=_;simp
def Am (T:TypeId) (w:World) (g:Nat) (cs:Array Value):Prop:=w.heap[g]?=some (.cells cs T (0,0))
section
variable {T:TypeId} {w w':World} {g k:Nat} {cs:Array Value} {x y z:Value}
theorem Am.lt (h:Am T w g cs):g<w.heap.size:=(Array.getElem?_eq_some_iff.1 h).1
theorem Am.cell (h:Am T w g cs) (i:Nat) (v:Value) (hv:cs[i]?=some v):w.cell? ⟨g,i,none⟩=some v:=by rw[cell_of_row w g i _ _ _ h];exact hv
theorem Am.c0 (h:Am T w g #[x,y,z]):w.cell? ⟨g,0,none⟩=some x:=h.cell 0 x rfl
theorem Am.c1 (h:Am T w g #[x,y,z]):w.cell? ⟨g,1,none⟩=some y:=h.cell 1 y rfl
theorem Am.c2 (h:Am T w g #[x,y,z]):w.cell? ⟨g,2,none⟩=some z:=h.cell 2 z rfl
theorem Am.fr (h:Am T w g cs) (i:Nat):w.frozen? ⟨g,i,none⟩=false:=by unfold Am at h;simp[World.frozen?,h]
theorem Am.below {B:Nat} (h:Am T w g cs) (hb:Below B w w') (hg:g<B):Am T w' g cs:=(hb.block g hg).trans h
theorem Am.next (h:Am T w g cs) (hb:Below w.heap.size w w'):Am T w' g cs:=h.below hb h.lt
theorem Am.new (T:TypeId) (w:World) (cs:Array Value):Am T (w.alloc (.cells cs T)) w.heap.size cs:=heap_alloc_new w _
theorem Am.alloc (h:Am T w g cs) (o:Obj):Am T (w.alloc o) g cs:=h.next (Ae w o)
theorem Am.drew (h:Am T w g cs):Am T w.drew g cs:=h
theorem Am.other (h:Am T w g cs) (ho:Ai k w w') (hne:g≠k):Am T w' g cs:=(ho.block g h.lt (fun hh=>hne (by injection hh))).trans h
theorem Am.grown {row:Option Nat} (h:Am T w g cs) (ho:w.grownBy w' row) (hne:some g≠row):Am T w' g cs:=(ho.block g h.lt hne).trans h
theorem Am.set_0 (h:Am T w g #[x,y,z]) (x':Value):Am T (w.setCell ⟨g,0,none⟩ x') g #[x',y,z]:=by unfold Am at h ⊢;simp[World.setCell,Array.getElem?_modify,h]
theorem Db (w:World) (g i:Nat) (x:Value):Ai g w (w.setCell ⟨g,i,none⟩ x):=(Ai.refl g w).setCell i x
theorem Am.kp (h:Am T w g cs) (hn:Cw cs.toList) (ho:Ai g w w'):Kp w w':=Kp.block h hn ho
theorem VN (hx:NL x) (hy:NL y) (hz:NL z):Cw (#[x,y,z]:Array Value).toList:=by intro u hu;simp at hu;rcases hu with rfl|rfl|rfl<;>assumption
theorem BO (hx:NL x) (hy:NL y):Cw (#[x,y]:Array Value).toList:=by intro u hu;simp at hu;rcases hu with rfl|rfl<;>assumption
theorem Ap (T:TypeId) (w:World) (X:Array Value):Am T (w.alloc (.cells X T)) w.heap.size X/\Below w.heap.size w (w.alloc (.cells X T))/\(w.alloc (.cells X T)).heap.size=w.heap.size+1:=
 ⟨Am.new T w X,Ae w _,ME w _⟩
theorem Ax (T U:TypeId) (w:World) (X Y:Array Value):Am T ((w.alloc (.cells X T)).alloc (.cells Y U)) w.heap.size X/\Am U ((w.alloc (.cells X T)).alloc (.cells Y U)) (w.heap.size+1) Y /\
  Below w.heap.size w ((w.alloc (.cells X T)).alloc (.cells Y U))/\((w.alloc (.cells X T)).alloc (.cells Y U)).heap.size=w.heap.size+2:=by
 obtain ⟨h1,h2,h3⟩:=Ap T w X;obtain ⟨k1,k2,k3⟩:=Ap U (w.alloc (.cells X T)) Y;rw[h3]at k1 k3;exact ⟨h1.alloc _,k1,h2.next (Ae _ _),by omega⟩
theorem Cm (T U V:TypeId) (w:World) (X Y Z:Array Value):Am T (((w.alloc (.cells X T)).alloc (.cells Y U)).alloc (.cells Z V)) w.heap.size X/\Am U (((w.alloc (.cells X T)).alloc (.cells Y U)).alloc (.cells Z V)) (w.heap.size+1) Y /\
  Am V (((w.alloc (.cells X T)).alloc (.cells Y U)).alloc (.cells Z V)) (w.heap.size+1+1) Z/\Below w.heap.size w (((w.alloc (.cells X T)).alloc (.cells Y U)).alloc (.cells Z V))/\(((w.alloc (.cells X T)).alloc (.cells Y U)).alloc (.cells Z V)).heap.size=w.heap.size+3:=by
 obtain ⟨h1,h2,h3,h4⟩:=Ax T U w X Y;obtain ⟨k1,k2,k3⟩:=Ap V ((w.alloc (.cells X T)).alloc (.cells Y U)) Z;rw[h4]at k1 k3;have e2:w.heap.size+2=w.heap.size+1+1:=rfl;rw[e2]at k1;exact ⟨h1.alloc _,h2.alloc _,k1,h3.next (Ae _ _),by omega⟩
end
theorem Ab {P:Program} {w:World} {ops:Array Oper} {rest:List Oper} {o:Oper} {a:Act} {Q:Exit->Act->World->Prop} (hgd:o.guard=none) (T:TypeId) (x y:Operand) (ho:o.op=.store T x y)
  (g:Nat) (cells:Array Value) (hx:a.eval x=.pointer (some ⟨g,0,none⟩)) (hy:a.eval y=.agg cells) (old:Array Value) (hb:Am T w g old) (hi:(P.info? T).map (·.size)=some cells.size) (hold:old.size=cells.size) (h1:cells.all (·.oneCell')=true)
  (h:∀w',Am T w' g cells->Ai g w w'->wpList P ops Q rest (a.put o.dst undef) w'):wpList P ops Q (o::rest) a w:=by
 refine wpList_store_row hgd T x y ho g cells hx hy T old hb hi hold h1 ?_;refine h _ ?_ (Ft w g _);exact setRow_heap w g old cells _ _ hb
end
section
open Go.RowKit
open Lx Ex
def DL (s:ByteArray) (xs:List ByteArray):Bool:=xs.any fun x=>decide (x=s)
structure CD where
 A:Option Addr
 n:Nat
 c:Nat
 ts:List TK
 V:Option Addr
 m:Nat
 d:Nat
 vars:List ByteArray
 known:Bool
def CD.kn (D:CD) (s:ByteArray):Bool:=!D.known || DL s D.vars
structure MF (D:CD) (g:Nat):Prop where
 ends:Jp D.ts
 apA:0<D.n->∀a,D.A=some a->a.block≠g
 apV:0<D.m->∀a,D.V=some a->a.block≠g
 nc:D.n<=D.c
 cm:D.c<=9223372036854775807
 md:D.m<=D.d
 dm:D.d<=9223372036854775807
 few:D.n<=1000000
 small:∀t∈D.ts,t.text.size<=4611686018427387904
 kinds:∀t∈D.ts,t.kind<10
 wf:∀t∈D.ts,t.kind=3->Ea t.text=true
structure Cg (D:CD) (g:Nat) (w:World) (i:Nat):Prop where
 box:Am 110 w g #[.slice D.A D.n D.c,.int .i64 (i:Int),.slice D.V D.m D.d,.bool D.known]
 kin:Q9 w D.A D.n D.ts
 sin:EN w D.V D.m D.vars
 good:MF D g
 fits:i+(rd D.ts i).length<=1099511627776
section
variable {D:CD} {g i:Nat} {w w':World}
theorem Cg.below (h:Cg D g w i) (hb:Below w.heap.size w w'):Cg D g w' i:=⟨h.box.next hb,h.kin.below hb,h.sin.below hb,h.good,h.fits⟩
theorem Cg.lt (h:Cg D g w i):g<w.heap.size:=h.box.lt
theorem Cg.c0 (h:Cg D g w i):w.cell? ⟨g,0,none⟩=some (.slice D.A D.n D.c):=h.box.cell 0 _ rfl
theorem Cg.c1 (h:Cg D g w i):w.cell? ⟨g,1,none⟩=some (.int .i64 (i:Int)):=h.box.cell 1 _ rfl
theorem Cg.c2 (h:Cg D g w i):w.cell? ⟨g,2,none⟩=some (.slice D.V D.m D.d):=h.box.cell 2 _ rfl
theorem Cg.c3 (h:Cg D g w i):w.cell? ⟨g,3,none⟩=some (.bool D.known):=h.box.cell 3 _ rfl
theorem Cg.len (h:Cg D g w i):D.ts.length=D.n:=h.kin.1
theorem Hk (w:World) (g j:Nat) (u:Value):Ai g w (w.setCell ⟨g,j,none⟩ u):=(Ai.refl g w).setCell j u
theorem Cg.set (h:Cg D g w i) (k:Nat) (hf:k+(rd D.ts k).length<=1099511627776):Cg D g (w.setCell ⟨g,1,none⟩ (.int .i64 (k:Int))) k:=by refine ⟨?_,h.kin.only (Hk w g 1 _) h.good.apA,h.sin.only (Hk w g 1 _) h.good.apV,h.good,hf⟩;have hb:=h.box;unfold Am at hb ⊢;simp[World.setCell,Array.getElem?_modify,hb]
end
theorem Ai.fresh {g r:Nat} {a b c:World} (h:Ai g a b) (k:Ai r b c) (hr:a.heap.size<=r):Ai g a c:=
 ⟨k.os.trans h.os,k.tape.trans h.tape,k.output.trans h.output,Nat.le_trans h.size k.size,fun i hi hne=>(k.block i (Nat.lt_of_lt_of_le hi h.size) (fun e=>by injection e with e;omega)).trans (h.block i hi hne)⟩
theorem Cg.fresh {D:CD} {g r i i0:Nat} {a b c:World} (h0:Cg D g a i0) (h:Cg D g b i) (k:Ai r b c) (hr:a.heap.size<=r):Cg D g c i:=by
 have hg:=h0.lt;refine ⟨h.box.other k (by omega),h.kin.only k (fun hn x e=>?_),h.sin.only k (fun hn x e=>?_),h.good,h.fits⟩
 · obtain ⟨b0,o,e2,hlt,_⟩:=h0.kin.2 hn;rw[e2]at e;injection e with e;subst e
   show b0≠r;omega
 · obtain ⟨b0,o,e2,hlt,_⟩:=h0.sin.2 hn;rw[e2]at e;injection e with e;subst e
   show b0≠r;omega
theorem AE {g:Nat} {w w':World} (h:Below w.heap.size w w'):Ai g w w':=
 ⟨h.os,h.tape,h.output,h.size,fun k hk _=>h.block k hk⟩
theorem Ai.next {g:Nat} {a b c:World} (h:Ai g a b) (k:Below b.heap.size b c):Ai g a c:=h.trans (AE k)
theorem SG (ts:List TK) (i:Nat):hd ts i∈ts\/hd ts i=SD:=by
 rcases Nat.eq_zero_or_pos ts.length with h|h
 · exact Or.inr (Om ts i h)
 · exact Or.inl (List.mem_of_getElem? (SF ts i h))
theorem MF.hd_small {D:CD} {g:Nat} (h:MF D g) (i:Nat):(hd D.ts i).text.size<=4611686018427387904:=by
 rcases SG D.ts i with q|q
 · exact h.small _ q
 · rw[q];exact Nat.zero_le _
theorem MF.hd_wf {D:CD} {g:Nat} (h:MF D g) (i:Nat) (h3:(hd D.ts i).kind=3):Ea (hd D.ts i).text=true:=by
 rcases SG D.ts i with q|q
 · exact h.wf _ q h3
 · rw[q]at h3;cases h3
def Aq (D:CD) (i:Nat) (r:List PT) (i':Nat):Prop:=rd D.ts i'=r/\i'+r.length=i+(rd D.ts i).length
theorem Aq.refl (D:CD) (i:Nat):Aq D i (rd D.ts i) i:=⟨rfl,rfl⟩
theorem Aq.trans {D:CD} {i i' i2:Nat} {r r2:List PT} (h:Aq D i r i') (k:Aq D i' r2 i2):Aq D i r2 i2:=by obtain ⟨h1,h2⟩:=h;obtain ⟨k1,k2⟩:=k;refine ⟨k1,?_⟩;rw[h1]at k2;omega
theorem Aq.trans' {D:CD} {i i' i2:Nat} {r r2:List PT} (h:Aq D i r i') (e:rd D.ts i2=r2) (k:i2+r2.length=i'+(rd D.ts i').length):Aq D i r2 i2:=h.trans ⟨e,k⟩
theorem Aq.step {D:CD} {i:Nat} (he:Jp D.ts) (hk:(hd D.ts i).kind≠5):Aq D i (rd D.ts i).tail (i+1):=by obtain ⟨h1,h2,_⟩:=IU he hk;refine ⟨h1,?_⟩;rw[<-h1];omega
end
end Go.Proofs.YtgohmojcopajoaaGreatDoor
