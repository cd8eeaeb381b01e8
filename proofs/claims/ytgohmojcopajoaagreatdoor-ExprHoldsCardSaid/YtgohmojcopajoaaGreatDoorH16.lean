/- Texts of one seat, put together: PartMem TermMathB Box TermA SortPart. -/
import Derived.Test.YtgohmojcopajoaaGreatDoorH13
import Derived.Test.YtgohmojcopajoaaGreatDoorH15
import Derived.Shelf.SlSortCmp.NoneTotal
import Derived.Test.YtgohmojcopajoaaGreatDoorH01
set_option linter.unusedVariables false
set_option linter.unusedSimpArgs false
set_option maxRecDepth 100000
set_option maxHeartbeats 16000000
namespace Go.Proofs.YtgohmojcopajoaaGreatDoor.Nu
section
open Go.RowKit
structure PV where
 v:Int
 s:Bool
 B:Option Addr
 m:Nat
 d:Nat
 Z:Int
def PV.num (p:PV):Value:=.agg #[.bool p.s,.slice p.B p.m p.d]
def PV.cells (p:PV):List Value:=[.int .i64 p.v,.bool p.s,.slice p.B p.m p.d]
def PV.agg (p:PV):Value:=.agg #[.int .i64 p.v,.bool p.s,.slice p.B p.m p.d]
def PV.part (p:PV):Int×Int:=(p.v,p.Z)
def flat (ps:List PV):List Value:=(ps.map PV.cells).flatten
theorem D9 (p:PV) (ps:List PV):flat (p::ps)=p.cells++flat ps:=rfl
theorem I8 (ps qs:List PV):flat (ps++qs)=flat ps++flat qs:=by simp[flat]
theorem Dc (ps:List PV):(flat ps).length=3*ps.length:=by
 induction ps with
 |nil=>rfl
 |cons p ps ih=>rw[D9,List.length_append,ih,List.length_cons];show 3+_=_;omega
theorem flat_get (ps:List PV) (i:Nat) (p:PV) (h:ps[i]?=some p):(flat ps)[3*i]?=some (.int .i64 p.v)/\(flat ps)[3*i+1]?=some (.bool p.s)/\(flat ps)[3*i+2]?=some (.slice p.B p.m p.d):=by
 induction ps generalizing i with
 |nil=>simp at h
 |cons q ps ih=>
  rw[D9];cases i with
  |zero=>
   simp at h;subst h;exact ⟨rfl,rfl,rfl⟩
  |succ i=>
   have h2:=ih i (by simpa using h);have hl:q.cells.length=3:=rfl;have e0:3*(i+1)=q.cells.length+3*i:=(by rw[hl];omega);have e1:3*(i+1)+1=q.cells.length+(3*i+1):=(by rw[hl];omega);have e2:3*(i+1)+2=q.cells.length+(3*i+2):=(by rw[hl];omega);rw[e0,show q.cells.length+3*i+1=q.cells.length+(3*i+1) by omega,show q.cells.length+3*i+2=q.cells.length+(3*i+2) by omega,List.getElem?_append_right (by omega),List.getElem?_append_right (by omega),List.getElem?_append_right (by omega)]
   simpa using h2
theorem QY (ps:List PV) (k:Nat):flat (ps.take k)=(flat ps).take (3*k):=by
 induction ps generalizing k with
 |nil=>simp[flat]
 |cons p ps ih=>
  cases k with
  |zero=>simp[flat]
  |succ k=> rw[List.take_succ_cons,D9,D9,ih];have hl:p.cells.length=3:=rfl;rw[show 3*(k+1)=p.cells.length+3*k by rw[hl];omega,List.take_length_add_append]
def AU (w:World) (A:Option Addr) (n:Nat) (ps:List PV) (k:Nat):Prop:=
 ps.length=n/\(0<n->∃b o,A=some ⟨b,o,none⟩/\∀j u,(flat ps)[j]?=some u->w.cell? ⟨b,o+j,none⟩=some u)/\∀p∈ps,Cy w p.num p.Z k
section
variable {w w':World} {A:Option Addr} {n k:Nat} {ps:List PV}
theorem AU.nil (w:World) (A:Option Addr) (k:Nat):AU w A 0 [] k:=⟨rfl,fun h=>absurd h (by omega),fun p hp=>by cases hp⟩
theorem AU.below (h:AU w A n ps k) (hb:Below w.heap.size w w'):AU w' A n ps k:=by refine ⟨h.1,fun hn=>?_,fun p hp=>(h.2.2 p hp).below hb⟩;obtain ⟨b,o,e,hc⟩:=h.2.1 hn;refine ⟨b,o,e,fun j u hu=>?_⟩;have h1:=hc j u hu;have hlt:=World.block_lt_of_cell? w _ h1;exact (World.cell?_of_block (w:=w) (a:=⟨b,o+j,none⟩) (hb.block b hlt)).trans h1
theorem AU.mono {j:Nat} (h:AU w A n ps k) (hj:k<=j):AU w A n ps j:=⟨h.1,h.2.1,fun p hp=>(h.2.2 p hp).mono hj⟩
theorem AU.at_ {i:Nat} (h:AU w A n ps k) (hi:i<n):∃b o p,A=some ⟨b,o,none⟩/\ps[i]?=some p/\w.cell? ⟨b,o+3*i,none⟩=some (.int .i64 p.v)/\w.cell? ⟨b,o+(3*i+1),none⟩=some (.bool p.s)/\w.cell? ⟨b,o+(3*i+2),none⟩=some (.slice p.B p.m p.d)/\Cy w p.num p.Z k:=by
 obtain ⟨b,o,e,hc⟩:=h.2.1 (by omega);have hl:i<ps.length:=by rw[h.1];exact hi
 obtain ⟨g0,g1,g2⟩:=flat_get ps i ps[i] (List.getElem?_eq_getElem hl);exact ⟨b,o,ps[i],e,List.getElem?_eq_getElem hl,hc _ _ g0,hc _ _ g1,hc _ _ g2,h.2.2 _ (List.getElem_mem hl)⟩
end
def DC (ps:List PV):List (Int×Int):=ps.map PV.part
theorem Cp (ps qs:List PV):DC (ps++qs)=DC ps++DC qs:=by simp[DC]
theorem Ko (ps:List PV) (i:Nat) (p:PV) (h:ps[i]?=some p):DC (ps.take (i+1))=DC (ps.take i)++[p.part]:=by unfold DC;rw[List.take_add_one,h,List.map_append];rfl
def YQ (w:World) (v:Value) (ps:List PV) (K:Int) (k:Nat):Prop:=∃A n c s B m d,v=.agg #[.slice A n c,.bool s,.slice B m d]/\AU w A n ps k/\n<=c/\c<=9223372036854775807/\Cy w (.agg #[.bool s,.slice B m d]) K k
structure IV where
 s:Bool
 B:Option Addr
 m:Nat
 d:Nat
 Z:Int
def IV.num (p:IV):Value:=.agg #[.bool p.s,.slice p.B p.m p.d]
def IV.cells (p:IV):List Value:=[.bool p.s,.slice p.B p.m p.d]
def JD (ps:List IV):List Value:=(ps.map IV.cells).flatten
theorem JE (p:IV) (ps:List IV):JD (p::ps)=p.cells++JD ps:=rfl
theorem QZ (ps:List IV) (i:Nat) (p:IV) (h:ps[i]?=some p):(JD ps)[2*i]?=some (.bool p.s)/\(JD ps)[2*i+1]?=some (.slice p.B p.m p.d):=by
 induction ps generalizing i with
 |nil=>simp at h
 |cons q ps ih=>
  rw[JE];cases i with
  |zero=>
   simp at h;subst h;exact ⟨rfl,rfl⟩
  |succ i=> have h2:=ih i (by simpa using h);have hl:q.cells.length=2:=rfl;rw[show 2*(i+1)=q.cells.length+2*i by rw[hl];omega,show q.cells.length+2*i+1=q.cells.length+(2*i+1) by omega,List.getElem?_append_right (by omega),List.getElem?_append_right (by omega)];simpa using h2
def CJ (w:World) (A:Option Addr) (n:Nat) (vs:List IV) (k:Nat):Prop:=
 vs.length=n/\(0<n->∃b o,A=some ⟨b,o,none⟩/\∀j u,(JD vs)[j]?=some u->w.cell? ⟨b,o+j,none⟩=some u)/\∀p∈vs,Cy w p.num p.Z k
theorem CJ.below {w w':World} {A:Option Addr} {n k:Nat} {vs:List IV} (h:CJ w A n vs k) (hb:Below w.heap.size w w'):CJ w' A n vs k:=by refine ⟨h.1,fun hn=>?_,fun p hp=>(h.2.2 p hp).below hb⟩;obtain ⟨b,o,e,hc⟩:=h.2.1 hn;refine ⟨b,o,e,fun j u hu=>?_⟩;have h1:=hc j u hu;have hlt:=World.block_lt_of_cell? w _ h1;exact (World.cell?_of_block (w:=w) (a:=⟨b,o+j,none⟩) (hb.block b hlt)).trans h1
theorem CJ.at_ {w:World} {A:Option Addr} {n k i:Nat} {vs:List IV} (h:CJ w A n vs k) (hi:i<n):∃b o p,A=some ⟨b,o,none⟩/\vs[i]?=some p/\w.cell? ⟨b,o+2*i,none⟩=some (.bool p.s)/\w.cell? ⟨b,o+(2*i+1),none⟩=some (.slice p.B p.m p.d)/\Cy w p.num p.Z k:=by
 obtain ⟨b,o,e,hc⟩:=h.2.1 (by omega);have hl:i<vs.length:=by rw[h.1];exact hi
 obtain ⟨g0,g1⟩:=QZ vs i vs[i] (List.getElem?_eq_getElem hl);exact ⟨b,o,vs[i],e,List.getElem?_eq_getElem hl,hc _ _ g0,hc _ _ g1,h.2.2 _ (List.getElem_mem hl)⟩
def nums (vs:List IV):List Int:=vs.map IV.Z
def ZD (T:TypeId) (w:World) (base:Nat) (v:Value) (ps:List PV) (k:Nat):Prop:=w.ownsRow base T 3 v ps.length (flat ps)/\∀p∈ps,Cy w p.num p.Z k
section
variable {T:TypeId} {w w':World} {base k:Nat} {v:Value} {ps:List PV}
end
end
end Go.Proofs.YtgohmojcopajoaaGreatDoor.Nu
namespace Go.Proofs.YtgohmojcopajoaaGreatDoor.Tm
section
def vars (ps:List (Int×Int)):List Int:=(norm ps).map Prod.fst
def Up:Int->List Int->Prop
 |_,[]=>True
 |b,v::vs=>b<v/\Up v vs
theorem Up.gt {b:Int} {vs:List Int} (h:Up b vs):∀v∈vs,b<v:=by
 induction vs generalizing b with
 |nil=>intro v hv;cases hv
 |cons u vs ih=>
  intro v hv;rcases List.mem_cons.1 hv with rfl|hv
  · exact h.1
  · have:=ih h.2 v hv;have:=h.1;omega
def XD (v:Int):List Int->List Int
 |[]=>[v]
 |u::us=>if v<u then v::u::us else if v=u then u::us else u::XD v us
def ZE (ps:List (Int×Int)):List (Int×Int)->List Int->List Int
 |[],acc=>acc
 |(u,_)::qs,acc=>ZE ps qs (if AH ps u=0 then acc else XD u acc)
def push (r:List (Int×Int)) (v c:Int):List (Int×Int):=
 if v<0 then r else match r.getLast? with
  |none=>[(v,c)]
  |some (u,d)=>if u=v then r.dropLast++[(u,d+c)] else r++[(v,c)]
def DT:List (Int×Int)->List (Int×Int)->List (Int×Int)
 |r,[]=>r
 |r,(v,c)::ps=>DT (push r v c) ps
theorem O9 (r ps:List (Int×Int)) (v c:Int):DT r (ps++[(v,c)])=push (DT r ps) v c:=by
 induction ps generalizing r with
 |nil=>rfl
 |cons p ps ih=>obtain ⟨u,d⟩:=p;exact ih _
theorem Ra (r:List (Int×Int)) (v c w:Int):AH (push r v c) w=AH r w+AH [(v,c)] w:=by
 unfold push;split
 · rename_i h
   rw[show AH [(v,c)] w=0 by simp[AH];omega,Int.add_zero]
 · split
   · rename_i h
     rw[List.getLast?_eq_none_iff.1 h,Ge,Int.zero_add]
   · rename_i u d h
     obtain ⟨t,rfl⟩:∃t,r=t++[(u,d)]:=List.getLast?_eq_some_iff.1 h;split
     · rename_i hu;subst hu
       rw[List.dropLast_concat,CI,CI];simp only[AH];split<;>omega
     · rw[CI]
theorem OA (r ps:List (Int×Int)) (w:Int):AH (DT r ps) w=AH r w+AH ps w:=by
 induction ps generalizing r with
 |nil=>simp[DT,AH]
 |cons p ps ih=> obtain ⟨v,c⟩:=p;rw[DT,ih,Ra,show ((v,c)::ps)=[(v,c)]++ps from rfl,CI];omega
def WH:List (Int×Int)->Int->Prop
 |r,b=>Up (-1) (r.map Prod.fst)/\∀p∈r,p.1<=b
theorem Qd {b v:Int}:∀{us:List Int},Up b us->(∀u∈us,u<v)->b<v->Up b (us++[v])
 |[],_,_,hb=>⟨hb,trivial⟩
 |u::us,h,hv,_=>⟨h.1,Qd h.2 (fun x hx=>hv x (List.mem_cons_of_mem _ hx)) (hv u (List.mem_cons_self ..))⟩
theorem Rb {r:List (Int×Int)} {b v c:Int} (h:WH r b) (hv:b<=v):WH (push r v c) v:=by
 unfold push;split
 · exact ⟨h.1,fun p hp=>by have:=h.2 p hp;omega⟩
 · split
   · exact ⟨⟨by omega,trivial⟩,fun p hp=>by simp at hp;subst hp;exact Int.le_refl _⟩
   · rename_i u d hl
     obtain ⟨t,rfl⟩:∃t,r=t++[(u,d)]:=List.getLast?_eq_some_iff.1 hl;split
     · rename_i hu;subst hu
       refine ⟨?_,fun p hp=>?_⟩
       · have:=h.1;simpa using this
       · rw[List.dropLast_concat]at hp;rcases List.mem_append.1 hp with hp|hp
         · have:=h.2 p (List.mem_append_left _ hp);omega
         · simp at hp;subst hp;exact Int.le_refl _
     · rename_i hu
       refine ⟨?_,fun p hp=>?_⟩
       · rw[List.map_append];refine Qd h.1 (fun x hx=>?_) (by omega);obtain ⟨p,hp,rfl⟩:=List.mem_map.1 hx;have h1:=h.2 p hp;have h2:=h.2 (u,d) (by simp);show p.1<v;rcases Int.lt_or_le p.1 v with h3|h3
         · exact h3
         · exfalso;have h4:p.1=v:=(by omega);have h6:b=v:=(by omega);have h7:u<v:=(by have:u<=b:=h2;omega);have h8:=h.1;rw[List.map_append]at h8;have h9:∀(us:List Int) (b0:Int),Up b0 (us++[u])->∀x∈us,x<u:=by
             intro us;induction us with
             |nil=>intro _ _ x hx;cases hx
             |cons y us ih=>
              intro b0 hU x hx;rcases List.mem_cons.1 hx with rfl|hx
              · exact hU.2.gt u (by simp)
              · exact ih y hU.2 x hx
           rcases List.mem_append.1 hp with hp|hp
           · have:=h9 _ _ h8 p.1 (List.mem_map_of_mem hp);omega
           · simp at hp;subst hp;omega
       · rcases List.mem_append.1 hp with hp|hp
         · have:=h.2 p hp;omega
         · simp at hp;subst hp;exact Int.le_refl _
def JF:Int->List (Int×Int)->Prop
 |_,[]=>True
 |b,(v,_)::ps=>b<=v/\JF v ps
theorem JG {r:List (Int×Int)} {b:Int}:∀{ps:List (Int×Int)},WH r b->JF b ps->Up (-1) ((DT r ps).map Prod.fst)
 |[],h,_=>h.1
 |(v,c)::ps,h,hs=>by
  rw[DT];exact JG (Rb h hs.1) hs.2
def GP (ps:List (Int×Int)):List (Int×Int):=ps.filter fun p=>decide (p.2≠0)
theorem Nq (ps:List (Int×Int)) (v:Int):AH (GP ps) v=AH ps v:=by
 induction ps with
 |nil=>rfl
 |cons p ps ih=>
  obtain ⟨u,c⟩:=p;unfold GP at *;rw[List.filter_cons];split
  · rw[AH,AH,ih]
  · rename_i h
    have h0:c=0:=(by simpa using h);rw[AH,ih,h0];simp
theorem Kq {b:Int} {ps:List (Int×Int)} (h:Up b (ps.map Prod.fst)):Co b (GP ps):=by
 induction ps generalizing b with
 |nil=>trivial
 |cons p ps ih=>
  obtain ⟨u,c⟩:=p;unfold GP at *;rw[List.filter_cons];split
  · rename_i h0
    exact ⟨h.1,by simpa using h0,ih h.2⟩
  · exact (ih h.2).mono (by have:=h.1;omega)
theorem WI {ps qs:List (Int×Int)} {b:Int} (hp:qs.Perm ps) (hs:JF b qs):GP (DT [] qs)=norm ps:=by refine Hu (Kq (JG (b:=b) ⟨trivial,fun p hp=>by cases hp⟩ hs)) (fun v=>?_);rw[Nq,OA,Ge,Int.zero_add,QW hp]
def CX (f:Nat->Int):Nat->Int
 |0=>0
 |n+1=>CX f n+f n
theorem TC (f g:Nat->Int) (n:Nat):CX (fun i=>f i+g i) n=CX f n+CX g n:=by
 induction n with
 |zero=>rfl
 |succ n ih=>rw[CX,CX,CX,ih];omega
theorem Lj (n:Nat):CX (fun _=>0) n=0:=by
 induction n with
 |zero=>rfl
 |succ n ih=>rw[CX,ih];rfl
theorem F3 {f g:Nat->Int} {n:Nat} (h:∀i,i<n->f i=g i):CX f n=CX g n:=by
 induction n with
 |zero=>rfl
 |succ n ih=>rw[CX,CX,ih (fun i hi=>h i (by omega)),h n (by omega)]
theorem TD (k:Nat) (x:Int) (n:Nat):CX (fun i=>if k=i then x else 0) n=if k<n then x else 0:=by
 induction n with
 |zero=>simp[CX]
 |succ n ih=>
  rw[CX,ih];by_cases h1:k<n
  · rw[if_pos h1,if_neg (by omega),if_pos (by omega),Int.add_zero]
  · by_cases h2:k=n
    · rw[if_neg h1,if_pos h2,if_pos (by omega),Int.zero_add]
    · rw[if_neg h1,if_neg h2,if_neg (by omega)];rfl
theorem TE (vals:List Int) (ps:List (Int×Int)):val vals ps=CX (fun i=>AH ps i*vals.getD i 0) vals.length:=by
 induction ps with
 |nil=>
  rw[val,<-Lj vals.length];exact F3 (fun i _=>by simp[AH])
 |cons p ps ih=>
  obtain ⟨u,c⟩:=p;rw[val,ih];have e:CX (fun i=>AH ((u,c)::ps) i*vals.getD i 0) vals.length=CX (fun i=>(if u=(i:Int) then c*vals.getD i 0 else 0)+AH ps i*vals.getD i 0) vals.length:=by
    refine F3 (fun i _=>?_);rw[AH,Int.add_mul];by_cases h:u=(i:Int)
    · rw[if_pos ⟨h,by omega⟩,if_pos h]
    · rw[if_neg (fun hh=>h hh.1),if_neg h,Int.zero_mul]
  rw[e,TC];congr 1
  by_cases hu:0<=u
  · obtain ⟨k,rfl⟩:∃k:Nat,u=(k:Int):=⟨u.toNat,by omega⟩;rw[if_pos hu,Int.toNat_natCast];have e2:CX (fun i=>if (k:Int)=(i:Int) then c*vals.getD i 0 else 0) vals.length=CX (fun i=>if k=i then c*vals.getD k 0 else 0) vals.length:=by
      refine F3 (fun i _=>?_);by_cases h:k=i
      · subst h;simp
      · rw[if_neg (by omega),if_neg h]
    rw[e2,TD];split
    · rfl
    · rename_i h
      rw[List.getD_eq_getElem?_getD,List.getElem?_eq_none (by omega)];simp
  · rw[if_neg hu];refine Eq.trans (Lj vals.length).symm ?_;exact F3 (fun i _=>by rw[if_neg (by omega)])
def FI (a b:Int):Int:=if a<b then -1 else if b<a then 1 else 0
def cmpL:List (Int×Int)->List (Int×Int)->Int
 |[],[]=>0
 |[],_::_=>-1
 |_::_,[]=>1
 |(u,c)::ps,(v,d)::qs=>if FI u v≠0 then FI u v else if FI c d≠0 then FI c d else cmpL ps qs
def ZF (a b:Int):Int:=if a≠0 then a else b
def ZG (ps qs:List (Int×Int)) (K M:Int):Int:=ZF (cmpL (norm ps) (norm qs)) (FI K M)
theorem Mc {n:Int} (hn:n≠0) {b:Int} {ps:List (Int×Int)} (h:Co b ps):Co b (ps.map fun p=>(p.1,n*p.2)):=by
 induction ps generalizing b with
 |nil=>trivial
 |cons p ps ih=> obtain ⟨u,c⟩:=p;exact ⟨h.1,Int.mul_ne_zero hn h.2.1,ih h.2.2⟩
theorem GQ {n:Int} (hn:n≠0) (ps:List (Int×Int)):norm (ps.map fun p=>(p.1,n*p.2))=(norm ps).map fun p=>(p.1,n*p.2):=
 (Hu (Mc hn (GO ps)) (fun v=>by rw[GN,GN,Gs])).symm
theorem Rc (ps:List (Int×Int)) (h:∀v,AH ps v=0):norm ps=[]:=(Hu (qs:=[]) trivial (fun v=>(h v).symm)).symm
theorem Hv {ps ps' qs qs':List (Int×Int)} (h:∀v,AH ps v=AH ps' v) (h':∀v,AH qs v=AH qs' v):norm (ps++qs)=norm (ps'++qs'):=
 QX (fun v=>by rw[CI,CI,h,h'])
end
end Go.Proofs.YtgohmojcopajoaaGreatDoor.Tm
namespace Go.Proofs.YtgohmojcopajoaaGreatDoor.Nu
section
open Go.RowKit
def Am (T:TypeId) (w:World) (g:Nat) (cs:Array Value):Prop:=w.heap[g]?=some (.cells cs T (0,0))
section
variable {T:TypeId} {w w':World} {g k:Nat} {cs:Array Value} {x y z:Value}
theorem Am.lt (h:Am T w g cs):g<w.heap.size:=(Array.getElem?_eq_some_iff.1 h).1
theorem Am.cell (h:Am T w g cs) (i:Nat) (v:Value) (hv:cs[i]?=some v):w.cell? ⟨g,i,none⟩=some v:=by rw[cell_of_row w g i _ _ _ h];exact hv
theorem Am.c0 (h:Am T w g #[x,y,z]):w.cell? ⟨g,0,none⟩=some x:=h.cell 0 x rfl
theorem Am.c1 (h:Am T w g #[x,y,z]):w.cell? ⟨g,1,none⟩=some y:=h.cell 1 y rfl
theorem Am.c2 (h:Am T w g #[x,y,z]):w.cell? ⟨g,2,none⟩=some z:=h.cell 2 z rfl
theorem Am.fr (h:Am T w g cs) (i:Nat):w.frozen? ⟨g,i,none⟩=false:=by unfold Am at h;simp[World.frozen?,h]
theorem Am.below {B:Nat} (h:Am T w g cs) (hb:Below B w w') (hg:g<B):Am T w' g cs:=(hb.block g hg).trans h
theorem Am.next (h:Am T w g cs) (hb:Below w.heap.size w w'):Am T w' g cs:=h.below hb h.lt
theorem Am.new (T:TypeId) (w:World) (cs:Array Value):Am T (w.alloc (.cells cs T)) w.heap.size cs:=heap_alloc_new w _
theorem Am.alloc (h:Am T w g cs) (o:Obj):Am T (w.alloc o) g cs:=h.next (Ae w o)
theorem Am.drew (h:Am T w g cs):Am T w.drew g cs:=h
theorem Am.other (h:Am T w g cs) (ho:Ai k w w') (hne:g≠k):Am T w' g cs:=(ho.block g h.lt (fun hh=>hne (by injection hh))).trans h
theorem Am.grown {row:Option Nat} (h:Am T w g cs) (ho:w.grownBy w' row) (hne:some g≠row):Am T w' g cs:=(ho.block g h.lt hne).trans h
theorem Am.set_0 (h:Am T w g #[x,y,z]) (x':Value):Am T (w.setCell ⟨g,0,none⟩ x') g #[x',y,z]:=by unfold Am at h ⊢;simp[World.setCell,Array.getElem?_modify,h]
theorem Db (w:World) (g i:Nat) (x:Value):Ai g w (w.setCell ⟨g,i,none⟩ x):=(Ai.refl g w).setCell i x
theorem Am.kp (h:Am T w g cs) (hn:Cw cs.toList) (ho:Ai g w w'):Kp w w':=Kp.block h hn ho
theorem VN (hx:NL x) (hy:NL y) (hz:NL z):Cw (#[x,y,z]:Array Value).toList:=by intro u hu;simp at hu;rcases hu with rfl|rfl|rfl<;>assumption
theorem BO (hx:NL x) (hy:NL y):Cw (#[x,y]:Array Value).toList:=by intro u hu;simp at hu;rcases hu with rfl|rfl<;>assumption
theorem OB {Z:Int} (h:Z≠0):(Z.sign==0)=false:=by simpa using h
theorem CE.box {cs:Array Value} (h:CE w g cs):Am 54 w g cs:=h
theorem Ap (T:TypeId) (w:World) (X:Array Value):Am T (w.alloc (.cells X T)) w.heap.size X/\Below w.heap.size w (w.alloc (.cells X T))/\(w.alloc (.cells X T)).heap.size=w.heap.size+1:=
 ⟨Am.new T w X,Ae w _,size_alloc w _⟩
theorem Ax (T U:TypeId) (w:World) (X Y:Array Value):Am T ((w.alloc (.cells X T)).alloc (.cells Y U)) w.heap.size X/\Am U ((w.alloc (.cells X T)).alloc (.cells Y U)) (w.heap.size+1) Y /\
  Below w.heap.size w ((w.alloc (.cells X T)).alloc (.cells Y U))/\((w.alloc (.cells X T)).alloc (.cells Y U)).heap.size=w.heap.size+2:=by
 obtain ⟨h1,h2,h3⟩:=Ap T w X;obtain ⟨k1,k2,k3⟩:=Ap U (w.alloc (.cells X T)) Y;rw[h3]at k1 k3;exact ⟨h1.alloc _,k1,h2.next (Ae _ _),by omega⟩
theorem Cm (T U V:TypeId) (w:World) (X Y Z:Array Value):Am T (((w.alloc (.cells X T)).alloc (.cells Y U)).alloc (.cells Z V)) w.heap.size X/\Am U (((w.alloc (.cells X T)).alloc (.cells Y U)).alloc (.cells Z V)) (w.heap.size+1) Y /\
  Am V (((w.alloc (.cells X T)).alloc (.cells Y U)).alloc (.cells Z V)) (w.heap.size+1+1) Z/\Below w.heap.size w (((w.alloc (.cells X T)).alloc (.cells Y U)).alloc (.cells Z V))/\(((w.alloc (.cells X T)).alloc (.cells Y U)).alloc (.cells Z V)).heap.size=w.heap.size+3:=by
 obtain ⟨h1,h2,h3,h4⟩:=Ax T U w X Y;obtain ⟨k1,k2,k3⟩:=Ap V ((w.alloc (.cells X T)).alloc (.cells Y U)) Z;rw[h4]at k1 k3;have e2:w.heap.size+2=w.heap.size+1+1:=rfl;rw[e2]at k1;exact ⟨h1.alloc _,h2.alloc _,k1,h3.next (Ae _ _),by omega⟩
end
theorem Ab {P:Program} {w:World} {ops:Array Oper} {rest:List Oper} {o:Oper} {a:Act} {Q:Exit->Act->World->Prop} (hgd:o.guard=none) (T:TypeId) (x y:Operand) (ho:o.op=.store T x y)
  (g:Nat) (cells:Array Value) (hx:a.eval x=.pointer (some ⟨g,0,none⟩)) (hy:a.eval y=.agg cells) (old:Array Value) (hb:Am T w g old) (hi:(P.info? T).map (·.size)=some cells.size) (hold:old.size=cells.size) (h1:cells.all (·.oneCell')=true)
  (h:∀w',Am T w' g cells->Ai g w w'->wpList P ops Q rest (a.put o.dst undef) w'):wpList P ops Q (o::rest) a w:=by
 refine wpList_store_row hgd T x y ho g cells hx hy T old hb hi hold h1 ?_;refine h _ ?_ (DO w g _);exact setRow_heap w g old cells _ _ hb
theorem BL {w:World} {ops:Array Oper} {rest:List Oper} {o:Oper} {a:Act} {Q:Exit->Act->World->Prop} (hgd:o.guard=none) (x y:Operand) (ho:o.op=.store 56 x y)
  (g:Nat) (s:Bool) (A B:Option Addr) (n c m d:Nat) (hx:a.eval x=.pointer (some ⟨g,0,none⟩)) (hy:a.eval y=.agg #[.slice A n c,.bool s,.slice B m d]) (u v z:Value) (hb:Am 56 w g #[u,v,z])
  (h:∀w',Am 56 w' g #[.slice A n c,.bool s,.slice B m d]->Ai g w w'->wpList Tryz.prog ops Q rest (a.put o.dst undef) w'):wpList Tryz.prog ops Q (o::rest) a w:=
 Ab hgd 56 x y ho g _ hx hy _ hb (by kernel_rfl) rfl (by simp[Value.oneCell']) h
theorem Cq {fn:Func} {R:Ending->World->Prop} {a:Act} {w:World} {g p:Nat} {x y z:Value} (hres:fn.results=#[.cell p 56]) (hp:a.tmps.getD p undef=.pointer (some ⟨g,0,none⟩))
  (hb:Am 56 w g #[x,y,z]) (hd:a.defers=[]) (hR:R (.returned (.agg #[x,y,z])) w):bodyPost Tryz.prog fn R .ret a w:=
 bodyPost_ret (results_cell_row hres _ _ g _ #[x,y,z] _ _ hp hb Tryz.underlying56 rfl (by kernel_rfl)) hd hR
def IJ (w:World) (A:Option Addr) (n:Nat) (L:List (Int×Int)) (k:Nat):Prop:=∃ps,AU w A n ps k/\DC ps=L
def F4 (w:World) (A:Option Addr) (n:Nat) (L:List (Int×Int)) (k:Nat):Prop:=∃ps,AU w A n ps k/\DC ps=L/\∀p∈ps,AL w p.num p.Z k
def AW (w:World) (v:Value) (L:List (Int×Int)) (K:Int) (k:Nat):Prop:=∃A n c s B m d,v=.agg #[.slice A n c,.bool s,.slice B m d]/\IJ w A n L k/\n<=c/\c<=9223372036854775807/\Cy w (.agg #[.bool s,.slice B m d]) K k
def AP (w:World) (v:Value) (L:List (Int×Int)) (K:Int) (k:Nat):Prop:=∃A n c s B m d,v=.agg #[.slice A n c,.bool s,.slice B m d]/\F4 w A n L k/\n<=c/\c<=9223372036854775807/\AL w (.agg #[.bool s,.slice B m d]) K k
section
variable {w w':World} {A:Option Addr} {n k j:Nat} {L:List (Int×Int)} {K:Int} {v:Value}
theorem IJ.below (h:IJ w A n L k) (hb:Below w.heap.size w w'):IJ w' A n L k:=by obtain ⟨ps,h1,h2⟩:=h;exact ⟨ps,h1.below hb,h2⟩
theorem F4.below (h:F4 w A n L k) (hb:Below w.heap.size w w'):F4 w' A n L k:=by obtain ⟨ps,h1,h2,h3⟩:=h;exact ⟨ps,h1.below hb,h2,fun p hp=>(h3 p hp).below hb⟩
theorem AW.below (h:AW w v L K k) (hb:Below w.heap.size w w'):AW w' v L K k:=by obtain ⟨A,n,c,s,B,m,d,e,h1,h2,h3,h4⟩:=h;exact ⟨A,n,c,s,B,m,d,e,h1.below hb,h2,h3,h4.below hb⟩
theorem AP.below (h:AP w v L K k) (hb:Below w.heap.size w w'):AP w' v L K k:=by obtain ⟨A,n,c,s,B,m,d,e,h1,h2,h3,h4⟩:=h;exact ⟨A,n,c,s,B,m,d,e,h1.below hb,h2,h3,h4.below hb⟩
theorem IJ.mono (h:IJ w A n L k) (hj:k<=j):IJ w A n L j:=by obtain ⟨ps,h1,h2⟩:=h;exact ⟨ps,h1.mono hj,h2⟩
theorem AW.mono (h:AW w v L K k) (hj:k<=j):AW w v L K j:=by obtain ⟨A,n,c,s,B,m,d,e,h1,h2,h3,h4⟩:=h;exact ⟨A,n,c,s,B,m,d,e,h1.mono hj,h2,h3,h4.mono hj⟩
theorem AL.mono (h:AL w v K k) (hj:k<=j):AL w v K j:=by obtain ⟨A,n,c,rfl,h1,h2,h3,h4⟩:=h;exact ⟨A,n,c,rfl,h1,h2,h3,by omega⟩
theorem F4.mono (h:F4 w A n L k) (hj:k<=j):F4 w A n L j:=by obtain ⟨ps,h1,h2,h3⟩:=h;exact ⟨ps,h1.mono hj,h2,fun p hp=>(h3 p hp).mono hj⟩
theorem AP.mono (h:AP w v L K k) (hj:k<=j):AP w v L K j:=by obtain ⟨A,n,c,s,B,m,d,e,h1,h2,h3,h4⟩:=h;exact ⟨A,n,c,s,B,m,d,e,h1.mono hj,h2,h3,h4.mono hj⟩
theorem F4.in_ (h:F4 w A n L k):IJ w A n L k:=by obtain ⟨ps,h1,h2,_⟩:=h;exact ⟨ps,h1,h2⟩
theorem AP.in_ (h:AP w v L K k):AW w v L K k:=by obtain ⟨A,n,c,s,B,m,d,e,h1,h2,h3,h4⟩:=h;exact ⟨A,n,c,s,B,m,d,e,h1.in_,h2,h3,h4.in_⟩
theorem AP.form (h:AP w v L K k):∃A n c s B m d,v=.agg #[.slice A n c,.bool s,.slice B m d]:=by obtain ⟨A,n,c,s,B,m,d,e,_⟩:=h;exact ⟨A,n,c,s,B,m,d,e⟩
theorem IJ.len (h:IJ w A n L k):L.length=n:=by obtain ⟨ps,h1,h2⟩:=h;rw[<-h2,DC,List.length_map];exact h1.1
theorem F4.nil (w:World) (A:Option Addr) (k:Nat):F4 w A 0 [] k:=⟨[],AU.nil _ _ _,rfl,fun p hp=>by cases hp⟩
theorem AU.keep {ps:List PV} {g:Nat} (h:AU w A n ps k) (ho:Ai g w w') (hk:Kp w w') (ha:0<n->Apart A g):AU w' A n ps k:=by refine ⟨h.1,fun hn=>?_,fun p hp=>(h.2.2 p hp).kp hk⟩;obtain ⟨b,o,e,hc⟩:=h.2.1 hn;refine ⟨b,o,e,fun j u hu=>?_⟩;have h1:=hc j u hu;have hne:b≠g:=ha hn ⟨b,o,none⟩ e;exact ho.gb.cell h1 (fun hh=>hne (by injection hh))
theorem IJ.keep {g:Nat} (h:IJ w A n L k) (ho:Ai g w w') (hk:Kp w w') (ha:0<n->Apart A g):IJ w' A n L k:=by obtain ⟨ps,h1,h2⟩:=h;exact ⟨ps,h1.keep ho hk ha,h2⟩
theorem F4.keep {g:Nat} (h:F4 w A n L k) (ho:Ai g w w') (hk:Kp w w') (ha:0<n->Apart A g):F4 w' A n L k:=by obtain ⟨ps,h1,h2,h3⟩:=h;exact ⟨ps,h1.keep ho hk ha,h2,fun p hp=>(h3 p hp).kp hk⟩
theorem AU.offTerm {ps:List PV} {g:Nat} {x y z:Value} (h:AU w A n ps k) (hb:Am 56 w g #[x,y,z]) (hx:∀i,x≠.int .i64 i) (hy:∀i,y≠.int .i64 i) (hz:∀i,z≠.int .i64 i):0<n->Apart A g:=by
 intro hn ad had he;obtain ⟨b,o,e,hc⟩:=h.2.1 hn;have hl:0<ps.length:=by rw[h.1];exact hn
 obtain ⟨g0,-,-⟩:=flat_get ps 0 ps[0] (List.getElem?_eq_getElem hl);have h0:=hc 0 _ g0;rw[had]at e;injection e with e
 subst e;have he':b=g:=he;subst he';rw[cell_of_row w b _ _ _ _ hb]at h0;match o,h0 with
 |0,h0=>simp at h0;exact hx _ h0
 |1,h0=>simp at h0;exact hy _ h0
 |2,h0=>simp at h0;exact hz _ h0
 |o+3,h0=>simp at h0
theorem IJ.offTerm {g m c d:Nat} {B C:Option Addr} {s:Bool} {q:Nat} (h:IJ w A n L k) (hb:Am 56 w g #[.slice B m c,.bool s,.slice C q d]):0<n->Apart A g:=by obtain ⟨ps,h1,h2⟩:=h;exact h1.offTerm hb (fun i h=>by cases h) (fun i h=>by cases h) (fun i h=>by cases h)
theorem F4.offTerm {g m c d:Nat} {B C:Option Addr} {s:Bool} {q:Nat} (h:F4 w A n L k) (hb:Am 56 w g #[.slice B m c,.bool s,.slice C q d]):0<n->Apart A g:=h.in_.offTerm hb
theorem YR (A B:Option Addr) (n c m d:Nat) (s:Bool):Cw (#[.slice A n c,.bool s,.slice B m d]:Array Value).toList:=VN (NL.slice _ _ _) (NL.bool _) (NL.slice _ _ _)
theorem AP.only {g m c d:Nat} {B C:Option Addr} {s:Bool} {q:Nat} (h:AP w v L K k) (hb:Am 56 w g #[.slice B m c,.bool s,.slice C q d]) (ho:Ai g w w'):AP w' v L K k:=by have hk:Kp w w':=hb.kp (YR _ _ _ _ _ _ _) ho;obtain ⟨A,n,c,s,B,m,d,e,h1,h2,h3,h4⟩:=h;exact ⟨A,n,c,s,B,m,d,e,h1.keep ho hk (h1.offTerm hb),h2,h3,h4.kp hk⟩
end
def Cu (L:List (Int×Int)) (K:Int) (k:Nat) (w:World) (e:Ending) (w':World):Prop:=∃v,e=.returned v/\AP w' v L K k/\Below w.heap.size w w'
def XE (w:World) (g:Nat) (cb:Array Value) (f:Int->Int) (k j:Nat):Prop:=
 ∀(W:World) (u:Value) (Z:Int),Below w.heap.size w W->Cy W u Z k->Calls Tryz.prog g (#[u]++cb) W (Do (f Z) j W)
end
section
open Go.RowKit
theorem Nr (v:Value) (Z:Int) (k:Nat) (w:World) (hv:Cy w v Z k) (hk:k<=1099511627776):Calls Tryz.prog 124 #[v] w (Do Z k w):=by
 obtain ⟨s,A,n,c,xs,rfl,hx,hc,hm,hn,rfl⟩:=hv;obtain ⟨z0,z1,z2,-⟩:=Fz w #[.bool s,.slice A n c] #[.bool false,.slice none 0 0];have hf:=Nj s A n c k xs _ (hx.below z2) hc hm hn hk;go_enter Tryz.func124,Tryz.ntmps124;go_wp2_with fail;refine hf.mono ?_;rintro e w1 ⟨v1,rfl,r1,b1⟩;obtain ⟨s1,A1,n1,c1,rfl⟩:=r1.form;have k1:=z1.next b1;go_wp2_with (with_reducible refine Aj rfl _ _ rfl (w.heap.size+1) _ _ _ _ rfl rfl _ _ k1 ?_;intro w3 k3 ho3);refine Au rfl rfl k3 rfl ?_
 exact ⟨_,rfl,r1.only k1 ho3,Bg (z2.next b1) (by omega) ho3⟩
theorem AP.number {w w':World} {v:Value} {s:Bool} {B:Option Addr} {m d:Nat} {K:Int} {k:Nat} (h:AL w (.agg #[.bool s,.slice B m d]) K k):AP w (.agg #[.slice none 0 0,.bool s,.slice B m d]) [] K k:=
 ⟨none,0,0,s,B,m,d,rfl,F4.nil _ _ _,Nat.le_refl _,by omega,h⟩
theorem Gf (v:Value) (Z:Int) (k:Nat) (w:World) (hv:Cy w v Z k) (hk:k<=1099511627776):Calls Tryz.prog 87 #[v] w (Cu [] Z k w):=by
 have hv0:=hv;obtain ⟨s,A,n,c,xs,rfl,-⟩:=hv;obtain ⟨z0,z1,z2,-⟩:=Ax 54 56 w #[.bool s,.slice A n c] #[.slice none 0 0,.bool false,.slice none 0 0];have hf:=Nr _ Z k _ (hv0.below z2) hk;have c0:=CE.c0 z0;have c1:=CE.c1 z0;go_enter Tryz.func87,Tryz.ntmps87;go_wp2_with fail;refine hf.mono ?_;rintro e w1 ⟨v1,rfl,r1,b1⟩;obtain ⟨s1,A1,n1,c1,rfl⟩:=r1.form;have k1:=z1.next b1
 go_wp2_with (with_reducible refine BL rfl _ _ rfl (w.heap.size+1) _ _ _ _ _ _ _ rfl rfl _ _ _ k1 ?_;intro w3 k3 ho3);refine Cq rfl rfl k3 rfl ?_;exact ⟨_,rfl,(AP.number r1 (w':=w) (v:=undef)).only k1 ho3,Bg (z2.next b1) (by omega) ho3⟩
theorem JH (q:PV) (k:Nat) (w:World) (hz:Cy w q.num q.Z k) (hk:k<=1099511627776):Calls Tryz.prog 179 #[q.agg] w (fun e w'=>e=.returned (.bool (decide (q.Z=0)))/\Below w.heap.size w w'):=by
 obtain ⟨x,s,B,m,d,Z⟩:=q;obtain ⟨z0,z1,-⟩:=Ap 157 w #[.int .i64 x,.bool s,.slice B m d];have hs:=O2 _ Z k _ (hz.below z1) hk;unfold Hq at hs;have c1:=z0.c1;have c2:=z0.c2;unfold PV.num at hs;dsimp only at hs
 show Calls _ _ #[.agg #[.int .i64 x,.bool s,.slice B m d]] _ _;by_cases h0:Z=0
 · subst h0;rw[show Int.sign 0=0 from rfl]at hs;rw[show decide ((0:Int)=0)=true from rfl];go_enter Tryz.func179,Tryz.ntmps179;go_wp2_with fail;refine hs.mono ?_;rintro e w1 ⟨rfl,b1⟩;go_wp2_with fail;go_ret
   exact ⟨rfl,z1.next b1⟩
 · have h1:(Z.sign==0)=false:=OB h0;have h2:decide (Z=0)=false:=(by simpa using h0);dsimp only
   rw[h2];generalize Z.sign=q at *;clear h0 h2;go_enter Tryz.func179,Tryz.ntmps179;go_wp2_with fail;refine hs.mono ?_;rintro e w1 ⟨rfl,b1⟩;go_wp2_with fail;go_ret
   exact ⟨rfl,z1.next b1⟩
theorem OC (v u:Value) (N Z:Int) (g j k:Nat) (w:World) (hb:∃s A n c,v=.agg #[.bool s,.slice A n c]/\CE w g #[.bool s,.slice A n c]) (hv:Cy w v N j) (hu:Cy w u Z k) (hk:k<=137438953472) (hj:j<=137438953472) :
  Calls Tryz.prog 127 #[u,.pointer (some ⟨g,0,none⟩)] w (Do (N*Z) (j+k) w):=by
 obtain ⟨s,A,n,c,rfl,hb⟩:=hb;have hu0:=hu;obtain ⟨t,B,m,d,ys,rfl,-⟩:=hu;obtain ⟨z0,z1,z2,-⟩:=Fz w #[.bool t,.slice B m d] #[.bool false,.slice none 0 0];have hf:=X8 _ _ N Z j k _ (hv.below z2) (hu0.below z2) hj hk;have q:=hb.next z2;have c0:=z0.c0;have c1:=z0.c1;have d0:=q.c0;have d1:=q.c1;go_enter Tryz.func127,Tryz.ntmps127;go_wp2_with fail;refine hf.mono ?_;rintro e w1 ⟨v1,rfl,r1,b1⟩;obtain ⟨s1,A1,n1,c1,rfl⟩:=r1.form;have k1:=z1.next b1
 go_wp2_with (with_reducible refine Aj rfl _ _ rfl (w.heap.size+1) _ _ _ _ rfl rfl _ _ k1 ?_;intro w3 k3 ho3);refine Au rfl rfl k3 rfl ?_;exact ⟨_,rfl,r1.only k1 ho3,Bg (z2.next b1) (by omega) ho3⟩
end
section
open Go.Shelf
def Tryz.sortPart_ren:Go.Shelf.Ren:=⟨fun|6=>175|15=>189|14=>188|28=>172|29=>205|20=>197|21=>198|22=>199|23=>200|24=>201|25=>202|26=>203|27=>204|46=>210|47=>211|48=>212|49=>213|50=>214|57=>215|n=>n,fun|22=>50|24=>157|25=>214|3=>3|39=>201|0=>0|53=>173|55=>180|4=>4|46=>233|45=>232|50=>134|5=>5|9=>9|66=>243|70=>247|76=>249|77=>162|n=>n,fun|n=>n⟩
theorem Tryz.sortPart:Go.Proofs.SlLaysF0.n6 Tryz.prog Tryz.sortPart_ren:={
 mixed:=by kernel_rfl
 f6:=⟨Tryz.f175.name,by decide,Tryz.func175.trans (congrArg some (by kernel_rfl))⟩
 f14:=⟨Tryz.f188.name,by decide,Tryz.func188.trans (congrArg some (by kernel_rfl))⟩
 f15:=Tryz.func189.trans (congrArg some (by kernel_rfl))
 f20:=⟨Tryz.f197.name,by decide,Tryz.func197.trans (congrArg some (by kernel_rfl))⟩
 f21:=⟨Tryz.f198.name,by decide,Tryz.func198.trans (congrArg some (by kernel_rfl))⟩
 f22:=⟨Tryz.f199.name,by decide,Tryz.func199.trans (congrArg some (by kernel_rfl))⟩
 f23:=⟨Tryz.f200.name,by decide,Tryz.func200.trans (congrArg some (by kernel_rfl))⟩
 f24:=⟨Tryz.f201.name,by decide,Tryz.func201.trans (congrArg some (by kernel_rfl))⟩
 f25:=⟨Tryz.f202.name,by decide,Tryz.func202.trans (congrArg some (by kernel_rfl))⟩
 f26:=⟨Tryz.f203.name,by decide,Tryz.func203.trans (congrArg some (by kernel_rfl))⟩
 f27:=⟨Tryz.f204.name,by decide,Tryz.func204.trans (congrArg some (by kernel_rfl))⟩
 f28:=Tryz.func172.trans (congrArg some (by kernel_rfl))
 f29:=Tryz.func205.trans (congrArg some (by kernel_rfl))
 f46:=⟨Tryz.f210.name,by decide,Tryz.func210.trans (congrArg some (by kernel_rfl))⟩
 f47:=Tryz.func211.trans (congrArg some (by kernel_rfl))
 f48:=Tryz.func212.trans (congrArg some (by kernel_rfl))
 f49:=⟨Tryz.f213.name,by decide,Tryz.func213.trans (congrArg some (by kernel_rfl))⟩
 f50:=⟨Tryz.f214.name,by decide,Tryz.func214.trans (congrArg some (by kernel_rfl))⟩
 f57:=⟨Tryz.f215.name,by decide,Tryz.func215.trans (congrArg some (by kernel_rfl))⟩
 t0:=Tryz.underlying0
 a0:=Tryz.isAgg0
 z0:=Tryz.sizeOf0
 v0:=Tryz.zeroValue0
 t3:=Tryz.underlying3
 a3:=Tryz.isAgg3
 z3:=Tryz.sizeOf3
 v3:=Tryz.zeroValue3
 t4:=Tryz.underlying4
 a4:=Tryz.isAgg4
 z4:=Tryz.sizeOf4
 v4:=Tryz.zeroValue4
 t5:=Tryz.underlying5
 a5:=Tryz.isAgg5
 z5:=Tryz.sizeOf5
 v5:=Tryz.zeroValue5
 t9:=Tryz.underlying9
 a9:=Tryz.isAgg9
 z9:=Tryz.sizeOf9
 v9:=Tryz.zeroValue9
 t22:=Tryz.underlying50
 a22:=Tryz.isAgg50
 z22:=Tryz.sizeOf50
 v22:=Tryz.zeroValue50
 t25:=Tryz.underlying214
 a25:=Tryz.isAgg214
 z25:=Tryz.sizeOf214
 v25:=Tryz.zeroValue214
 t39:=Tryz.underlying201
 a39:=Tryz.isAgg201
 z39:=Tryz.sizeOf201
 v39:=Tryz.zeroValue201
 t45:=Tryz.underlying232
 a45:=Tryz.isAgg232
 z45:=Tryz.sizeOf232
 v45:=Tryz.zeroValue232
 t46:=Tryz.underlying233
 a46:=Tryz.isAgg233
 z46:=Tryz.sizeOf233
 v46:=Tryz.zeroValue233
 t50:=Tryz.underlying134
 a50:=Tryz.isAgg134
 z50:=Tryz.sizeOf134
 v50:=Tryz.zeroValue134
 t53:=Tryz.underlying173
 a53:=Tryz.isAgg173
 z53:=Tryz.sizeOf173
 v53:=Tryz.zeroValue173
 t55:=Tryz.underlying180
 a55:=Tryz.isAgg180
 z55:=Tryz.sizeOf180
 v55:=Tryz.zeroValue180
 t66:=Tryz.underlying243
 a66:=Tryz.isAgg243
 z66:=Tryz.sizeOf243
 v66:=Tryz.zeroValue243
 t70:=Tryz.underlying247
 a70:=Tryz.isAgg247
 z70:=Tryz.sizeOf247
 v70:=Tryz.zeroValue247
 t76:=Tryz.underlying249
 a76:=Tryz.isAgg249
 z76:=Tryz.sizeOf249
 v76:=Tryz.zeroValue249
 t77:=Tryz.underlying162
 a77:=Tryz.isAgg162
 z77:=Tryz.sizeOf162
 v77:=Tryz.zeroValue162 }
end
end Go.Proofs.YtgohmojcopajoaaGreatDoor.Nu
