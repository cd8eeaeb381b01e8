/- Texts of one seat, put together: TermMathB Box RefZB ZintD TermA SortPart. -/
import Derived.Test.YtemfjdedjcjegaaGreatDoorL10
import Derived.Shelf.SlSortCmp.NoneTotal
import Derived.Test.YtemfjdedjcjegaaGreatDoorL01
set_option linter.unusedVariables false
set_option linter.unusedSimpArgs false
set_option maxRecDepth 100000
set_option maxHeartbeats 16000000
namespace Go.Proofs.YtemfjdedjcjegaaGreatDoor.Tm
section
def vars (ps:List (Int×Int)):List Int:=(norm ps).map Prod.fst
def Up:Int->List Int->Prop
 |_,[]=>True
 |b,v::vs=>b<v/\Up v vs
theorem Up.gt {b:Int} {vs:List Int} (h:Up b vs):∀v∈vs,b<v:=by
 induction vs generalizing b with
 |nil=>intro v hv;cases hv
 |cons u vs ih=>
  intro v hv;rcases List.mem_cons.1 hv with rfl|hv
  · exact h.1
  · have:=ih h.2 v hv;have:=h.1;omega
theorem Bv.up {b:Int} {ps:List (Int×Int)} (h:Bv b ps):Up b (ps.map Prod.fst):=by
 induction ps generalizing b with
 |nil=>trivial
 |cons p ps ih=>obtain ⟨u,c⟩:=p;exact ⟨h.1,ih h.2.2⟩
theorem Bv.mem_iff {b:Int} {ps:List (Int×Int)} (h:Bv b ps) (hb:-1<=b) (v:Int):v∈ps.map Prod.fst↔AF ps v≠0:=by
 induction ps generalizing b with
 |nil=>simp[AF]
 |cons p ps ih=>
  obtain ⟨u,c⟩:=p;have h1:=h.1;have h2:=h.2.1;have h3:=h.2.2;by_cases hv:u=v
  · subst hv;rw[h.head (by omega)];simp[h2]
  · rw[List.map_cons,List.mem_cons,AF,if_neg (by omega),Int.zero_add,<-ih h3 (by omega)];constructor
    · rintro (e|e)
      · exact absurd e.symm hv
      · exact e
    · exact Or.inr
theorem RL (ps:List (Int×Int)):Up (-1) (vars ps):=(BZ ps).up
theorem Q7 (ps:List (Int×Int)) (v:Int):v∈vars ps↔AF ps v≠0:=by unfold vars;rw[(BZ ps).mem_iff (Int.le_refl _),DI]
def TO (v:Int):List Int->List Int
 |[]=>[v]
 |u::us=>if v<u then v::u::us else if v=u then u::us else u::TO v us
def U8 (ps:List (Int×Int)):List (Int×Int)->List Int->List Int
 |[],acc=>acc
 |(u,_)::qs,acc=>U8 ps qs (if AF ps u=0 then acc else TO u acc)
theorem LE (ps:List (Int×Int)) (v:Int) (h:AF ps v≠0):v∈ps.map Prod.fst:=by
 induction ps with
 |nil=>exact absurd rfl h
 |cons p ps ih=>
  obtain ⟨u,c⟩:=p;by_cases hu:u=v
  · subst hu;exact List.mem_cons_self ..
  · rw[AF,if_neg (by omega),Int.zero_add]at h;exact List.mem_cons_of_mem _ (ih h)
def push (r:List (Int×Int)) (v c:Int):List (Int×Int):=
 if v<0 then r else match r.getLast? with
  |none=>[(v,c)]
  |some (u,d)=>if u=v then r.dropLast++[(u,d+c)] else r++[(v,c)]
def Dp:List (Int×Int)->List (Int×Int)->List (Int×Int)
 |r,[]=>r
 |r,(v,c)::ps=>Dp (push r v c) ps
theorem MW (r ps:List (Int×Int)) (v c:Int):Dp r (ps++[(v,c)])=push (Dp r ps) v c:=by
 induction ps generalizing r with
 |nil=>rfl
 |cons p ps ih=>obtain ⟨u,d⟩:=p;exact ih _
theorem OV (r:List (Int×Int)) (v c w:Int):AF (push r v c) w=AF r w+AF [(v,c)] w:=by
 unfold push;split
 · rename_i h
   rw[show AF [(v,c)] w=0 by simp[AF];omega,Int.add_zero]
 · split
   · rename_i h
     rw[List.getLast?_eq_none_iff.1 h,Fi,Int.zero_add]
   · rename_i u d h
     obtain ⟨t,rfl⟩:∃t,r=t++[(u,d)]:=List.getLast?_eq_some_iff.1 h;split
     · rename_i hu;subst hu
       rw[List.dropLast_concat,Bb,Bb];simp only[AF];split<;>omega
     · rw[Bb]
theorem MX (r ps:List (Int×Int)) (w:Int):AF (Dp r ps) w=AF r w+AF ps w:=by
 induction ps generalizing r with
 |nil=>simp[Dp,AF]
 |cons p ps ih=> obtain ⟨v,c⟩:=p;rw[Dp,ih,OV,show ((v,c)::ps)=[(v,c)]++ps from rfl,Bb];omega
def Tc:List (Int×Int)->Int->Prop
 |r,b=>Up (-1) (r.map Prod.fst)/\∀p∈r,p.1<=b
theorem Oc {b v:Int}:∀{us:List Int},Up b us->(∀u∈us,u<v)->b<v->Up b (us++[v])
 |[],_,_,hb=>⟨hb,trivial⟩
 |u::us,h,hv,_=>⟨h.1,Oc h.2 (fun x hx=>hv x (List.mem_cons_of_mem _ hx)) (hv u (List.mem_cons_self ..))⟩
theorem OX {r:List (Int×Int)} {b v c:Int} (h:Tc r b) (hv:b<=v):Tc (push r v c) v:=by
 unfold push;split
 · exact ⟨h.1,fun p hp=>by have:=h.2 p hp;omega⟩
 · split
   · exact ⟨⟨by omega,trivial⟩,fun p hp=>by simp at hp;subst hp;exact Int.le_refl _⟩
   · rename_i u d hl
     obtain ⟨t,rfl⟩:∃t,r=t++[(u,d)]:=List.getLast?_eq_some_iff.1 hl;split
     · rename_i hu;subst hu
       refine ⟨?_,fun p hp=>?_⟩
       · have:=h.1;simpa using this
       · rw[List.dropLast_concat]at hp;rcases List.mem_append.1 hp with hp|hp
         · have:=h.2 p (List.mem_append_left _ hp);omega
         · simp at hp;subst hp;exact Int.le_refl _
     · rename_i hu
       refine ⟨?_,fun p hp=>?_⟩
       · rw[List.map_append];refine Oc h.1 (fun x hx=>?_) (by omega);obtain ⟨p,hp,rfl⟩:=List.mem_map.1 hx;have h1:=h.2 p hp;have h2:=h.2 (u,d) (by simp);show p.1<v;rcases Int.lt_or_le p.1 v with h3|h3
         · exact h3
         · exfalso;have h4:p.1=v:=(by omega);have h6:b=v:=(by omega);have h7:u<v:=(by have:u<=b:=h2;omega);have h8:=h.1;rw[List.map_append]at h8;have h9:∀(us:List Int) (b0:Int),Up b0 (us++[u])->∀x∈us,x<u:=by
             intro us;induction us with
             |nil=>intro _ _ x hx;cases hx
             |cons y us ih=>
              intro b0 hU x hx;rcases List.mem_cons.1 hx with rfl|hx
              · exact hU.2.gt u (by simp)
              · exact ih y hU.2 x hx
           rcases List.mem_append.1 hp with hp|hp
           · have:=h9 _ _ h8 p.1 (List.mem_map_of_mem hp);omega
           · simp at hp;subst hp;omega
       · rcases List.mem_append.1 hp with hp|hp
         · have:=h.2 p hp;omega
         · simp at hp;subst hp;exact Int.le_refl _
def Iz:Int->List (Int×Int)->Prop
 |_,[]=>True
 |b,(v,_)::ps=>b<=v/\Iz v ps
theorem I0 {r:List (Int×Int)} {b:Int}:∀{ps:List (Int×Int)},Tc r b->Iz b ps->Up (-1) ((Dp r ps).map Prod.fst)
 |[],h,_=>h.1
 |(v,c)::ps,h,hs=>by
  rw[Dp];exact I0 (OX h hs.1) hs.2
def FP (ps:List (Int×Int)):List (Int×Int):=ps.filter fun p=>decide (p.2≠0)
theorem LF (ps:List (Int×Int)) (v:Int):AF (FP ps) v=AF ps v:=by
 induction ps with
 |nil=>rfl
 |cons p ps ih=>
  obtain ⟨u,c⟩:=p;unfold FP at *;rw[List.filter_cons];split
  · rw[AF,AF,ih]
  · rename_i h
    have h0:c=0:=(by simpa using h);rw[AF,ih,h0];simp
theorem Js {b:Int} {ps:List (Int×Int)} (h:Up b (ps.map Prod.fst)):Bv b (FP ps):=by
 induction ps generalizing b with
 |nil=>trivial
 |cons p ps ih=>
  obtain ⟨u,c⟩:=p;unfold FP at *;rw[List.filter_cons];split
  · rename_i h0
    exact ⟨h.1,by simpa using h0,ih h.2⟩
  · exact (ih h.2).mono (by have:=h.1;omega)
theorem Td {ps qs:List (Int×Int)} {b:Int} (hp:qs.Perm ps) (hs:Iz b qs):FP (Dp [] qs)=norm ps:=by refine Gm (Js (I0 (b:=b) ⟨trivial,fun p hp=>by cases hp⟩ hs)) (fun v=>?_);rw[LF,MX,Fi,Int.zero_add,OS hp]
def Ec (f:Nat->Int):Nat->Int
 |0=>0
 |n+1=>Ec f n+f n
theorem Q8 (f g:Nat->Int) (n:Nat):Ec (fun i=>f i+g i) n=Ec f n+Ec g n:=by
 induction n with
 |zero=>rfl
 |succ n ih=>rw[Ec,Ec,Ec,ih];omega
theorem JQ (n:Nat):Ec (fun _=>0) n=0:=by
 induction n with
 |zero=>rfl
 |succ n ih=>rw[Ec,ih];rfl
theorem EG {f g:Nat->Int} {n:Nat} (h:∀i,i<n->f i=g i):Ec f n=Ec g n:=by
 induction n with
 |zero=>rfl
 |succ n ih=>rw[Ec,Ec,ih (fun i hi=>h i (by omega)),h n (by omega)]
theorem Q9 (k:Nat) (x:Int) (n:Nat):Ec (fun i=>if k=i then x else 0) n=if k<n then x else 0:=by
 induction n with
 |zero=>simp[Ec]
 |succ n ih=>
  rw[Ec,ih];by_cases h1:k<n
  · rw[if_pos h1,if_neg (by omega),if_pos (by omega),Int.add_zero]
  · by_cases h2:k=n
    · rw[if_neg h1,if_pos h2,if_pos (by omega),Int.zero_add]
    · rw[if_neg h1,if_neg h2,if_neg (by omega)];rfl
theorem QA (vals:List Int) (ps:List (Int×Int)):val vals ps=Ec (fun i=>AF ps i*vals.getD i 0) vals.length:=by
 induction ps with
 |nil=>
  rw[val,<-JQ vals.length];exact EG (fun i _=>by simp[AF])
 |cons p ps ih=>
  obtain ⟨u,c⟩:=p;rw[val,ih];have e:Ec (fun i=>AF ((u,c)::ps) i*vals.getD i 0) vals.length=Ec (fun i=>(if u=(i:Int) then c*vals.getD i 0 else 0)+AF ps i*vals.getD i 0) vals.length:=by
    refine EG (fun i _=>?_);rw[AF,Int.add_mul];by_cases h:u=(i:Int)
    · rw[if_pos ⟨h,by omega⟩,if_pos h]
    · rw[if_neg (fun hh=>h hh.1),if_neg h,Int.zero_mul]
  rw[e,Q8];congr 1
  by_cases hu:0<=u
  · obtain ⟨k,rfl⟩:∃k:Nat,u=(k:Int):=⟨u.toNat,by omega⟩;rw[if_pos hu,Int.toNat_natCast];have e2:Ec (fun i=>if (k:Int)=(i:Int) then c*vals.getD i 0 else 0) vals.length=Ec (fun i=>if k=i then c*vals.getD k 0 else 0) vals.length:=by
      refine EG (fun i _=>?_);by_cases h:k=i
      · subst h;simp
      · rw[if_neg (by omega),if_neg h]
    rw[e2,Q9];split
    · rfl
    · rename_i h
      rw[List.getD_eq_getElem?_getD,List.getElem?_eq_none (by omega)];simp
  · rw[if_neg hu];refine Eq.trans (JQ vals.length).symm ?_;exact EG (fun i _=>by rw[if_neg (by omega)])
def AK (a b:Int):Int:=if a<b then -1 else if b<a then 1 else 0
def cmpL:List (Int×Int)->List (Int×Int)->Int
 |[],[]=>0
 |[],_::_=>-1
 |_::_,[]=>1
 |(u,c)::ps,(v,d)::qs=>if AK u v≠0 then AK u v else if AK c d≠0 then AK c d else cmpL ps qs
def EW (a b:Int):Int:=if a≠0 then a else b
theorem Cc {a b:Int}:AK a b=0↔a=b:=by
 unfold AK;split
 · omega
 · split<;>omega
theorem I1 (a b:Int):AK b a=- AK a b:=by
 unfold AK;rcases Int.lt_trichotomy a b with h|h|h
 · rw[if_neg (by omega),if_pos h,if_pos h];rfl
 · subst h;simp
 · rw[if_pos h,if_neg (by omega),if_pos h]
theorem Df:∀{ps qs:List (Int×Int)},cmpL ps qs=0↔ps=qs
 |[],[]=>by simp[cmpL]
 |[],_::_=>by simp[cmpL]
 |_::_,[]=>by simp[cmpL]
 |(u,c)::ps,(v,d)::qs=>by
  unfold cmpL;by_cases h1:AK u v=0
  · rw[if_neg (by simp[h1])];by_cases h2:AK c d=0
    · rw[if_neg (by simp[h2]),Df,Cc.1 h1,Cc.1 h2];simp
    · rw[if_pos h2];constructor
      · intro h;exact absurd h h2
      · intro h;injection h with h _;injection h with _ h;exact absurd (Cc.2 h) h2
  · rw[if_pos h1];constructor
    · intro h;exact absurd h h1
    · intro h;injection h with h _;injection h with h _;exact absurd (Cc.2 h) h1
theorem LG:∀(ps qs:List (Int×Int)),cmpL qs ps=- cmpL ps qs
 |[],[]=>rfl
 |[],_::_=>rfl
 |_::_,[]=>rfl
 |(u,c)::ps,(v,d)::qs=>by
  unfold cmpL;rw[I1 u v,I1 c d,LG ps qs];by_cases h1:AK u v=0
  · by_cases h2:AK c d=0
    · simp[h1,h2]
    · simp[h1,h2]
  · simp[h1]
def I2 (ps qs:List (Int×Int)) (K M:Int):Int:=EW (cmpL (norm ps) (norm qs)) (AK K M)
theorem KB {n:Int} (hn:n≠0) {b:Int} {ps:List (Int×Int)} (h:Bv b ps):Bv b (ps.map fun p=>(p.1,n*p.2)):=by
 induction ps generalizing b with
 |nil=>trivial
 |cons p ps ih=> obtain ⟨u,c⟩:=p;exact ⟨h.1,Int.mul_ne_zero hn h.2.1,ih h.2.2⟩
theorem Dg {n:Int} (hn:n≠0) (ps:List (Int×Int)):norm (ps.map fun p=>(p.1,n*p.2))=(norm ps).map fun p=>(p.1,n*p.2):=
 (Gm (KB hn (BZ ps)) (fun v=>by rw[FO,FO,DI])).symm
theorem OY (ps:List (Int×Int)) (h:∀v,AF ps v=0):norm ps=[]:=(Gm (qs:=[]) trivial (fun v=>(h v).symm)).symm
theorem JR (ps:List (Int×Int)):norm (norm ps)=norm ps:=KA (BZ ps)
theorem Gn {ps ps' qs qs':List (Int×Int)} (h:∀v,AF ps v=AF ps' v) (h':∀v,AF qs v=AF qs' v):norm (ps++qs)=norm (ps'++qs'):=
 GE (fun v=>by rw[Bb,Bb,h,h'])
end
end Go.Proofs.YtemfjdedjcjegaaGreatDoor.Tm
namespace Go.Proofs.YtemfjdedjcjegaaGreatDoor
section
open Go.RowKit
def Aw (T:TypeId) (w:World) (g:Nat) (cs:Array Value):Prop:=w.heap[g]?=some (.cells cs T (0,0))
section
variable {T:TypeId} {w w':World} {g k:Nat} {cs:Array Value} {x y z:Value}
theorem Aw.lt (h:Aw T w g cs):g<w.heap.size:=(Array.getElem?_eq_some_iff.1 h).1
theorem Aw.cell (h:Aw T w g cs) (i:Nat) (v:Value) (hv:cs[i]?=some v):w.cell? ⟨g,i,none⟩=some v:=by rw[cell_of_row w g i _ _ _ h];exact hv
theorem Aw.c0 (h:Aw T w g #[x,y,z]):w.cell? ⟨g,0,none⟩=some x:=h.cell 0 x rfl
theorem Aw.c1 (h:Aw T w g #[x,y,z]):w.cell? ⟨g,1,none⟩=some y:=h.cell 1 y rfl
theorem Aw.c2 (h:Aw T w g #[x,y,z]):w.cell? ⟨g,2,none⟩=some z:=h.cell 2 z rfl
theorem Aw.fr (h:Aw T w g cs) (i:Nat):w.frozen? ⟨g,i,none⟩=false:=by unfold Aw at h;simp[World.frozen?,h]
theorem Aw.below {B:Nat} (h:Aw T w g cs) (hb:Below B w w') (hg:g<B):Aw T w' g cs:=(hb.block g hg).trans h
theorem Aw.next (h:Aw T w g cs) (hb:Below w.heap.size w w'):Aw T w' g cs:=h.below hb h.lt
theorem Aw.new (T:TypeId) (w:World) (cs:Array Value):Aw T (w.alloc (.cells cs T)) w.heap.size cs:=heap_alloc_new w _
theorem Aw.alloc (h:Aw T w g cs) (o:Obj):Aw T (w.alloc o) g cs:=h.next (Ae w o)
theorem Aw.drew (h:Aw T w g cs):Aw T w.drew g cs:=h
theorem Aw.other (h:Aw T w g cs) (ho:Ao k w w') (hne:g≠k):Aw T w' g cs:=(ho.block g h.lt (fun hh=>hne (by injection hh))).trans h
theorem Aw.grown {row:Option Nat} (h:Aw T w g cs) (ho:w.grownBy w' row) (hne:some g≠row):Aw T w' g cs:=(ho.block g h.lt hne).trans h
theorem Aw.set_0 (h:Aw T w g #[x,y,z]) (x':Value):Aw T (w.setCell ⟨g,0,none⟩ x') g #[x',y,z]:=by unfold Aw at h ⊢;simp[World.setCell,Array.getElem?_modify,h]
theorem CK (w:World) (g i:Nat) (x:Value):Ao g w (w.setCell ⟨g,i,none⟩ x):=(Ao.refl g w).setCell i x
theorem Aw.kp (h:Aw T w g cs) (hn:EU cs.toList) (ho:Ao g w w'):Kp w w':=Kp.block h hn ho
theorem UG (hx:NL x) (hy:NL y) (hz:NL z):EU (#[x,y,z]:Array Value).toList:=by intro u hu;simp at hu;rcases hu with rfl|rfl|rfl<;>assumption
theorem U9 (hx:NL x) (hy:NL y):EU (#[x,y]:Array Value).toList:=by intro u hu;simp at hu;rcases hu with rfl|rfl<;>assumption
theorem I3 {Z:Int} (h:Z≠0):(Z.sign==0)=false:=by simpa using h
theorem AY.box {cs:Array Value} (h:AY w g cs):Aw 31 w g cs:=h
theorem AV (T:TypeId) (w:World) (X:Array Value):Aw T (w.alloc (.cells X T)) w.heap.size X/\Below w.heap.size w (w.alloc (.cells X T))/\(w.alloc (.cells X T)).heap.size=w.heap.size+1:=
 ⟨Aw.new T w X,Ae w _,size_alloc w _⟩
theorem Bh (T U:TypeId) (w:World) (X Y:Array Value):Aw T ((w.alloc (.cells X T)).alloc (.cells Y U)) w.heap.size X/\Aw U ((w.alloc (.cells X T)).alloc (.cells Y U)) (w.heap.size+1) Y /\
  Below w.heap.size w ((w.alloc (.cells X T)).alloc (.cells Y U))/\((w.alloc (.cells X T)).alloc (.cells Y U)).heap.size=w.heap.size+2:=by
 obtain ⟨h1,h2,h3⟩:=AV T w X;obtain ⟨k1,k2,k3⟩:=AV U (w.alloc (.cells X T)) Y;rw[h3]at k1 k3;exact ⟨h1.alloc _,k1,h2.next (Ae _ _),by omega⟩
theorem BQ (T U V:TypeId) (w:World) (X Y Z:Array Value):Aw T (((w.alloc (.cells X T)).alloc (.cells Y U)).alloc (.cells Z V)) w.heap.size X/\Aw U (((w.alloc (.cells X T)).alloc (.cells Y U)).alloc (.cells Z V)) (w.heap.size+1) Y /\
  Aw V (((w.alloc (.cells X T)).alloc (.cells Y U)).alloc (.cells Z V)) (w.heap.size+1+1) Z/\Below w.heap.size w (((w.alloc (.cells X T)).alloc (.cells Y U)).alloc (.cells Z V))/\(((w.alloc (.cells X T)).alloc (.cells Y U)).alloc (.cells Z V)).heap.size=w.heap.size+3:=by
 obtain ⟨h1,h2,h3,h4⟩:=Bh T U w X Y;obtain ⟨k1,k2,k3⟩:=AV V ((w.alloc (.cells X T)).alloc (.cells Y U)) Z;rw[h4]at k1 k3;have e2:w.heap.size+2=w.heap.size+1+1:=rfl;rw[e2]at k1;exact ⟨h1.alloc _,h2.alloc _,k1,h3.next (Ae _ _),by omega⟩
end
theorem Cl {P:Program} {w:World} {ops:Array Oper} {rest:List Oper} {o:Oper} {a:Act} {Q:Exit->Act->World->Prop} (hgd:o.guard=none) (T:TypeId) (x y:Operand) (ho:o.op=.store T x y)
  (g:Nat) (cells:Array Value) (hx:a.eval x=.pointer (some ⟨g,0,none⟩)) (hy:a.eval y=.agg cells) (old:Array Value) (hb:Aw T w g old) (hi:(P.info? T).map (·.size)=some cells.size) (hold:old.size=cells.size) (h1:cells.all (·.oneCell')=true)
  (h:∀w',Aw T w' g cells->Ao g w w'->wpList P ops Q rest (a.put o.dst undef) w'):wpList P ops Q (o::rest) a w:=by
 refine wpList_store_row hgd T x y ho g cells hx hy T old hb hi hold h1 ?_;refine h _ ?_ (CF w g _);exact setRow_heap w g old cells _ _ hb
theorem AO {w:World} {ops:Array Oper} {rest:List Oper} {o:Oper} {a:Act} {Q:Exit->Act->World->Prop} (hgd:o.guard=none) (x y:Operand) (ho:o.op=.store 33 x y)
  (g:Nat) (s:Bool) (A B:Option Addr) (n c m d:Nat) (hx:a.eval x=.pointer (some ⟨g,0,none⟩)) (hy:a.eval y=.agg #[.slice A n c,.bool s,.slice B m d]) (u v z:Value) (hb:Aw 33 w g #[u,v,z])
  (h:∀w',Aw 33 w' g #[.slice A n c,.bool s,.slice B m d]->Ao g w w'->wpList Tryz.prog ops Q rest (a.put o.dst undef) w'):wpList Tryz.prog ops Q (o::rest) a w:=
 Cl hgd 33 x y ho g _ hx hy _ hb (by kernel_rfl) rfl (by simp[Value.oneCell']) h
theorem Bw {fn:Func} {R:Ending->World->Prop} {a:Act} {w:World} {g p:Nat} {x y z:Value} (hres:fn.results=#[.cell p 33]) (hp:a.tmps.getD p undef=.pointer (some ⟨g,0,none⟩))
  (hb:Aw 33 w g #[x,y,z]) (hd:a.defers=[]) (hR:R (.returned (.agg #[x,y,z])) w):bodyPost Tryz.prog fn R .ret a w:=
 bodyPost_ret (results_cell_row hres _ _ g _ #[x,y,z] _ _ hp hb Tryz.underlying33 rfl (by kernel_rfl)) hd hR
def EP (w:World) (A:Option Addr) (n:Nat) (L:List (Int×Int)) (k:Nat):Prop:=∃ps,AC w A n ps k/\Ca ps=L
def Cv (w:World) (A:Option Addr) (n:Nat) (L:List (Int×Int)) (k:Nat):Prop:=∃ps,AC w A n ps k/\Ca ps=L/\∀p∈ps,Au w p.num p.Z k
def Dw (w:World) (v:Value) (L:List (Int×Int)) (K:Int) (k:Nat):Prop:=∃A n c s B m d,v=.agg #[.slice A n c,.bool s,.slice B m d]/\EP w A n L k/\n<=c/\c<=9223372036854775807/\BF w (.agg #[.bool s,.slice B m d]) K k
def An (w:World) (v:Value) (L:List (Int×Int)) (K:Int) (k:Nat):Prop:=∃A n c s B m d,v=.agg #[.slice A n c,.bool s,.slice B m d]/\Cv w A n L k/\n<=c/\c<=9223372036854775807/\Au w (.agg #[.bool s,.slice B m d]) K k
section
variable {w w':World} {A:Option Addr} {n k j:Nat} {L:List (Int×Int)} {K:Int} {v:Value}
theorem EP.below (h:EP w A n L k) (hb:Below w.heap.size w w'):EP w' A n L k:=by obtain ⟨ps,h1,h2⟩:=h;exact ⟨ps,h1.below hb,h2⟩
theorem Cv.below (h:Cv w A n L k) (hb:Below w.heap.size w w'):Cv w' A n L k:=by obtain ⟨ps,h1,h2,h3⟩:=h;exact ⟨ps,h1.below hb,h2,fun p hp=>(h3 p hp).below hb⟩
theorem Dw.below (h:Dw w v L K k) (hb:Below w.heap.size w w'):Dw w' v L K k:=by obtain ⟨A,n,c,s,B,m,d,e,h1,h2,h3,h4⟩:=h;exact ⟨A,n,c,s,B,m,d,e,h1.below hb,h2,h3,h4.below hb⟩
theorem An.below (h:An w v L K k) (hb:Below w.heap.size w w'):An w' v L K k:=by obtain ⟨A,n,c,s,B,m,d,e,h1,h2,h3,h4⟩:=h;exact ⟨A,n,c,s,B,m,d,e,h1.below hb,h2,h3,h4.below hb⟩
theorem EP.mono (h:EP w A n L k) (hj:k<=j):EP w A n L j:=by obtain ⟨ps,h1,h2⟩:=h;exact ⟨ps,h1.mono hj,h2⟩
theorem Dw.mono (h:Dw w v L K k) (hj:k<=j):Dw w v L K j:=by obtain ⟨A,n,c,s,B,m,d,e,h1,h2,h3,h4⟩:=h;exact ⟨A,n,c,s,B,m,d,e,h1.mono hj,h2,h3,h4.mono hj⟩
theorem Au.mono (h:Au w v K k) (hj:k<=j):Au w v K j:=by obtain ⟨A,n,c,rfl,h1,h2,h3,h4⟩:=h;exact ⟨A,n,c,rfl,h1,h2,h3,by omega⟩
theorem Cv.mono (h:Cv w A n L k) (hj:k<=j):Cv w A n L j:=by obtain ⟨ps,h1,h2,h3⟩:=h;exact ⟨ps,h1.mono hj,h2,fun p hp=>(h3 p hp).mono hj⟩
theorem An.mono (h:An w v L K k) (hj:k<=j):An w v L K j:=by obtain ⟨A,n,c,s,B,m,d,e,h1,h2,h3,h4⟩:=h;exact ⟨A,n,c,s,B,m,d,e,h1.mono hj,h2,h3,h4.mono hj⟩
theorem Cv.in_ (h:Cv w A n L k):EP w A n L k:=by obtain ⟨ps,h1,h2,_⟩:=h;exact ⟨ps,h1,h2⟩
theorem An.in_ (h:An w v L K k):Dw w v L K k:=by obtain ⟨A,n,c,s,B,m,d,e,h1,h2,h3,h4⟩:=h;exact ⟨A,n,c,s,B,m,d,e,h1.in_,h2,h3,h4.in_⟩
theorem An.form (h:An w v L K k):∃A n c s B m d,v=.agg #[.slice A n c,.bool s,.slice B m d]:=by obtain ⟨A,n,c,s,B,m,d,e,_⟩:=h;exact ⟨A,n,c,s,B,m,d,e⟩
theorem EP.len (h:EP w A n L k):L.length=n:=by obtain ⟨ps,h1,h2⟩:=h;rw[<-h2,Ca,List.length_map];exact h1.1
theorem Cv.len (h:Cv w A n L k):L.length=n:=h.in_.len
theorem Cv.nil (w:World) (A:Option Addr) (k:Nat):Cv w A 0 [] k:=⟨[],AC.nil _ _ _,rfl,fun p hp=>by cases hp⟩
theorem AC.keep {ps:List PV} {g:Nat} (h:AC w A n ps k) (ho:Ao g w w') (hk:Kp w w') (ha:0<n->Apart A g):AC w' A n ps k:=by refine ⟨h.1,fun hn=>?_,fun p hp=>(h.2.2 p hp).kp hk⟩;obtain ⟨b,o,e,hc⟩:=h.2.1 hn;refine ⟨b,o,e,fun j u hu=>?_⟩;have h1:=hc j u hu;have hne:b≠g:=ha hn ⟨b,o,none⟩ e;exact ho.gb.cell h1 (fun hh=>hne (by injection hh))
theorem EP.keep {g:Nat} (h:EP w A n L k) (ho:Ao g w w') (hk:Kp w w') (ha:0<n->Apart A g):EP w' A n L k:=by obtain ⟨ps,h1,h2⟩:=h;exact ⟨ps,h1.keep ho hk ha,h2⟩
theorem Cv.keep {g:Nat} (h:Cv w A n L k) (ho:Ao g w w') (hk:Kp w w') (ha:0<n->Apart A g):Cv w' A n L k:=by obtain ⟨ps,h1,h2,h3⟩:=h;exact ⟨ps,h1.keep ho hk ha,h2,fun p hp=>(h3 p hp).kp hk⟩
theorem AC.offTerm {ps:List PV} {g:Nat} {x y z:Value} (h:AC w A n ps k) (hb:Aw 33 w g #[x,y,z]) (hx:∀i,x≠.int .i64 i) (hy:∀i,y≠.int .i64 i) (hz:∀i,z≠.int .i64 i):0<n->Apart A g:=by
 intro hn ad had he;obtain ⟨b,o,e,hc⟩:=h.2.1 hn;have hl:0<ps.length:=by rw[h.1];exact hn
 obtain ⟨g0,-,-⟩:=flat_get ps 0 ps[0] (List.getElem?_eq_getElem hl);have h0:=hc 0 _ g0;rw[had]at e;injection e with e
 subst e;have he':b=g:=he;subst he';rw[cell_of_row w b _ _ _ _ hb]at h0;match o,h0 with
 |0,h0=>simp at h0;exact hx _ h0
 |1,h0=>simp at h0;exact hy _ h0
 |2,h0=>simp at h0;exact hz _ h0
 |o+3,h0=>simp at h0
theorem EP.offTerm {g m c d:Nat} {B C:Option Addr} {s:Bool} {q:Nat} (h:EP w A n L k) (hb:Aw 33 w g #[.slice B m c,.bool s,.slice C q d]):0<n->Apart A g:=by obtain ⟨ps,h1,h2⟩:=h;exact h1.offTerm hb (fun i h=>by cases h) (fun i h=>by cases h) (fun i h=>by cases h)
theorem Cv.offTerm {g m c d:Nat} {B C:Option Addr} {s:Bool} {q:Nat} (h:Cv w A n L k) (hb:Aw 33 w g #[.slice B m c,.bool s,.slice C q d]):0<n->Apart A g:=h.in_.offTerm hb
theorem QB (A B:Option Addr) (n c m d:Nat) (s:Bool):EU (#[.slice A n c,.bool s,.slice B m d]:Array Value).toList:=UG (NL.slice _ _ _) (NL.bool _) (NL.slice _ _ _)
theorem An.only {g m c d:Nat} {B C:Option Addr} {s:Bool} {q:Nat} (h:An w v L K k) (hb:Aw 33 w g #[.slice B m c,.bool s,.slice C q d]) (ho:Ao g w w'):An w' v L K k:=by have hk:Kp w w':=hb.kp (QB _ _ _ _ _ _ _) ho;obtain ⟨A,n,c,s,B,m,d,e,h1,h2,h3,h4⟩:=h;exact ⟨A,n,c,s,B,m,d,e,h1.keep ho hk (h1.offTerm hb),h2,h3,h4.kp hk⟩
end
def Bm (L:List (Int×Int)) (K:Int) (k:Nat) (w:World) (e:Ending) (w':World):Prop:=∃v,e=.returned v/\An w' v L K k/\Below w.heap.size w w'
def TP (w:World) (g:Nat) (cb:Array Value) (f:Int->Int) (k j:Nat):Prop:=
 ∀(W:World) (u:Value) (Z:Int),Below w.heap.size w W->BF W u Z k->Calls Tryz.prog g (#[u]++cb) W (CW (f Z) j W)
end
section
open Go.RowKit
open Limb (limb AE upto upto_succ Ap Aq)
theorem JS (v u:Value) (Z:Int) (k j:Nat) (w:World) (hv:Au w v Z k) (hu:Au w u Z j):Calls Tryz.prog 72 #[v,u] w (Ef w):=by
 obtain ⟨A,n,c,rfl,hx,hc,hm,hn⟩:=hv;obtain ⟨B,m,d,rfl,hy,hd,hmd,hmk⟩:=hu;obtain rfl:n=m:=by rw[<-hx.len,<-hy.len]
 have h0:(decide (Z<0)==decide (Z<0))=true:=by simp
 generalize decide (Z<0)=s at *;generalize Limb.canon Z.natAbs=zs at *;obtain ⟨x0,y0,z2,-⟩:=El w #[.bool s,.slice A n c] #[.bool s,.slice B n d];go_enter Tryz.func72,Tryz.ntmps72;go_wp2_with fail;refine (PW A B n c d zs _ (hx.below z2) (hy.below z2) (by omega)).mono ?_;rintro e w1 ⟨rfl,hw⟩;have b1:=SY hw;clear hw;go_wp2_with fail;go_ret
 exact ⟨rfl,z2.next b1⟩
def T6 (b:Bool) (w:World) (e:Ending) (w':World):Prop:=e=.returned (.bool b)/\Below w.heap.size w w'
end
section
open Go.RowKit
open Limb (limb AE upto upto_succ Ap Aq)
theorem S1 (n:Int):IntKind.u64.wrap n=n%18446744073709551616:=by simp[IntKind.wrap,IntKind.bits,IntKind.signed]
theorem TQ (n:Int) (w:World) (h1:-9223372036854775808<=n) (h2:n<=9223372036854775807):Calls Tryz.prog 44 #[.int .i64 n] w (CW n 2 w):=by
 obtain ⟨z1,z2,-⟩:=CV w #[.bool false,.slice none 0 0];have hl:n.natAbs<18446744073709551616:=by omega
 by_cases hn:n<0
 · have hE:=Ad (show sg true n.natAbs=n by rw[EE];omega);have hd:decide (n<0)=true:=decide_eq_true hn;go_enter Tryz.func44,Tryz.ntmps44;go_wp2_with fail;refine (of_int _ n.natAbs _ (by rw[S1,S1];omega) (by omega)).mono ?_;rintro e w1 ⟨A1,n1,rfl,o1,b1⟩;have hn1:=Ek o1;go_wp2_with fail;refine (AX true A1 n1 n1 _ w1 o1.len (by omega)).mono ?_;rintro e w2 ⟨rfl,b2⟩;have r2:=(BJ (s:=true) (k:=2) o1 (by omega)).below b2;rw[hE.out,hd]at r2;rw[hE.out,hd]
   have k2:=(z1.next b1).next b2;go_wp2_with (with_reducible refine Al rfl _ _ rfl w.heap.size _ _ _ _ rfl rfl _ _ k2 ?_;intro w3 k3 ho3);refine Av rfl rfl k3 rfl ?_;exact ⟨_,rfl,r2.only k2 ho3,AH ((z2.next b1).next b2) (Nat.le_refl _) ho3⟩
 · have hE:=Ad (show sg false n.natAbs=n by rw[Fg];omega);have hd:decide (n<0)=false:=decide_eq_false hn;go_enter Tryz.func44,Tryz.ntmps44;go_wp2_with fail;refine (of_int _ n.natAbs _ (by omega) (by omega)).mono ?_;rintro e w1 ⟨A1,n1,rfl,o1,b1⟩;have hn1:=Ek o1;go_wp2_with fail;refine (AX false A1 n1 n1 _ w1 o1.len (by omega)).mono ?_;rintro e w2 ⟨rfl,b2⟩;have r2:=(BJ (s:=false) (k:=2) o1 (by omega)).below b2;rw[hE.out,hd]at r2;rw[hE.out,hd];have k2:=(z1.next b1).next b2
   go_wp2_with (with_reducible refine Al rfl _ _ rfl w.heap.size _ _ _ _ rfl rfl _ _ k2 ?_;intro w3 k3 ho3);refine Av rfl rfl k3 rfl ?_;exact ⟨_,rfl,r2.only k2 ho3,AH ((z2.next b1).next b2) (Nat.le_refl _) ho3⟩
theorem LH (w:World) (x y:Nat) (us:Array Value) (hus:us=(Cb [x,y]).toArray) (h:x<4294967296) (hy:y<4294967296):Am (w.alloc (.cells us 83)) (some ⟨w.heap.size,0,none⟩) 2 [x,y]:=
 Am.new w [x,y] us hus (Limb.Ok.cons h (Limb.Ok.cons hy Limb.Ok.nil)) 2 rfl
theorem QC (n:Int) (w:World) (h1:-9223372036854775808<=n) (h2:n<=9223372036854775807):Calls Tryz.prog 18 #[.int .i64 n] w (CW n 2 w):=by
 obtain ⟨z1,z2,z3⟩:=CV w #[.bool false,.slice none 0 0];by_cases hn:n<0
 · obtain ⟨m,rfl⟩:∃m:Nat,n=-(m:Int)-1:=⟨(-n-1).toNat,by omega⟩;have hm:m<=9223372036854775807:=(by omega);have e1:-(m:Int)-1+1=-(m:Int):=(by omega);have e2:0 - -(m:Int)=(m:Int):=(by omega);clear h1 h2;have hx:=LH (w.alloc (.cells #[.bool false,.slice none 0 0] 31)) (m%4294967296) (m/4294967296) #[.int .u32 ((m:Int)%4294967296),.int .u32 ((m:Int)/4294967296)] (by simp[Cb]) (by omega) (by omega)
   have t2:=Ae (w.alloc (.cells #[.bool false,.slice none 0 0] 31)) (.cells #[.int .u32 ((m:Int)%4294967296),.int .u32 ((m:Int)/4294967296)] 83);have s2:=size_alloc (w.alloc (.cells #[.bool false,.slice none 0 0] 31)) (.cells #[.int .u32 ((m:Int)%4294967296),.int .u32 ((m:Int)/4294967296)] 83);rw[z3]at hx s2;have hv:=Ad (show Limb.val [m%4294967296,m/4294967296]=m by simp[Limb.val];omega)
   have hy:=Uo ((w.alloc (.cells #[.bool false,.slice none 0 0] 31)).alloc (.cells #[.int .u32 ((m:Int)%4294967296),.int .u32 ((m:Int)/4294967296)] 83)) 1 1 #[.int .u32 1] rfl (by omega) (by omega) rfl;have t3:=Ae ((w.alloc (.cells #[.bool false,.slice none 0 0] 31)).alloc (.cells #[.int .u32 ((m:Int)%4294967296),.int .u32 ((m:Int)/4294967296)] 83)) (.cells #[.int .u32 1] 83);rw[s2]at hy;have T:=(z2.next t2).next t3;have K:=(z1.next t2).next t3;have X:=hx.below t3
   have hE:=Ad (show sg true (m+1)=-(m:Int)-1 by rw[EE];omega);clear hx t2 t3 s2 z3;go_enter Tryz.func18,Tryz.ntmps18;go_wp2_with fail;refine (PX _ _ 2 2 1 1 _ _ _ X hy (by omega) (by omega)).mono ?_;rintro e w1 ⟨A1,n1,c1,rfl,o1,l1,m1,b1⟩;rw[hv.out,Limb.val_canon]at o1;have ln1:n1<=2:=CG o1 (by omega);go_wp2_with fail;refine (JO true A1 n1 c1 2 _ w1 o1 ln1 (by omega)).mono ?_;rintro e w2 ⟨v2,rfl,r2,b2⟩;rw[Limb.val_canon,hE.out]at r2;obtain ⟨s2,A2,n2,c2,rfl⟩:=r2.form
   have k2:=(K.next b1).next b2;go_wp2_with (with_reducible refine Al rfl _ _ rfl w.heap.size _ _ _ _ rfl rfl _ _ k2 ?_;intro w3 k3 ho3);refine Av rfl rfl k3 rfl ?_;exact ⟨_,rfl,r2.only k2 ho3,AH ((T.next b1).next b2) (Nat.le_refl _) ho3⟩
 · obtain ⟨m,rfl⟩:=Int.eq_ofNat_of_zero_le (show 0<=n by omega);clear hn h1;have hx:=LH (w.alloc (.cells #[.bool false,.slice none 0 0] 31)) (m%4294967296) (m/4294967296) #[.int .u32 ((m:Int)%4294967296),.int .u32 ((m:Int)/4294967296)] (by simp[Cb]) (by omega) (by omega);have t2:=Ae (w.alloc (.cells #[.bool false,.slice none 0 0] 31)) (.cells #[.int .u32 ((m:Int)%4294967296),.int .u32 ((m:Int)/4294967296)] 83);rw[z3]at hx
   have hv:=Ad (show Limb.val [m%4294967296,m/4294967296]=m by simp[Limb.val];omega);have hf:=JO false _ 2 2 2 _ _ hx (by omega) (by omega);rw[hv.out,Fg]at hf;have K:=z1.next t2;have T:=z2.next t2;clear hx t2 z3 hv;go_enter Tryz.func18,Tryz.ntmps18;go_wp2_with fail;refine hf.mono ?_;rintro e w2 ⟨v2,rfl,r2,b2⟩;obtain ⟨s2,A2,n2,c2,rfl⟩:=r2.form;have k2:=K.next b2;go_wp2_with (with_reducible refine Al rfl _ _ rfl w.heap.size _ _ _ _ rfl rfl _ _ k2 ?_;intro w3 k3 ho3)
   refine Av rfl rfl k3 rfl ?_;exact ⟨_,rfl,r2.only k2 ho3,AH (T.next b2) (Nat.le_refl _) ho3⟩
end
section
open Go.RowKit
theorem I4 (v:Value) (Z:Int) (k:Nat) (w:World) (hv:BF w v Z k) (hk:k<=1099511627776):Calls Tryz.prog 59 #[v] w (CW Z k w):=by
 obtain ⟨s,A,n,c,xs,rfl,hx,hc,hm,hn,rfl⟩:=hv;obtain ⟨z0,z1,z2,-⟩:=El w #[.bool s,.slice A n c] #[.bool false,.slice none 0 0];have hf:=DU s A n c k xs _ (hx.below z2) hc hm hn hk;go_enter Tryz.func59,Tryz.ntmps59;go_wp2_with fail;refine hf.mono ?_;rintro e w1 ⟨v1,rfl,r1,b1⟩;obtain ⟨s1,A1,n1,c1,rfl⟩:=r1.form;have k1:=z1.next b1;go_wp2_with (with_reducible refine Al rfl _ _ rfl (w.heap.size+1) _ _ _ _ rfl rfl _ _ k1 ?_;intro w3 k3 ho3);refine Av rfl rfl k3 rfl ?_
 exact ⟨_,rfl,r1.only k1 ho3,AH (z2.next b1) (by omega) ho3⟩
theorem An.number {w w':World} {v:Value} {s:Bool} {B:Option Addr} {m d:Nat} {K:Int} {k:Nat} (h:Au w (.agg #[.bool s,.slice B m d]) K k):An w (.agg #[.slice none 0 0,.bool s,.slice B m d]) [] K k:=
 ⟨none,0,0,s,B,m,d,rfl,Cv.nil _ _ _,Nat.le_refl _,by omega,h⟩
theorem Ey (v:Value) (Z:Int) (k:Nat) (w:World) (hv:BF w v Z k) (hk:k<=1099511627776):Calls Tryz.prog 43 #[v] w (Bm [] Z k w):=by
 have hv0:=hv;obtain ⟨s,A,n,c,xs,rfl,-⟩:=hv;obtain ⟨z0,z1,z2,-⟩:=Bh 31 33 w #[.bool s,.slice A n c] #[.slice none 0 0,.bool false,.slice none 0 0];have hf:=I4 _ Z k _ (hv0.below z2) hk;have c0:=AY.c0 z0;have c1:=AY.c1 z0;go_enter Tryz.func43,Tryz.ntmps43;go_wp2_with fail;refine hf.mono ?_;rintro e w1 ⟨v1,rfl,r1,b1⟩;obtain ⟨s1,A1,n1,c1,rfl⟩:=r1.form;have k1:=z1.next b1
 go_wp2_with (with_reducible refine AO rfl _ _ rfl (w.heap.size+1) _ _ _ _ _ _ _ rfl rfl _ _ _ k1 ?_;intro w3 k3 ho3);refine Bw rfl rfl k3 rfl ?_;exact ⟨_,rfl,(An.number r1 (w':=w) (v:=undef)).only k1 ho3,AH (z2.next b1) (by omega) ho3⟩
theorem I5 (q:PV) (k:Nat) (w:World) (hz:BF w q.num q.Z k) (hk:k<=1099511627776):Calls Tryz.prog 114 #[q.agg] w (fun e w'=>e=.returned (.bool (decide (q.Z=0)))/\Below w.heap.size w w'):=by
 obtain ⟨x,s,B,m,d,Z⟩:=q;obtain ⟨z0,z1,-⟩:=AV 59 w #[.int .i64 x,.bool s,.slice B m d];have hs:=Cs _ Z k _ (hz.below z1) hk;unfold BA at hs;have c1:=z0.c1;have c2:=z0.c2;unfold PV.num at hs;dsimp only at hs
 show Calls _ _ #[.agg #[.int .i64 x,.bool s,.slice B m d]] _ _;by_cases h0:Z=0
 · subst h0;rw[show Int.sign 0=0 from rfl]at hs;rw[show decide ((0:Int)=0)=true from rfl];go_enter Tryz.func114,Tryz.ntmps114;go_wp2_with fail;refine hs.mono ?_;rintro e w1 ⟨rfl,b1⟩;go_wp2_with fail;go_ret
   exact ⟨rfl,z1.next b1⟩
 · have h1:(Z.sign==0)=false:=I3 h0;have h2:decide (Z=0)=false:=(by simpa using h0);dsimp only
   rw[h2];generalize Z.sign=q at *;clear h0 h2;go_enter Tryz.func114,Tryz.ntmps114;go_wp2_with fail;refine hs.mono ?_;rintro e w1 ⟨rfl,b1⟩;go_wp2_with fail;go_ret
   exact ⟨rfl,z1.next b1⟩
theorem MY (v u:Value) (N Z:Int) (g j k:Nat) (w:World) (hb:∃s A n c,v=.agg #[.bool s,.slice A n c]/\AY w g #[.bool s,.slice A n c]) (hv:BF w v N j) (hu:BF w u Z k) (hk:k<=137438953472) (hj:j<=137438953472) :
  Calls Tryz.prog 122 #[u,.pointer (some ⟨g,0,none⟩)] w (CW (N*Z) (j+k) w):=by
 obtain ⟨s,A,n,c,rfl,hb⟩:=hb;have hu0:=hu;obtain ⟨t,B,m,d,ys,rfl,-⟩:=hu;obtain ⟨z0,z1,z2,-⟩:=El w #[.bool t,.slice B m d] #[.bool false,.slice none 0 0];have hf:=Sy _ _ N Z j k _ (hv.below z2) (hu0.below z2) hj hk;have q:=hb.next z2;have c0:=z0.c0;have c1:=z0.c1;have d0:=q.c0;have d1:=q.c1;go_enter Tryz.func122,Tryz.ntmps122;go_wp2_with fail;refine hf.mono ?_;rintro e w1 ⟨v1,rfl,r1,b1⟩;obtain ⟨s1,A1,n1,c1,rfl⟩:=r1.form;have k1:=z1.next b1
 go_wp2_with (with_reducible refine Al rfl _ _ rfl (w.heap.size+1) _ _ _ _ rfl rfl _ _ k1 ?_;intro w3 k3 ho3);refine Av rfl rfl k3 rfl ?_;exact ⟨_,rfl,r1.only k1 ho3,AH (z2.next b1) (by omega) ho3⟩
end
section
open Go.Shelf
def Tryz.sortPart_ren:Go.Shelf.Ren:=⟨fun|6=>111|15=>67|14=>145|28=>92|29=>108|20=>163|21=>164|22=>165|23=>166|24=>167|25=>168|26=>169|27=>170|46=>177|47=>141|48=>142|49=>178|50=>179|57=>184|n=>n,fun|22=>27|24=>59|25=>109|3=>3|39=>105|0=>0|53=>83|55=>112|4=>4|46=>142|45=>141|50=>130|5=>5|9=>9|66=>168|70=>172|76=>187|77=>188|n=>n,fun|n=>n⟩
theorem Tryz.sortPart:Go.Proofs.SlLaysF0.n6 Tryz.prog Tryz.sortPart_ren:={
 mixed:=by kernel_rfl
 f6:=⟨Tryz.f111.name,by decide,Tryz.func111.trans (congrArg some (by kernel_rfl))⟩
 f14:=⟨Tryz.f145.name,by decide,Tryz.func145.trans (congrArg some (by kernel_rfl))⟩
 f15:=Tryz.func67.trans (congrArg some (by kernel_rfl))
 f20:=⟨Tryz.f163.name,by decide,Tryz.func163.trans (congrArg some (by kernel_rfl))⟩
 f21:=⟨Tryz.f164.name,by decide,Tryz.func164.trans (congrArg some (by kernel_rfl))⟩
 f22:=⟨Tryz.f165.name,by decide,Tryz.func165.trans (congrArg some (by kernel_rfl))⟩
 f23:=⟨Tryz.f166.name,by decide,Tryz.func166.trans (congrArg some (by kernel_rfl))⟩
 f24:=⟨Tryz.f167.name,by decide,Tryz.func167.trans (congrArg some (by kernel_rfl))⟩
 f25:=⟨Tryz.f168.name,by decide,Tryz.func168.trans (congrArg some (by kernel_rfl))⟩
 f26:=⟨Tryz.f169.name,by decide,Tryz.func169.trans (congrArg some (by kernel_rfl))⟩
 f27:=⟨Tryz.f170.name,by decide,Tryz.func170.trans (congrArg some (by kernel_rfl))⟩
 f28:=Tryz.func92.trans (congrArg some (by kernel_rfl))
 f29:=Tryz.func108.trans (congrArg some (by kernel_rfl))
 f46:=⟨Tryz.f177.name,by decide,Tryz.func177.trans (congrArg some (by kernel_rfl))⟩
 f47:=Tryz.func141.trans (congrArg some (by kernel_rfl))
 f48:=Tryz.func142.trans (congrArg some (by kernel_rfl))
 f49:=⟨Tryz.f178.name,by decide,Tryz.func178.trans (congrArg some (by kernel_rfl))⟩
 f50:=⟨Tryz.f179.name,by decide,Tryz.func179.trans (congrArg some (by kernel_rfl))⟩
 f57:=⟨Tryz.f184.name,by decide,Tryz.func184.trans (congrArg some (by kernel_rfl))⟩
 t0:=Tryz.underlying0
 a0:=Tryz.isAgg0
 z0:=Tryz.sizeOf0
 v0:=Tryz.zeroValue0
 t3:=Tryz.underlying3
 a3:=Tryz.isAgg3
 z3:=Tryz.sizeOf3
 v3:=Tryz.zeroValue3
 t4:=Tryz.underlying4
 a4:=Tryz.isAgg4
 z4:=Tryz.sizeOf4
 v4:=Tryz.zeroValue4
 t5:=Tryz.underlying5
 a5:=Tryz.isAgg5
 z5:=Tryz.sizeOf5
 v5:=Tryz.zeroValue5
 t9:=Tryz.underlying9
 a9:=Tryz.isAgg9
 z9:=Tryz.sizeOf9
 v9:=Tryz.zeroValue9
 t22:=Tryz.underlying27
 a22:=Tryz.isAgg27
 z22:=Tryz.sizeOf27
 v22:=Tryz.zeroValue27
 t25:=Tryz.underlying109
 a25:=Tryz.isAgg109
 z25:=Tryz.sizeOf109
 v25:=Tryz.zeroValue109
 t39:=Tryz.underlying105
 a39:=Tryz.isAgg105
 z39:=Tryz.sizeOf105
 v39:=Tryz.zeroValue105
 t45:=Tryz.underlying141
 a45:=Tryz.isAgg141
 z45:=Tryz.sizeOf141
 v45:=Tryz.zeroValue141
 t46:=Tryz.underlying142
 a46:=Tryz.isAgg142
 z46:=Tryz.sizeOf142
 v46:=Tryz.zeroValue142
 t50:=Tryz.underlying130
 a50:=Tryz.isAgg130
 z50:=Tryz.sizeOf130
 v50:=Tryz.zeroValue130
 t53:=Tryz.underlying83
 a53:=Tryz.isAgg83
 z53:=Tryz.sizeOf83
 v53:=Tryz.zeroValue83
 t55:=Tryz.underlying112
 a55:=Tryz.isAgg112
 z55:=Tryz.sizeOf112
 v55:=Tryz.zeroValue112
 t66:=Tryz.underlying168
 a66:=Tryz.isAgg168
 z66:=Tryz.sizeOf168
 v66:=Tryz.zeroValue168
 t70:=Tryz.underlying172
 a70:=Tryz.isAgg172
 z70:=Tryz.sizeOf172
 v70:=Tryz.zeroValue172
 t76:=Tryz.underlying187
 a76:=Tryz.isAgg187
 z76:=Tryz.sizeOf187
 v76:=Tryz.zeroValue187
 t77:=Tryz.underlying188
 a77:=Tryz.isAgg188
 z77:=Tryz.sizeOf188
 v77:=Tryz.zeroValue188 }
end
end Go.Proofs.YtemfjdedjcjegaaGreatDoor
