/- Texts of one seat, put together: TermMathB Box RefZB. -/
import Derived.Test.YtmedjkhmadfjlaaGreatR12
import Derived.Test.YtmedjkhmadfjlaaGreatR11
set_option linter.unusedVariables false
set_option linter.unusedSimpArgs false
set_option maxRecDepth 100000
set_option maxHeartbeats 16000000
namespace Go.Proofs.YtmedjkhmadfjlaaGreat.Tm
section
def vars (ps:List (Int×Int)):List Int:=(norm ps).map Prod.fst
def Up:Int->List Int->Prop
 |_,[]=>True
 |b,v::vs=>b<v/\Up v vs
theorem Up.gt {b:Int} {vs:List Int} (h:Up b vs):∀v∈vs,b<v:=by
 induction vs generalizing b with
 |nil=>intro v hv;cases hv
 |cons u vs ih=>
  intro v hv;rcases List.mem_cons.1 hv with rfl|hv
  · exact h.1
  · have:=ih h.2 v hv;have:=h.1;omega
theorem TH {b b':Int} {us vs:List Int} (h:Up b us) (h':Up b' vs) (he:∀v,v∈us↔v∈vs):us=vs:=by
 induction us generalizing b b' vs with
 |nil=>
  cases vs with
  |nil=>rfl
  |cons v vs=>exact absurd ((he v).2 (List.mem_cons_self ..)) (by simp)
 |cons u us ih=>
  cases vs with
  |nil=>exact absurd ((he u).1 (List.mem_cons_self ..)) (by simp)
  |cons v vs=>
   have huv:u=v:=by
    have h1:=(he u).1 (List.mem_cons_self ..);have h2:=(he v).2 (List.mem_cons_self ..);rcases List.mem_cons.1 h1 with e|h1
    · exact e
    · rcases List.mem_cons.1 h2 with e|h2
      · exact e.symm
      · have:=h'.2.gt u h1;have:=h.2.gt v h2;omega
   subst huv;rw[ih h.2 h'.2 (fun w=>by
    have h1:=he w;rw[List.mem_cons,List.mem_cons]at h1;constructor
    · intro hw;have:=h.2.gt w hw;rcases h1.1 (Or.inr hw) with e|h2
      · omega
      · exact h2
    · intro hw;have:=h'.2.gt w hw;rcases h1.2 (Or.inr hw) with e|h2
      · omega
      · exact h2)]
theorem BI.up {b:Int} {ps:List (Int×Int)} (h:BI b ps):Up b (ps.map Prod.fst):=by
 induction ps generalizing b with
 |nil=>trivial
 |cons p ps ih=>obtain ⟨u,c⟩:=p;exact ⟨h.1,ih h.2.2⟩
theorem BI.mem_iff {b:Int} {ps:List (Int×Int)} (h:BI b ps) (hb:-1<=b) (v:Int):v∈ps.map Prod.fst↔AB ps v≠0:=by
 induction ps generalizing b with
 |nil=>simp[AB]
 |cons p ps ih=>
  obtain ⟨u,c⟩:=p;have h1:=h.1;have h2:=h.2.1;have h3:=h.2.2;by_cases hv:u=v
  · subst hv;rw[h.head (by omega)];simp[h2]
  · rw[List.map_cons,List.mem_cons,AB,if_neg (by omega),Int.zero_add,<-ih h3 (by omega)];constructor
    · rintro (e|e)
      · exact absurd e.symm hv
      · exact e
    · exact Or.inr
theorem TI (ps:List (Int×Int)):Up (-1) (vars ps):=(Cj ps).up
theorem Sa (ps:List (Int×Int)) (v:Int):v∈vars ps↔AB ps v≠0:=by unfold vars;rw[(Cj ps).mem_iff (Int.le_refl _),DJ]
theorem BI.as_map {b:Int} {ps:List (Int×Int)} (h:BI b ps) (hb:-1<=b):ps=(ps.map Prod.fst).map fun v=>(v,AB ps v):=by
 induction ps generalizing b with
 |nil=>rfl
 |cons p ps ih=>
  obtain ⟨u,c⟩:=p;have h1:=h.1;have h3:=h.2.2;rw[List.map_cons,List.map_cons];have e1:AB ((u,c)::ps) u=c:=h.head (by omega);show (u,c)::ps=(u,AB ((u,c)::ps) u)::_;rw[e1];congr 1
  have h4:=ih h3 (by omega);have h5:((ps.map Prod.fst).map fun v=>(v,AB ((u,c)::ps) v))=((ps.map Prod.fst).map fun v=>(v,AB ps v)):=by apply List.map_congr_left;intro v hv;have:=h3.up.gt v hv;rw[AB,if_neg (by omega),Int.zero_add]
  rw[h5];exact h4
theorem Sb (ps:List (Int×Int)):norm ps=(vars ps).map fun v=>(v,AB ps v):=by have h:=(Cj ps).as_map (Int.le_refl _);unfold vars;rw[h];simp only[List.map_map];apply List.map_congr_left;intro p hp;simp[DJ]
def FC (v:Int):List Int->List Int
 |[]=>[v]
 |u::us=>if v<u then v::u::us else if v=u then u::us else u::FC v us
theorem TJ {b v:Int} {us:List Int} (h:Up b us) (hv:b<v):Up b (FC v us):=by
 induction us generalizing b with
 |nil=>exact ⟨hv,trivial⟩
 |cons u us ih=>
  unfold FC;split
  · exact ⟨hv,by assumption,h.2⟩
  · split
    · exact h
    · exact ⟨h.1,ih h.2 (by omega)⟩
theorem Sc (v:Int) (us:List Int) (x:Int):x∈FC v us↔x=v\/x∈us:=by
 induction us with
 |nil=>simp[FC]
 |cons u us ih=>
  unfold FC;split
  · simp
  · split
    · rename_i h;subst h;simp
    · rw[List.mem_cons,ih,List.mem_cons];constructor
      · rintro (h|h|h)
        · exact Or.inr (Or.inl h)
        · exact Or.inl h
        · exact Or.inr (Or.inr h)
      · rintro (h|h|h)
        · exact Or.inr (Or.inl h)
        · exact Or.inl h
        · exact Or.inr (Or.inr h)
def JF (ps:List (Int×Int)):List (Int×Int)->List Int->List Int
 |[],acc=>acc
 |(u,_)::qs,acc=>JF ps qs (if AB ps u=0 then acc else FC u acc)
theorem Oj (ps qs rs:List (Int×Int)) (acc:List Int):JF ps (qs++rs) acc=JF ps rs (JF ps qs acc):=by
 induction qs generalizing acc with
 |nil=>rfl
 |cons q qs ih=>obtain ⟨u,c⟩:=q;exact ih _
theorem LV (ps:List (Int×Int)):∀(qs:List (Int×Int)) (acc:List Int),Up (-1) acc->Up (-1) (JF ps qs acc)
 |[],acc,h=>h
 |(u,c)::qs,acc,h=>by
  unfold JF;split
  · exact LV ps qs acc h
  · rename_i hc
    refine LV ps qs _ (TJ h ?_);rcases Int.lt_or_le u 0 with hu|hu
    · exact absurd (RX ps u hu) hc
    · omega
theorem Po (ps:List (Int×Int)):∀(qs:List (Int×Int)) (acc:List Int) (x:Int),x∈JF ps qs acc↔x∈acc\/(x∈qs.map Prod.fst/\AB ps x≠0)
 |[],acc,x=>by simp[JF]
 |(u,c)::qs,acc,x=>by
  unfold JF;rw[Po ps qs];split
  · rename_i h0
    constructor
    · rintro (h|⟨h1,h2⟩)
      · exact Or.inl h
      · exact Or.inr ⟨List.mem_cons_of_mem _ h1,h2⟩
    · rintro (h|⟨h1,h2⟩)
      · exact Or.inl h
      · rcases List.mem_cons.1 h1 with e|h1
        · have e':x=u:=e;subst e';exact absurd h0 h2
        · exact Or.inr ⟨h1,h2⟩
  · rename_i h0
    rw[Sc];constructor
    · rintro ((h|h)|⟨h1,h2⟩)
      · exact Or.inr ⟨h▸List.mem_cons_self ..,h▸h0⟩
      · exact Or.inl h
      · exact Or.inr ⟨List.mem_cons_of_mem _ h1,h2⟩
    · rintro (h|⟨h1,h2⟩)
      · exact Or.inl (Or.inr h)
      · rcases List.mem_cons.1 h1 with e|h1
        · exact Or.inl (Or.inl e)
        · exact Or.inr ⟨h1,h2⟩
theorem MU (ps:List (Int×Int)) (v:Int) (h:AB ps v≠0):v∈ps.map Prod.fst:=by
 induction ps with
 |nil=>exact absurd rfl h
 |cons p ps ih=>
  obtain ⟨u,c⟩:=p;by_cases hu:u=v
  · subst hu;exact List.mem_cons_self ..
  · rw[AB,if_neg (by omega),Int.zero_add]at h;exact List.mem_cons_of_mem _ (ih h)
theorem Sd (ps:List (Int×Int)):JF ps ps []=vars ps:=by
 refine TH (LV ps ps [] trivial) (TI ps) (fun v=>?_);rw[Po,Sa];constructor
 · rintro (h|h)
   · cases h
   · exact h.2
 · intro h;exact Or.inr ⟨MU ps v h,h⟩
def push (r:List (Int×Int)) (v c:Int):List (Int×Int):=
 if v<0 then r else match r.getLast? with
  |none=>[(v,c)]
  |some (u,d)=>if u=v then r.dropLast++[(u,d+c)] else r++[(v,c)]
def Ea:List (Int×Int)->List (Int×Int)->List (Int×Int)
 |r,[]=>r
 |r,(v,c)::ps=>Ea (push r v c) ps
theorem Ol (r ps:List (Int×Int)) (v c:Int):Ea r (ps++[(v,c)])=push (Ea r ps) v c:=by
 induction ps generalizing r with
 |nil=>rfl
 |cons p ps ih=>obtain ⟨u,d⟩:=p;exact ih _
theorem Qm (r:List (Int×Int)) (v c w:Int):AB (push r v c) w=AB r w+AB [(v,c)] w:=by
 unfold push;split
 · rename_i h
   rw[show AB [(v,c)] w=0 by simp[AB];omega,Int.add_zero]
 · split
   · rename_i h
     rw[List.getLast?_eq_none_iff.1 h,FP,Int.zero_add]
   · rename_i u d h
     obtain ⟨t,rfl⟩:∃t,r=t++[(u,d)]:=List.getLast?_eq_some_iff.1 h;split
     · rename_i hu;subst hu
       rw[List.dropLast_concat,CK,CK];simp only[AB];split<;>omega
     · rw[CK]
theorem Om (r ps:List (Int×Int)) (w:Int):AB (Ea r ps) w=AB r w+AB ps w:=by
 induction ps generalizing r with
 |nil=>simp[Ea,AB]
 |cons p ps ih=> obtain ⟨v,c⟩:=p;rw[Ea,ih,Qm,show ((v,c)::ps)=[(v,c)]++ps from rfl,CK];omega
def UY:List (Int×Int)->Int->Prop
 |r,b=>Up (-1) (r.map Prod.fst)/\∀p∈r,p.1<=b
theorem Pp {b v:Int}:∀{us:List Int},Up b us->(∀u∈us,u<v)->b<v->Up b (us++[v])
 |[],_,_,hb=>⟨hb,trivial⟩
 |u::us,h,hv,_=>⟨h.1,Pp h.2 (fun x hx=>hv x (List.mem_cons_of_mem _ hx)) (hv u (List.mem_cons_self ..))⟩
theorem Qn {r:List (Int×Int)} {b v c:Int} (h:UY r b) (hv:b<=v):UY (push r v c) v:=by
 unfold push;split
 · exact ⟨h.1,fun p hp=>by have:=h.2 p hp;omega⟩
 · split
   · exact ⟨⟨by omega,trivial⟩,fun p hp=>by simp at hp;subst hp;exact Int.le_refl _⟩
   · rename_i u d hl
     obtain ⟨t,rfl⟩:∃t,r=t++[(u,d)]:=List.getLast?_eq_some_iff.1 hl;split
     · rename_i hu;subst hu
       refine ⟨?_,fun p hp=>?_⟩
       · have:=h.1;simpa using this
       · rw[List.dropLast_concat]at hp;rcases List.mem_append.1 hp with hp|hp
         · have:=h.2 p (List.mem_append_left _ hp);omega
         · simp at hp;subst hp;exact Int.le_refl _
     · rename_i hu
       refine ⟨?_,fun p hp=>?_⟩
       · rw[List.map_append];refine Pp h.1 (fun x hx=>?_) (by omega);obtain ⟨p,hp,rfl⟩:=List.mem_map.1 hx;have h1:=h.2 p hp;have h2:=h.2 (u,d) (by simp);show p.1<v;rcases Int.lt_or_le p.1 v with h3|h3
         · exact h3
         · exfalso;have h4:p.1=v:=(by omega);have h6:b=v:=(by omega);have h7:u<v:=(by have:u<=b:=h2;omega);have h8:=h.1;rw[List.map_append]at h8;have h9:∀(us:List Int) (b0:Int),Up b0 (us++[u])->∀x∈us,x<u:=by
             intro us;induction us with
             |nil=>intro _ _ x hx;cases hx
             |cons y us ih=>
              intro b0 hU x hx;rcases List.mem_cons.1 hx with rfl|hx
              · exact hU.2.gt u (by simp)
              · exact ih y hU.2 x hx
           rcases List.mem_append.1 hp with hp|hp
           · have:=h9 _ _ h8 p.1 (List.mem_map_of_mem hp);omega
           · simp at hp;subst hp;omega
       · rcases List.mem_append.1 hp with hp|hp
         · have:=h.2 p hp;omega
         · simp at hp;subst hp;exact Int.le_refl _
def JG:Int->List (Int×Int)->Prop
 |_,[]=>True
 |b,(v,_)::ps=>b<=v/\JG v ps
theorem JH {r:List (Int×Int)} {b:Int}:∀{ps:List (Int×Int)},UY r b->JG b ps->Up (-1) ((Ea r ps).map Prod.fst)
 |[],h,_=>h.1
 |(v,c)::ps,h,hs=>by
  rw[Ea];exact JH (Qn h hs.1) hs.2
def GH (ps:List (Int×Int)):List (Int×Int):=ps.filter fun p=>decide (p.2≠0)
theorem MV (ps:List (Int×Int)) (v:Int):AB (GH ps) v=AB ps v:=by
 induction ps with
 |nil=>rfl
 |cons p ps ih=>
  obtain ⟨u,c⟩:=p;unfold GH at *;rw[List.filter_cons];split
  · rw[AB,AB,ih]
  · rename_i h
    have h0:c=0:=(by simpa using h);rw[AB,ih,h0];simp
theorem KN {b:Int} {ps:List (Int×Int)} (h:Up b (ps.map Prod.fst)):BI b (GH ps):=by
 induction ps generalizing b with
 |nil=>trivial
 |cons p ps ih=>
  obtain ⟨u,c⟩:=p;unfold GH at *;rw[List.filter_cons];split
  · rename_i h0
    exact ⟨h.1,by simpa using h0,ih h.2⟩
  · exact (ih h.2).mono (by have:=h.1;omega)
theorem UZ {ps qs:List (Int×Int)} {b:Int} (hp:qs.Perm ps) (hs:JG b qs):GH (Ea [] qs)=norm ps:=by refine Jc (KN (JH (b:=b) ⟨trivial,fun p hp=>by cases hp⟩ hs)) (fun v=>?_);rw[MV,Om,FP,Int.zero_add,Qi hp]
def E5 (f:Nat->Int):Nat->Int
 |0=>0
 |n+1=>E5 f n+f n
theorem Se (f g:Nat->Int) (n:Nat):E5 (fun i=>f i+g i) n=E5 f n+E5 g n:=by
 induction n with
 |zero=>rfl
 |succ n ih=>rw[E5,E5,E5,ih];omega
theorem Lo (n:Nat):E5 (fun _=>0) n=0:=by
 induction n with
 |zero=>rfl
 |succ n ih=>rw[E5,ih];rfl
theorem Ft {f g:Nat->Int} {n:Nat} (h:∀i,i<n->f i=g i):E5 f n=E5 g n:=by
 induction n with
 |zero=>rfl
 |succ n ih=>rw[E5,E5,ih (fun i hi=>h i (by omega)),h n (by omega)]
theorem Sf (k:Nat) (x:Int) (n:Nat):E5 (fun i=>if k=i then x else 0) n=if k<n then x else 0:=by
 induction n with
 |zero=>simp[E5]
 |succ n ih=>
  rw[E5,ih];by_cases h1:k<n
  · rw[if_pos h1,if_neg (by omega),if_pos (by omega),Int.add_zero]
  · by_cases h2:k=n
    · rw[if_neg h1,if_pos h2,if_pos (by omega),Int.zero_add]
    · rw[if_neg h1,if_neg h2,if_neg (by omega)];rfl
theorem Sg (vals:List Int) (ps:List (Int×Int)):val vals ps=E5 (fun i=>AB ps i*vals.getD i 0) vals.length:=by
 induction ps with
 |nil=>
  rw[val,<-Lo vals.length];exact Ft (fun i _=>by simp[AB])
 |cons p ps ih=>
  obtain ⟨u,c⟩:=p;rw[val,ih];have e:E5 (fun i=>AB ((u,c)::ps) i*vals.getD i 0) vals.length=E5 (fun i=>(if u=(i:Int) then c*vals.getD i 0 else 0)+AB ps i*vals.getD i 0) vals.length:=by
    refine Ft (fun i _=>?_);rw[AB,Int.add_mul];by_cases h:u=(i:Int)
    · rw[if_pos ⟨h,by omega⟩,if_pos h]
    · rw[if_neg (fun hh=>h hh.1),if_neg h,Int.zero_mul]
  rw[e,Se];congr 1
  by_cases hu:0<=u
  · obtain ⟨k,rfl⟩:∃k:Nat,u=(k:Int):=⟨u.toNat,by omega⟩;rw[if_pos hu,Int.toNat_natCast];have e2:E5 (fun i=>if (k:Int)=(i:Int) then c*vals.getD i 0 else 0) vals.length=E5 (fun i=>if k=i then c*vals.getD k 0 else 0) vals.length:=by
      refine Ft (fun i _=>?_);by_cases h:k=i
      · subst h;simp
      · rw[if_neg (by omega),if_neg h]
    rw[e2,Sf];split
    · rfl
    · rename_i h
      rw[List.getD_eq_getElem?_getD,List.getElem?_eq_none (by omega)];simp
  · rw[if_neg hu];refine Eq.trans (Lo vals.length).symm ?_;exact Ft (fun i _=>by rw[if_neg (by omega)])
def AP (a b:Int):Int:=if a<b then -1 else if b<a then 1 else 0
def cmpL:List (Int×Int)->List (Int×Int)->Int
 |[],[]=>0
 |[],_::_=>-1
 |_::_,[]=>1
 |(u,c)::ps,(v,d)::qs=>if AP u v≠0 then AP u v else if AP c d≠0 then AP c d else cmpL ps qs
def E4 (a b:Int):Int:=if a≠0 then a else b
theorem CE {a b:Int}:AP a b=0↔a=b:=by
 unfold AP;split
 · omega
 · split<;>omega
theorem JI (a b:Int):AP b a=- AP a b:=by
 unfold AP;rcases Int.lt_trichotomy a b with h|h|h
 · rw[if_neg (by omega),if_pos h,if_pos h];rfl
 · subst h;simp
 · rw[if_pos h,if_neg (by omega),if_pos h]
theorem DK:∀{ps qs:List (Int×Int)},cmpL ps qs=0↔ps=qs
 |[],[]=>by simp[cmpL]
 |[],_::_=>by simp[cmpL]
 |_::_,[]=>by simp[cmpL]
 |(u,c)::ps,(v,d)::qs=>by
  unfold cmpL;by_cases h1:AP u v=0
  · rw[if_neg (by simp[h1])];by_cases h2:AP c d=0
    · rw[if_neg (by simp[h2]),DK,CE.1 h1,CE.1 h2];simp
    · rw[if_pos h2];constructor
      · intro h;exact absurd h h2
      · intro h;injection h with h _;injection h with _ h;exact absurd (CE.2 h) h2
  · rw[if_pos h1];constructor
    · intro h;exact absurd h h1
    · intro h;injection h with h _;injection h with h _;exact absurd (CE.2 h) h1
theorem MW:∀(ps qs:List (Int×Int)),cmpL qs ps=- cmpL ps qs
 |[],[]=>rfl
 |[],_::_=>rfl
 |_::_,[]=>rfl
 |(u,c)::ps,(v,d)::qs=>by
  unfold cmpL;rw[JI u v,JI c d,MW ps qs];by_cases h1:AP u v=0
  · by_cases h2:AP c d=0
    · simp[h1,h2]
    · simp[h1,h2]
  · simp[h1]
def Hl (ps qs:List (Int×Int)) (K M:Int):Int:=E4 (cmpL (norm ps) (norm qs)) (AP K M)
theorem LW {n:Int} (hn:n≠0) {b:Int} {ps:List (Int×Int)} (h:BI b ps):BI b (ps.map fun p=>(p.1,n*p.2)):=by
 induction ps generalizing b with
 |nil=>trivial
 |cons p ps ih=> obtain ⟨u,c⟩:=p;exact ⟨h.1,Int.mul_ne_zero hn h.2.1,ih h.2.2⟩
theorem Fv {n:Int} (hn:n≠0) (ps:List (Int×Int)):norm (ps.map fun p=>(p.1,n*p.2))=(norm ps).map fun p=>(p.1,n*p.2):=
 (Jc (LW hn (Cj ps)) (fun v=>by rw[JE,JE,DJ])).symm
theorem Gg (ps:List (Int×Int)):norm (norm ps)=norm ps:=LU (Cj ps)
theorem ED {ps ps' qs qs':List (Int×Int)} (h:∀v,AB ps v=AB ps' v) (h':∀v,AB qs v=AB qs' v):norm (ps++qs)=norm (ps'++qs'):=
 Qj (fun v=>by rw[CK,CK,h,h'])
end
end Go.Proofs.YtmedjkhmadfjlaaGreat.Tm
namespace Go.Proofs.YtmedjkhmadfjlaaGreat
section
open Go.RowKit
def AK (T:TypeId) (w:World) (g:Nat) (cs:Array Value):Prop:=w.heap[g]?=some (.cells cs T (0,0))
section
variable {T:TypeId} {w w':World} {g k:Nat} {cs:Array Value} {x y z:Value}
theorem AK.lt (h:AK T w g cs):g<w.heap.size:=(Array.getElem?_eq_some_iff.1 h).1
theorem AK.cell (h:AK T w g cs) (i:Nat) (v:Value) (hv:cs[i]?=some v):w.cell? ⟨g,i,none⟩=some v:=by rw[cell_of_row w g i _ _ _ h];exact hv
theorem AK.c0 (h:AK T w g #[x,y,z]):w.cell? ⟨g,0,none⟩=some x:=h.cell 0 x rfl
theorem AK.c1 (h:AK T w g #[x,y,z]):w.cell? ⟨g,1,none⟩=some y:=h.cell 1 y rfl
theorem AK.c2 (h:AK T w g #[x,y,z]):w.cell? ⟨g,2,none⟩=some z:=h.cell 2 z rfl
theorem AK.fr (h:AK T w g cs) (i:Nat):w.frozen? ⟨g,i,none⟩=false:=by unfold AK at h;simp[World.frozen?,h]
theorem AK.below {B:Nat} (h:AK T w g cs) (hb:Below B w w') (hg:g<B):AK T w' g cs:=(hb.block g hg).trans h
theorem AK.next (h:AK T w g cs) (hb:Below w.heap.size w w'):AK T w' g cs:=h.below hb h.lt
theorem AK.new (T:TypeId) (w:World) (cs:Array Value):AK T (w.alloc (.cells cs T)) w.heap.size cs:=heap_alloc_new w _
theorem AK.alloc (h:AK T w g cs) (o:Obj):AK T (w.alloc o) g cs:=h.next (Af w o)
theorem AK.drew (h:AK T w g cs):AK T w.drew g cs:=h
theorem AK.other (h:AK T w g cs) (ho:AA k w w') (hne:g≠k):AK T w' g cs:=(ho.block g h.lt (fun hh=>hne (by injection hh))).trans h
theorem AK.grown {row:Option Nat} (h:AK T w g cs) (ho:w.grownBy w' row) (hne:some g≠row):AK T w' g cs:=(ho.block g h.lt hne).trans h
theorem AK.set_0 (h:AK T w g #[x,y,z]) (x':Value):AK T (w.setCell ⟨g,0,none⟩ x') g #[x',y,z]:=by unfold AK at h ⊢;simp[World.setCell,Array.getElem?_modify,h]
theorem Lp (w:World) (g i:Nat) (x:Value):AA g w (w.setCell ⟨g,i,none⟩ x):=(AA.refl g w).setCell i x
theorem AK.kp (h:AK T w g cs) (hn:FB cs.toList) (ho:AA g w w'):Kp w w':=Kp.block h hn ho
theorem WA (hx:NL x) (hy:NL y) (hz:NL z):FB (#[x,y,z]:Array Value).toList:=by intro u hu;simp at hu;rcases hu with rfl|rfl|rfl<;>assumption
theorem WC (hx:NL x) (hy:NL y):FB (#[x,y]:Array Value).toList:=by intro u hu;simp at hu;rcases hu with rfl|rfl<;>assumption
theorem LZ {Z:Int} (h:Z≠0):(Z.sign==0)=false:=by simpa using h
theorem AH.box {cs:Array Value} (h:AH w g cs):AK 38 w g cs:=h
theorem Bh (T:TypeId) (w:World) (X:Array Value):AK T (w.alloc (.cells X T)) w.heap.size X/\Below w.heap.size w (w.alloc (.cells X T))/\(w.alloc (.cells X T)).heap.size=w.heap.size+1:=
 ⟨AK.new T w X,Af w _,size_alloc w _⟩
theorem Bi (T U:TypeId) (w:World) (X Y:Array Value):AK T ((w.alloc (.cells X T)).alloc (.cells Y U)) w.heap.size X/\AK U ((w.alloc (.cells X T)).alloc (.cells Y U)) (w.heap.size+1) Y /\
  Below w.heap.size w ((w.alloc (.cells X T)).alloc (.cells Y U))/\((w.alloc (.cells X T)).alloc (.cells Y U)).heap.size=w.heap.size+2:=by
 obtain ⟨h1,h2,h3⟩:=Bh T w X;obtain ⟨k1,k2,k3⟩:=Bh U (w.alloc (.cells X T)) Y;rw[h3]at k1 k3;exact ⟨h1.alloc _,k1,h2.next (Af _ _),by omega⟩
theorem Cc (T U V:TypeId) (w:World) (X Y Z:Array Value):AK T (((w.alloc (.cells X T)).alloc (.cells Y U)).alloc (.cells Z V)) w.heap.size X/\AK U (((w.alloc (.cells X T)).alloc (.cells Y U)).alloc (.cells Z V)) (w.heap.size+1) Y /\
  AK V (((w.alloc (.cells X T)).alloc (.cells Y U)).alloc (.cells Z V)) (w.heap.size+1+1) Z/\Below w.heap.size w (((w.alloc (.cells X T)).alloc (.cells Y U)).alloc (.cells Z V))/\(((w.alloc (.cells X T)).alloc (.cells Y U)).alloc (.cells Z V)).heap.size=w.heap.size+3:=by
 obtain ⟨h1,h2,h3,h4⟩:=Bi T U w X Y;obtain ⟨k1,k2,k3⟩:=Bh V ((w.alloc (.cells X T)).alloc (.cells Y U)) Z;rw[h4]at k1 k3;have e2:w.heap.size+2=w.heap.size+1+1:=rfl;rw[e2]at k1;exact ⟨h1.alloc _,h2.alloc _,k1,h3.next (Af _ _),by omega⟩
end
theorem CQ {P:Program} {w:World} {ops:Array Oper} {rest:List Oper} {o:Oper} {a:Act} {Q:Exit->Act->World->Prop} (hgd:o.guard=none) (T:TypeId) (x y:Operand) (ho:o.op=.store T x y)
  (g:Nat) (cells:Array Value) (hx:a.eval x=.pointer (some ⟨g,0,none⟩)) (hy:a.eval y=.agg cells) (old:Array Value) (hb:AK T w g old) (hi:(P.info? T).map (·.size)=some cells.size) (hold:old.size=cells.size) (h1:cells.all (·.oneCell')=true)
  (h:∀w',AK T w' g cells->AA g w w'->wpList P ops Q rest (a.put o.dst undef) w'):wpList P ops Q (o::rest) a w:=by
 refine wpList_store_row hgd T x y ho g cells hx hy T old hb hi hold h1 ?_;refine h _ ?_ (Dl w g _);exact setRow_heap w g old cells _ _ hb
theorem Be {w:World} {ops:Array Oper} {rest:List Oper} {o:Oper} {a:Act} {Q:Exit->Act->World->Prop} (hgd:o.guard=none) (x y:Operand) (ho:o.op=.store 40 x y)
  (g:Nat) (s:Bool) (A B:Option Addr) (n c m d:Nat) (hx:a.eval x=.pointer (some ⟨g,0,none⟩)) (hy:a.eval y=.agg #[.slice A n c,.bool s,.slice B m d]) (u v z:Value) (hb:AK 40 w g #[u,v,z])
  (h:∀w',AK 40 w' g #[.slice A n c,.bool s,.slice B m d]->AA g w w'->wpList Tryz.prog ops Q rest (a.put o.dst undef) w'):wpList Tryz.prog ops Q (o::rest) a w:=
 CQ hgd 40 x y ho g _ hx hy _ hb (by kernel_rfl) rfl (by simp[Value.oneCell']) h
theorem BJ {fn:Func} {R:Ending->World->Prop} {a:Act} {w:World} {g p:Nat} {x y z:Value} (hres:fn.results=#[.cell p 40]) (hp:a.tmps.getD p undef=.pointer (some ⟨g,0,none⟩))
  (hb:AK 40 w g #[x,y,z]) (hd:a.defers=[]) (hR:R (.returned (.agg #[x,y,z])) w):bodyPost Tryz.prog fn R .ret a w:=
 bodyPost_ret (results_cell_row hres _ _ g _ #[x,y,z] _ _ hp hb Tryz.underlying40 rfl (by kernel_rfl)) hd hR
def FE (w:World) (A:Option Addr) (n:Nat) (L:List (Int×Int)) (k:Nat):Prop:=∃ps,AJ w A n ps k/\Cl ps=L
def CY (w:World) (A:Option Addr) (n:Nat) (L:List (Int×Int)) (k:Nat):Prop:=∃ps,AJ w A n ps k/\Cl ps=L/\∀p∈ps,Au w p.num p.Z k
def D9 (w:World) (v:Value) (L:List (Int×Int)) (K:Int) (k:Nat):Prop:=∃A n c s B m d,v=.agg #[.slice A n c,.bool s,.slice B m d]/\FE w A n L k/\n<=c/\c<=9223372036854775807/\BO w (.agg #[.bool s,.slice B m d]) K k
def Aw (w:World) (v:Value) (L:List (Int×Int)) (K:Int) (k:Nat):Prop:=∃A n c s B m d,v=.agg #[.slice A n c,.bool s,.slice B m d]/\CY w A n L k/\n<=c/\c<=9223372036854775807/\Au w (.agg #[.bool s,.slice B m d]) K k
section
variable {w w':World} {A:Option Addr} {n k j:Nat} {L:List (Int×Int)} {K:Int} {v:Value}
theorem FE.below (h:FE w A n L k) (hb:Below w.heap.size w w'):FE w' A n L k:=by obtain ⟨ps,h1,h2⟩:=h;exact ⟨ps,h1.below hb,h2⟩
theorem CY.below (h:CY w A n L k) (hb:Below w.heap.size w w'):CY w' A n L k:=by obtain ⟨ps,h1,h2,h3⟩:=h;exact ⟨ps,h1.below hb,h2,fun p hp=>(h3 p hp).below hb⟩
theorem D9.below (h:D9 w v L K k) (hb:Below w.heap.size w w'):D9 w' v L K k:=by obtain ⟨A,n,c,s,B,m,d,e,h1,h2,h3,h4⟩:=h;exact ⟨A,n,c,s,B,m,d,e,h1.below hb,h2,h3,h4.below hb⟩
theorem Aw.below (h:Aw w v L K k) (hb:Below w.heap.size w w'):Aw w' v L K k:=by obtain ⟨A,n,c,s,B,m,d,e,h1,h2,h3,h4⟩:=h;exact ⟨A,n,c,s,B,m,d,e,h1.below hb,h2,h3,h4.below hb⟩
theorem FE.mono (h:FE w A n L k) (hj:k<=j):FE w A n L j:=by obtain ⟨ps,h1,h2⟩:=h;exact ⟨ps,h1.mono hj,h2⟩
theorem D9.mono (h:D9 w v L K k) (hj:k<=j):D9 w v L K j:=by obtain ⟨A,n,c,s,B,m,d,e,h1,h2,h3,h4⟩:=h;exact ⟨A,n,c,s,B,m,d,e,h1.mono hj,h2,h3,h4.mono hj⟩
theorem Au.mono (h:Au w v K k) (hj:k<=j):Au w v K j:=by obtain ⟨A,n,c,rfl,h1,h2,h3,h4⟩:=h;exact ⟨A,n,c,rfl,h1,h2,h3,by omega⟩
theorem CY.mono (h:CY w A n L k) (hj:k<=j):CY w A n L j:=by obtain ⟨ps,h1,h2,h3⟩:=h;exact ⟨ps,h1.mono hj,h2,fun p hp=>(h3 p hp).mono hj⟩
theorem Aw.mono (h:Aw w v L K k) (hj:k<=j):Aw w v L K j:=by obtain ⟨A,n,c,s,B,m,d,e,h1,h2,h3,h4⟩:=h;exact ⟨A,n,c,s,B,m,d,e,h1.mono hj,h2,h3,h4.mono hj⟩
theorem CY.in_ (h:CY w A n L k):FE w A n L k:=by obtain ⟨ps,h1,h2,_⟩:=h;exact ⟨ps,h1,h2⟩
theorem Aw.in_ (h:Aw w v L K k):D9 w v L K k:=by obtain ⟨A,n,c,s,B,m,d,e,h1,h2,h3,h4⟩:=h;exact ⟨A,n,c,s,B,m,d,e,h1.in_,h2,h3,h4.in_⟩
theorem Aw.form (h:Aw w v L K k):∃A n c s B m d,v=.agg #[.slice A n c,.bool s,.slice B m d]:=by obtain ⟨A,n,c,s,B,m,d,e,_⟩:=h;exact ⟨A,n,c,s,B,m,d,e⟩
theorem FE.len (h:FE w A n L k):L.length=n:=by obtain ⟨ps,h1,h2⟩:=h;rw[<-h2,Cl,List.length_map];exact h1.1
theorem CY.len (h:CY w A n L k):L.length=n:=h.in_.len
theorem CY.nil (w:World) (A:Option Addr) (k:Nat):CY w A 0 [] k:=⟨[],AJ.nil _ _ _,rfl,fun p hp=>by cases hp⟩
theorem AJ.keep {ps:List PV} {g:Nat} (h:AJ w A n ps k) (ho:AA g w w') (hk:Kp w w') (ha:0<n->Apart A g):AJ w' A n ps k:=by refine ⟨h.1,fun hn=>?_,fun p hp=>(h.2.2 p hp).kp hk⟩;obtain ⟨b,o,e,hc⟩:=h.2.1 hn;refine ⟨b,o,e,fun j u hu=>?_⟩;have h1:=hc j u hu;have hne:b≠g:=ha hn ⟨b,o,none⟩ e;exact ho.gb.cell h1 (fun hh=>hne (by injection hh))
theorem FE.keep {g:Nat} (h:FE w A n L k) (ho:AA g w w') (hk:Kp w w') (ha:0<n->Apart A g):FE w' A n L k:=by obtain ⟨ps,h1,h2⟩:=h;exact ⟨ps,h1.keep ho hk ha,h2⟩
theorem CY.keep {g:Nat} (h:CY w A n L k) (ho:AA g w w') (hk:Kp w w') (ha:0<n->Apart A g):CY w' A n L k:=by obtain ⟨ps,h1,h2,h3⟩:=h;exact ⟨ps,h1.keep ho hk ha,h2,fun p hp=>(h3 p hp).kp hk⟩
theorem AJ.offTerm {ps:List PV} {g:Nat} {x y z:Value} (h:AJ w A n ps k) (hb:AK 40 w g #[x,y,z]) (hx:∀i,x≠.int .i64 i) (hy:∀i,y≠.int .i64 i) (hz:∀i,z≠.int .i64 i):0<n->Apart A g:=by
 intro hn ad had he;obtain ⟨b,o,e,hc⟩:=h.2.1 hn;have hl:0<ps.length:=by rw[h.1];exact hn
 obtain ⟨g0,-,-⟩:=flat_get ps 0 ps[0] (List.getElem?_eq_getElem hl);have h0:=hc 0 _ g0;rw[had]at e;injection e with e
 subst e;have he':b=g:=he;subst he';rw[cell_of_row w b _ _ _ _ hb]at h0;match o,h0 with
 |0,h0=>simp at h0;exact hx _ h0
 |1,h0=>simp at h0;exact hy _ h0
 |2,h0=>simp at h0;exact hz _ h0
 |o+3,h0=>simp at h0
theorem FE.offTerm {g m c d:Nat} {B C:Option Addr} {s:Bool} {q:Nat} (h:FE w A n L k) (hb:AK 40 w g #[.slice B m c,.bool s,.slice C q d]):0<n->Apart A g:=by obtain ⟨ps,h1,h2⟩:=h;exact h1.offTerm hb (fun i h=>by cases h) (fun i h=>by cases h) (fun i h=>by cases h)
theorem CY.offTerm {g m c d:Nat} {B C:Option Addr} {s:Bool} {q:Nat} (h:CY w A n L k) (hb:AK 40 w g #[.slice B m c,.bool s,.slice C q d]):0<n->Apart A g:=h.in_.offTerm hb
theorem Te (A B:Option Addr) (n c m d:Nat) (s:Bool):FB (#[.slice A n c,.bool s,.slice B m d]:Array Value).toList:=WA (NL.slice _ _ _) (NL.bool _) (NL.slice _ _ _)
theorem Aw.only {g m c d:Nat} {B C:Option Addr} {s:Bool} {q:Nat} (h:Aw w v L K k) (hb:AK 40 w g #[.slice B m c,.bool s,.slice C q d]) (ho:AA g w w'):Aw w' v L K k:=by have hk:Kp w w':=hb.kp (Te _ _ _ _ _ _ _) ho;obtain ⟨A,n,c,s,B,m,d,e,h1,h2,h3,h4⟩:=h;exact ⟨A,n,c,s,B,m,d,e,h1.keep ho hk (h1.offTerm hb),h2,h3,h4.kp hk⟩
end
def BG (L:List (Int×Int)) (K:Int) (k:Nat) (w:World) (e:Ending) (w':World):Prop:=∃v,e=.returned v/\Aw w' v L K k/\Below w.heap.size w w'
def V5 (w:World) (g:Nat) (cb:Array Value) (f:Int->Int) (k j:Nat):Prop:=
 ∀(W:World) (u:Value) (Z:Int),Below w.heap.size w W->BO W u Z k->Calls Tryz.prog g (#[u]++cb) W (Cn (f Z) j W)
end
section
open Go.RowKit
open Limb (limb AQ upto upto_succ Az AC)
theorem Ma (v u:Value) (Z Y:Int) (k:Nat) (w:World) (hv:BO w v Z k) (hu:BO w u Y k) (hk:k<=137438953472) :
  Calls Tryz.prog 54 #[v,u] w (Cn (Z-Y) (k+1) w):=by
 have hv0:=hv;have hu0:=hu;obtain ⟨s,A,n,c,xs,rfl,-⟩:=hv;obtain ⟨t,B,m,d,ys,rfl,-⟩:=hu;obtain ⟨x0,y0,r0,z2,-⟩:=Db w #[.bool s,.slice A n c] #[.bool t,.slice B m d] #[.bool false,.slice none 0 0];go_enter Tryz.func54,Tryz.ntmps54;go_wp2_with fail;go_region_held3 (fun w'=>w'.cell? ⟨w.heap.size,0,none⟩=some (.bool s)/\w'.cell? ⟨w.heap.size,1,none⟩=some (.slice A n c)/\w'.cell? ⟨w.heap.size+1,0,none⟩=some (.bool t)/\w'.cell? ⟨w.heap.size+1,1,none⟩=some (.slice B m d))
  (first|exact ⟨x0.drew.c0,x0.drew.c1,y0.drew.c0,y0.drew.c1⟩|exact ⟨x1.c0,x1.c1,y1.c0,y1.c1⟩|exact ⟨x2.c0,x2.c1,y2.c0,y2.c1⟩|exact ⟨(x2.other (AD _ _ _ _) (by omega)).c0,(x2.other (AD _ _ _ _) (by omega)).c1,(y2.other (AD _ _ _ _) (by omega)).c0,(y2.other (AD _ _ _ _) (by omega)).c1⟩)
  (first
   |(go_at_call 27;(with_reducible refine (Of _ Y k _ (hu0.below z2.drew) (by omega)).mono ?_);rintro e w1 ⟨v1,rfl,z1,b1⟩;have t1:=z2.drew.next b1;have x1:=x0.drew.next b1;have y1:=y0.drew.next b1)
   |(go_at_call 98;(with_reducible refine (Jb _ v1 Z (-Y) k w1 (hv0.below t1) z1.in_ hk).mono ?_);rintro e w2 ⟨v2,rfl,q2,b2⟩;have t2:=t1.next b2;have x2:=x1.next b2;have y2:=y1.next b2;obtain ⟨s2,A2,n2,c2,rfl⟩:=q2.form;have k2:=(r0.drew.next b1).next b2;have k2a:=k2.c0;have k2b:=k2.c1;have k2c:=k2.fr 0;have k2d:=k2.fr 1))
 go_wp2_with fail;refine Ay rfl rfl (k2.set2 _ _) rfl ?_;exact ⟨_,rfl,(q2.ofEq (by omega)).only k2 (AD _ _ _ _),AE t2 (by omega) (AD _ _ _ _)⟩
theorem Si (Z Y:Int):(Z-Y).sign=BC Z Y:=by
 rcases Int.lt_trichotomy Z Y with h|h|h
 · rw[Hi h];exact Int.sign_eq_neg_one_of_neg (by omega)
 · subst h;rw[Int.sub_self];unfold BC;simp
 · rw[Hj h];exact Int.sign_eq_one_of_pos (by omega)
theorem Qo (Z Y:Int):sg (decide (Z.sign*Y.sign<0)) (Z.natAbs*Y.natAbs)=Z*Y:=by
 rw[<-Int.sign_mul,<-Int.natAbs_mul];have:decide ((Z*Y).sign<0)=decide (Z*Y<0):=by rw[decide_eq_decide];exact Int.sign_neg_iff
 rw[this,MJ]
theorem JJ (Z Y:Int):-1<=Z.sign*Y.sign/\Z.sign*Y.sign<=1:=by rw[<-Int.sign_mul];exact GF _
theorem Mb (v u:Value) (Z Y:Int) (k j:Nat) (w:World) (hv:BO w v Z k) (hu:BO w u Y j) (hk:k<=68719476736) (hj:j<=68719476736) :
  Calls Tryz.prog 53 #[v,u] w (Cn (Z*Y) (k+j) w):=by
 have hlv:=Ac hv.lt;have hlu:=Ac hu.lt;have hv0:=hv;have hu0:=hu;obtain ⟨s,A,n,c,xs,rfl,hx,hc,hm,hn,hZ⟩:=hv;obtain ⟨t,B,m,d,ys,rfl,hy,hd,hmd,hmk,hY⟩:=hu;have HN:=Ac (BO.abs hZ);have HM:=Ac (BO.abs hY);have hE:=Ac (Qo Z Y);have hr:=JJ Z Y;have hsa:=fun w' hw=>Bb _ Z k w' (hv0.below hw) (by omega)
 have hsb:=fun w' hw=>Bb _ Y j w' (hu0.below hw) (by omega)
 unfold Dm at hsa hsb;generalize Z.sign=p at *;generalize Y.sign=q at *;have hw:IntKind.i64.wrap (p*q)=p*q:=IntWalk.i64_in _ (by omega);have HSA:=Ac hsa;have HSB:=Ac hsb;clear hZ hY hsa hsb;obtain ⟨x0,y0,r0,z2,-⟩:=Db w #[.bool s,.slice A n c] #[.bool t,.slice B m d] #[.bool false,.slice none 0 0];go_enter Tryz.func53,Tryz.ntmps53;go_wp2_with fail
 go_region_held3 (fun w'=>w'.cell? ⟨w.heap.size,0,none⟩=some (.bool s)/\w'.cell? ⟨w.heap.size,1,none⟩=some (.slice A n c)/\w'.cell? ⟨w.heap.size+1,0,none⟩=some (.bool t)/\w'.cell? ⟨w.heap.size+1,1,none⟩=some (.slice B m d))
  (first|exact ⟨x0.drew.c0,x0.drew.c1,y0.drew.c0,y0.drew.c1⟩|exact ⟨x1.c0,x1.c1,y1.c0,y1.c1⟩|exact ⟨x2.c0,x2.c1,y2.c0,y2.c1⟩|exact ⟨x3.c0,x3.c1,y3.c0,y3.c1⟩|exact ⟨x4.c0,x4.c1,y4.c0,y4.c1⟩|exact ⟨(x4.other (AD _ _ _ _) (by omega)).c0,(x4.other (AD _ _ _ _) (by omega)).c1,(y4.other (AD _ _ _ _) (by omega)).c0,(y4.other (AD _ _ _ _) (by omega)).c1⟩)
  (first
   |(go_at_call_of 80 (Value.agg #[.bool s,.slice A n c]);(with_reducible refine (HSA.out _ z2.drew).mono ?_);rintro e w1 ⟨rfl,b1⟩;have t1:=z2.drew.next b1;have x1:=x0.drew.next b1;have y1:=y0.drew.next b1;have r1:=r0.drew.next b1)
   |(go_at_call_of 80 (Value.agg #[.bool t,.slice B m d]);(with_reducible refine (HSB.out w1 t1).mono ?_);rintro e w2 ⟨rfl,b2⟩;have t2:=t1.next b2;have x2:=x1.next b2;have y2:=y1.next b2;have r2:=r1.next b2)
   |(go_at_call 99;(with_reducible refine (RU A B n c m d xs ys w2 (hx.below t2) (hy.below t2) (by omega) (by omega)).mono ?_);rintro e w3 ⟨A3,n3,c3,rfl,o3,l3,m3,b3⟩;have x3:=x2.next b3;have y3:=y2.next b3;have r3:=r2.next b3;rw[HN.out,HM.out]at o3;have ln3:n3<=k+j:=AS o3 (CI _ _ _ _ hlv.out hlu.out))
   |(go_at_call 84;(with_reducible refine (Co (decide (p*q<0)) A3 n3 c3 (k+j) _ w3 o3 ln3 (by omega)).mono ?_);rintro e w4 ⟨v4,rfl,z4,b4⟩;rw[Limb.val_canon,hE.out]at z4;obtain ⟨s4,A4,n4,c4,rfl⟩:=z4.form;have x4:=x3.next b4;have y4:=y3.next b4;have k4:=r3.next b4;have k4a:=k4.c0;have k4b:=k4.c1;have k4c:=k4.fr 0;have k4d:=k4.fr 1))
 go_wp2_with fail;refine Ay rfl rfl (k4.set2 _ _) rfl ?_;exact ⟨_,rfl,z4.only k4 (AD _ _ _ _),AE ((t2.next b3).next b4) (by omega) (AD _ _ _ _)⟩
theorem Gh (v u:Value) (Z:Int) (k j:Nat) (w:World) (hv:Au w v Z k) (hu:Au w u Z j):Calls Tryz.prog 106 #[v,u] w (Ek w):=by
 obtain ⟨A,n,c,rfl,hx,hc,hm,hn⟩:=hv;obtain ⟨B,m,d,rfl,hy,hd,hmd,hmk⟩:=hu;obtain rfl:n=m:=by rw[<-hx.len,<-hy.len]
 have h0:(decide (Z<0)==decide (Z<0))=true:=by simp
 generalize decide (Z<0)=s at *;generalize Limb.canon Z.natAbs=zs at *;obtain ⟨x0,y0,z2,-⟩:=Dv w #[.bool s,.slice A n c] #[.bool s,.slice B n d];go_enter Tryz.func106,Tryz.ntmps106;go_wp2_with fail;refine (Rh A B n c d zs _ (hx.below z2) (hy.below z2) (by omega)).mono ?_;rintro e w1 ⟨rfl,hw⟩;have b1:=TA hw;clear hw;go_wp2_with fail;go_ret
 exact ⟨rfl,z2.next b1⟩
def Vr (b:Bool) (w:World) (e:Ending) (w':World):Prop:=e=.returned (.bool b)/\Below w.heap.size w w'
end
end Go.Proofs.YtmedjkhmadfjlaaGreat
