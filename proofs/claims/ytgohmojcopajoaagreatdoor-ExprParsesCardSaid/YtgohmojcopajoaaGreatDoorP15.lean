/- Texts of one seat, put together: Box TermA SortPart ArePlain SortB CloneP. -/
import Derived.Test.YtgohmojcopajoaaGreatDoorP14
import Derived.Test.YtgohmojcopajoaaGreatDoorP12
import Derived.Shelf.SlSortCmp.NoneTotal
import Derived.Test.YtgohmojcopajoaaGreatDoorP01
set_option linter.unusedVariables false
set_option linter.unusedSimpArgs false
set_option maxRecDepth 100000
set_option maxHeartbeats 16000000
namespace Go.Proofs.YtgohmojcopajoaaGreatDoor.Nu
section
open Go.RowKit
def Ao (T:TypeId) (w:World) (g:Nat) (cs:Array Value):Prop:=w.heap[g]?=some (.cells cs T (0,0))
section
variable {T:TypeId} {w w':World} {g k:Nat} {cs:Array Value} {x y z:Value}
theorem Ao.lt (h:Ao T w g cs):g<w.heap.size:=(Array.getElem?_eq_some_iff.1 h).1
theorem Ao.cell (h:Ao T w g cs) (i:Nat) (v:Value) (hv:cs[i]?=some v):w.cell? ⟨g,i,none⟩=some v:=by rw[cell_of_row w g i _ _ _ h];exact hv
theorem Ao.c0 (h:Ao T w g #[x,y,z]):w.cell? ⟨g,0,none⟩=some x:=h.cell 0 x rfl
theorem Ao.c1 (h:Ao T w g #[x,y,z]):w.cell? ⟨g,1,none⟩=some y:=h.cell 1 y rfl
theorem Ao.c2 (h:Ao T w g #[x,y,z]):w.cell? ⟨g,2,none⟩=some z:=h.cell 2 z rfl
theorem Ao.fr (h:Ao T w g cs) (i:Nat):w.frozen? ⟨g,i,none⟩=false:=by unfold Ao at h;simp[World.frozen?,h]
theorem Ao.below {B:Nat} (h:Ao T w g cs) (hb:Below B w w') (hg:g<B):Ao T w' g cs:=(hb.block g hg).trans h
theorem Ao.next (h:Ao T w g cs) (hb:Below w.heap.size w w'):Ao T w' g cs:=h.below hb h.lt
theorem Ao.new (T:TypeId) (w:World) (cs:Array Value):Ao T (w.alloc (.cells cs T)) w.heap.size cs:=heap_alloc_new w _
theorem Ao.alloc (h:Ao T w g cs) (o:Obj):Ao T (w.alloc o) g cs:=h.next (Ae w o)
theorem Ao.drew (h:Ao T w g cs):Ao T w.drew g cs:=h
theorem Ao.other (h:Ao T w g cs) (ho:An k w w') (hne:g≠k):Ao T w' g cs:=(ho.block g h.lt (fun hh=>hne (by injection hh))).trans h
theorem Ao.grown {row:Option Nat} (h:Ao T w g cs) (ho:w.grownBy w' row) (hne:some g≠row):Ao T w' g cs:=(ho.block g h.lt hne).trans h
theorem Ao.set_0 (h:Ao T w g #[x,y,z]) (x':Value):Ao T (w.setCell ⟨g,0,none⟩ x') g #[x',y,z]:=by unfold Ao at h ⊢;simp[World.setCell,Array.getElem?_modify,h]
theorem DD (w:World) (g i:Nat) (x:Value):An g w (w.setCell ⟨g,i,none⟩ x):=(An.refl g w).setCell i x
theorem Ao.kp (h:Ao T w g cs) (hn:CQ cs.toList) (ho:An g w w'):Kp w w':=Kp.block h hn ho
theorem SL (hx:NL x) (hy:NL y) (hz:NL z):CQ (#[x,y,z]:Array Value).toList:=by intro u hu;simp at hu;rcases hu with rfl|rfl|rfl<;>assumption
theorem Cc (hx:NL x) (hy:NL y):CQ (#[x,y]:Array Value).toList:=by intro u hu;simp at hu;rcases hu with rfl|rfl<;>assumption
theorem NT {Z:Int} (h:Z≠0):(Z.sign==0)=false:=by simpa using h
theorem Ax (T:TypeId) (w:World) (X:Array Value):Ao T (w.alloc (.cells X T)) w.heap.size X/\Below w.heap.size w (w.alloc (.cells X T))/\(w.alloc (.cells X T)).heap.size=w.heap.size+1:=
 ⟨Ao.new T w X,Ae w _,size_alloc w _⟩
theorem Aw (T U:TypeId) (w:World) (X Y:Array Value):Ao T ((w.alloc (.cells X T)).alloc (.cells Y U)) w.heap.size X/\Ao U ((w.alloc (.cells X T)).alloc (.cells Y U)) (w.heap.size+1) Y /\
  Below w.heap.size w ((w.alloc (.cells X T)).alloc (.cells Y U))/\((w.alloc (.cells X T)).alloc (.cells Y U)).heap.size=w.heap.size+2:=by
 obtain ⟨h1,h2,h3⟩:=Ax T w X;obtain ⟨k1,k2,k3⟩:=Ax U (w.alloc (.cells X T)) Y;rw[h3]at k1 k3;exact ⟨h1.alloc _,k1,h2.next (Ae _ _),by omega⟩
theorem Dq (T U V:TypeId) (w:World) (X Y Z:Array Value):Ao T (((w.alloc (.cells X T)).alloc (.cells Y U)).alloc (.cells Z V)) w.heap.size X/\Ao U (((w.alloc (.cells X T)).alloc (.cells Y U)).alloc (.cells Z V)) (w.heap.size+1) Y /\
  Ao V (((w.alloc (.cells X T)).alloc (.cells Y U)).alloc (.cells Z V)) (w.heap.size+1+1) Z/\Below w.heap.size w (((w.alloc (.cells X T)).alloc (.cells Y U)).alloc (.cells Z V))/\(((w.alloc (.cells X T)).alloc (.cells Y U)).alloc (.cells Z V)).heap.size=w.heap.size+3:=by
 obtain ⟨h1,h2,h3,h4⟩:=Aw T U w X Y;obtain ⟨k1,k2,k3⟩:=Ax V ((w.alloc (.cells X T)).alloc (.cells Y U)) Z;rw[h4]at k1 k3;have e2:w.heap.size+2=w.heap.size+1+1:=rfl;rw[e2]at k1;exact ⟨h1.alloc _,h2.alloc _,k1,h3.next (Ae _ _),by omega⟩
end
theorem Ab {P:Program} {w:World} {ops:Array Oper} {rest:List Oper} {o:Oper} {a:Act} {Q:Exit->Act->World->Prop} (hgd:o.guard=none) (T:TypeId) (x y:Operand) (ho:o.op=.store T x y)
  (g:Nat) (cells:Array Value) (hx:a.eval x=.pointer (some ⟨g,0,none⟩)) (hy:a.eval y=.agg cells) (old:Array Value) (hb:Ao T w g old) (hi:(P.info? T).map (·.size)=some cells.size) (hold:old.size=cells.size) (h1:cells.all (·.oneCell')=true)
  (h:∀w',Ao T w' g cells->An g w w'->wpList P ops Q rest (a.put o.dst undef) w'):wpList P ops Q (o::rest) a w:=by
 refine wpList_store_row hgd T x y ho g cells hx hy T old hb hi hold h1 ?_;refine h _ ?_ (DT w g _);exact setRow_heap w g old cells _ _ hb
theorem BP {w:World} {ops:Array Oper} {rest:List Oper} {o:Oper} {a:Act} {Q:Exit->Act->World->Prop} (hgd:o.guard=none) (x y:Operand) (ho:o.op=.store 56 x y)
  (g:Nat) (s:Bool) (A B:Option Addr) (n c m d:Nat) (hx:a.eval x=.pointer (some ⟨g,0,none⟩)) (hy:a.eval y=.agg #[.slice A n c,.bool s,.slice B m d]) (u v z:Value) (hb:Ao 56 w g #[u,v,z])
  (h:∀w',Ao 56 w' g #[.slice A n c,.bool s,.slice B m d]->An g w w'->wpList Tryz.prog ops Q rest (a.put o.dst undef) w'):wpList Tryz.prog ops Q (o::rest) a w:=
 Ab hgd 56 x y ho g _ hx hy _ hb (by kernel_rfl) rfl (by simp[Value.oneCell']) h
theorem Cq {fn:Func} {R:Ending->World->Prop} {a:Act} {w:World} {g p:Nat} {x y z:Value} (hres:fn.results=#[.cell p 56]) (hp:a.tmps.getD p undef=.pointer (some ⟨g,0,none⟩))
  (hb:Ao 56 w g #[x,y,z]) (hd:a.defers=[]) (hR:R (.returned (.agg #[x,y,z])) w):bodyPost Tryz.prog fn R .ret a w:=
 bodyPost_ret (results_cell_row hres _ _ g _ #[x,y,z] _ _ hp hb Tryz.underlying56 rfl (by kernel_rfl)) hd hR
def Lp (w:World) (A:Option Addr) (n:Nat) (L:List (Int×Int)) (k:Nat):Prop:=∃ps,Ba w A n ps k/\DO ps=L
def FA (w:World) (A:Option Addr) (n:Nat) (L:List (Int×Int)) (k:Nat):Prop:=∃ps,Ba w A n ps k/\DO ps=L/\∀p∈ps,Bt w p.num p.Z k
def Bq (w:World) (v:Value) (L:List (Int×Int)) (K:Int) (k:Nat):Prop:=∃A n c s B m d,v=.agg #[.slice A n c,.bool s,.slice B m d]/\Lp w A n L k/\n<=c/\c<=9223372036854775807/\EP w (.agg #[.bool s,.slice B m d]) K k
def Bv (w:World) (v:Value) (L:List (Int×Int)) (K:Int) (k:Nat):Prop:=∃A n c s B m d,v=.agg #[.slice A n c,.bool s,.slice B m d]/\FA w A n L k/\n<=c/\c<=9223372036854775807/\Bt w (.agg #[.bool s,.slice B m d]) K k
section
variable {w w':World} {A:Option Addr} {n k j:Nat} {L:List (Int×Int)} {K:Int} {v:Value}
theorem Lp.below (h:Lp w A n L k) (hb:Below w.heap.size w w'):Lp w' A n L k:=by obtain ⟨ps,h1,h2⟩:=h;exact ⟨ps,h1.below hb,h2⟩
theorem FA.below (h:FA w A n L k) (hb:Below w.heap.size w w'):FA w' A n L k:=by obtain ⟨ps,h1,h2,h3⟩:=h;exact ⟨ps,h1.below hb,h2,fun p hp=>(h3 p hp).below hb⟩
theorem Bq.below (h:Bq w v L K k) (hb:Below w.heap.size w w'):Bq w' v L K k:=by obtain ⟨A,n,c,s,B,m,d,e,h1,h2,h3,h4⟩:=h;exact ⟨A,n,c,s,B,m,d,e,h1.below hb,h2,h3,h4.below hb⟩
theorem Bv.below (h:Bv w v L K k) (hb:Below w.heap.size w w'):Bv w' v L K k:=by obtain ⟨A,n,c,s,B,m,d,e,h1,h2,h3,h4⟩:=h;exact ⟨A,n,c,s,B,m,d,e,h1.below hb,h2,h3,h4.below hb⟩
theorem Lp.mono (h:Lp w A n L k) (hj:k<=j):Lp w A n L j:=by obtain ⟨ps,h1,h2⟩:=h;exact ⟨ps,h1.mono hj,h2⟩
theorem Bq.mono (h:Bq w v L K k) (hj:k<=j):Bq w v L K j:=by obtain ⟨A,n,c,s,B,m,d,e,h1,h2,h3,h4⟩:=h;exact ⟨A,n,c,s,B,m,d,e,h1.mono hj,h2,h3,h4.mono hj⟩
theorem Bt.mono (h:Bt w v K k) (hj:k<=j):Bt w v K j:=by obtain ⟨A,n,c,rfl,h1,h2,h3,h4⟩:=h;exact ⟨A,n,c,rfl,h1,h2,h3,by omega⟩
theorem FA.mono (h:FA w A n L k) (hj:k<=j):FA w A n L j:=by obtain ⟨ps,h1,h2,h3⟩:=h;exact ⟨ps,h1.mono hj,h2,fun p hp=>(h3 p hp).mono hj⟩
theorem Bv.mono (h:Bv w v L K k) (hj:k<=j):Bv w v L K j:=by obtain ⟨A,n,c,s,B,m,d,e,h1,h2,h3,h4⟩:=h;exact ⟨A,n,c,s,B,m,d,e,h1.mono hj,h2,h3,h4.mono hj⟩
theorem FA.in_ (h:FA w A n L k):Lp w A n L k:=by obtain ⟨ps,h1,h2,_⟩:=h;exact ⟨ps,h1,h2⟩
theorem Bv.in_ (h:Bv w v L K k):Bq w v L K k:=by obtain ⟨A,n,c,s,B,m,d,e,h1,h2,h3,h4⟩:=h;exact ⟨A,n,c,s,B,m,d,e,h1.in_,h2,h3,h4.in_⟩
theorem Bv.form (h:Bv w v L K k):∃A n c s B m d,v=.agg #[.slice A n c,.bool s,.slice B m d]:=by obtain ⟨A,n,c,s,B,m,d,e,_⟩:=h;exact ⟨A,n,c,s,B,m,d,e⟩
theorem Lp.len (h:Lp w A n L k):L.length=n:=by obtain ⟨ps,h1,h2⟩:=h;rw[<-h2,DO,List.length_map];exact h1.1
theorem FA.nil (w:World) (A:Option Addr) (k:Nat):FA w A 0 [] k:=⟨[],Ba.nil _ _ _,rfl,fun p hp=>by cases hp⟩
theorem Ba.keep {ps:List PV} {g:Nat} (h:Ba w A n ps k) (ho:An g w w') (hk:Kp w w') (ha:0<n->Apart A g):Ba w' A n ps k:=by refine ⟨h.1,fun hn=>?_,fun p hp=>(h.2.2 p hp).kp hk⟩;obtain ⟨b,o,e,hc⟩:=h.2.1 hn;refine ⟨b,o,e,fun j u hu=>?_⟩;have h1:=hc j u hu;have hne:b≠g:=ha hn ⟨b,o,none⟩ e;exact ho.gb.cell h1 (fun hh=>hne (by injection hh))
theorem FA.keep {g:Nat} (h:FA w A n L k) (ho:An g w w') (hk:Kp w w') (ha:0<n->Apart A g):FA w' A n L k:=by obtain ⟨ps,h1,h2,h3⟩:=h;exact ⟨ps,h1.keep ho hk ha,h2,fun p hp=>(h3 p hp).kp hk⟩
theorem Ba.offTerm {ps:List PV} {g:Nat} {x y z:Value} (h:Ba w A n ps k) (hb:Ao 56 w g #[x,y,z]) (hx:∀i,x≠.int .i64 i) (hy:∀i,y≠.int .i64 i) (hz:∀i,z≠.int .i64 i):0<n->Apart A g:=by
 intro hn ad had he;obtain ⟨b,o,e,hc⟩:=h.2.1 hn;have hl:0<ps.length:=by rw[h.1];exact hn
 obtain ⟨g0,-,-⟩:=flat_get ps 0 ps[0] (List.getElem?_eq_getElem hl);have h0:=hc 0 _ g0;rw[had]at e;injection e with e
 subst e;have he':b=g:=he;subst he';rw[cell_of_row w b _ _ _ _ hb]at h0;match o,h0 with
 |0,h0=>simp at h0;exact hx _ h0
 |1,h0=>simp at h0;exact hy _ h0
 |2,h0=>simp at h0;exact hz _ h0
 |o+3,h0=>simp at h0
theorem Lp.offTerm {g m c d:Nat} {B C:Option Addr} {s:Bool} {q:Nat} (h:Lp w A n L k) (hb:Ao 56 w g #[.slice B m c,.bool s,.slice C q d]):0<n->Apart A g:=by obtain ⟨ps,h1,h2⟩:=h;exact h1.offTerm hb (fun i h=>by cases h) (fun i h=>by cases h) (fun i h=>by cases h)
theorem FA.offTerm {g m c d:Nat} {B C:Option Addr} {s:Bool} {q:Nat} (h:FA w A n L k) (hb:Ao 56 w g #[.slice B m c,.bool s,.slice C q d]):0<n->Apart A g:=h.in_.offTerm hb
theorem WW (A B:Option Addr) (n c m d:Nat) (s:Bool):CQ (#[.slice A n c,.bool s,.slice B m d]:Array Value).toList:=SL (NL.slice _ _ _) (NL.bool _) (NL.slice _ _ _)
theorem Bv.only {g m c d:Nat} {B C:Option Addr} {s:Bool} {q:Nat} (h:Bv w v L K k) (hb:Ao 56 w g #[.slice B m c,.bool s,.slice C q d]) (ho:An g w w'):Bv w' v L K k:=by have hk:Kp w w':=hb.kp (WW _ _ _ _ _ _ _) ho;obtain ⟨A,n,c,s,B,m,d,e,h1,h2,h3,h4⟩:=h;exact ⟨A,n,c,s,B,m,d,e,h1.keep ho hk (h1.offTerm hb),h2,h3,h4.kp hk⟩
end
def Cu (L:List (Int×Int)) (K:Int) (k:Nat) (w:World) (e:Ending) (w':World):Prop:=∃v,e=.returned v/\Bv w' v L K k/\Below w.heap.size w w'
def VY (w:World) (g:Nat) (cb:Array Value) (f:Int->Int) (k j:Nat):Prop:=
 ∀(W:World) (u:Value) (Z:Int),Below w.heap.size w W->EP W u Z k->Calls Tryz.prog g (#[u]++cb) W (IC (f Z) j W)
end
section
open Go.RowKit
theorem MJ (v:Value) (Z:Int) (k:Nat) (w:World) (hv:EP w v Z k) (hk:k<=1099511627776):Calls Tryz.prog 124 #[v] w (IC Z k w):=by
 obtain ⟨s,A,n,c,xs,rfl,hx,hc,hm,hn,rfl⟩:=hv;obtain ⟨z0,z1,z2,-⟩:=IQ w #[.bool s,.slice A n c] #[.bool false,.slice none 0 0];have hf:=MD s A n c k xs _ (hx.below z2) hc hm hn hk;go_enter Tryz.func124,Tryz.ntmps124;go_wp2_with fail;refine hf.mono ?_;rintro e w1 ⟨v1,rfl,r1,b1⟩;obtain ⟨s1,A1,n1,c1,rfl⟩:=r1.form;have k1:=z1.next b1;go_wp2_with (with_reducible refine BA rfl _ _ rfl (w.heap.size+1) _ _ _ _ rfl rfl _ _ k1 ?_;intro w3 k3 ho3);refine BD rfl rfl k3 rfl ?_
 exact ⟨_,rfl,r1.only k1 ho3,CG (z2.next b1) (by omega) ho3⟩
theorem Bv.number {w w':World} {v:Value} {s:Bool} {B:Option Addr} {m d:Nat} {K:Int} {k:Nat} (h:Bt w (.agg #[.bool s,.slice B m d]) K k):Bv w (.agg #[.slice none 0 0,.bool s,.slice B m d]) [] K k:=
 ⟨none,0,0,s,B,m,d,rfl,FA.nil _ _ _,Nat.le_refl _,by omega,h⟩
theorem Ht (v:Value) (Z:Int) (k:Nat) (w:World) (hv:EP w v Z k) (hk:k<=1099511627776):Calls Tryz.prog 87 #[v] w (Cu [] Z k w):=by
 have hv0:=hv;obtain ⟨s,A,n,c,xs,rfl,-⟩:=hv;obtain ⟨z0,z1,z2,-⟩:=Aw 54 56 w #[.bool s,.slice A n c] #[.slice none 0 0,.bool false,.slice none 0 0];have hf:=MJ _ Z k _ (hv0.below z2) hk;have c0:=Dk.c0 z0;have c1:=Dk.c1 z0;go_enter Tryz.func87,Tryz.ntmps87;go_wp2_with fail;refine hf.mono ?_;rintro e w1 ⟨v1,rfl,r1,b1⟩;obtain ⟨s1,A1,n1,c1,rfl⟩:=r1.form;have k1:=z1.next b1
 go_wp2_with (with_reducible refine BP rfl _ _ rfl (w.heap.size+1) _ _ _ _ _ _ _ rfl rfl _ _ _ k1 ?_;intro w3 k3 ho3);refine Cq rfl rfl k3 rfl ?_;exact ⟨_,rfl,(Bv.number r1 (w':=w) (v:=undef)).only k1 ho3,CG (z2.next b1) (by omega) ho3⟩
theorem Jz (q:PV) (k:Nat) (w:World) (hz:EP w q.num q.Z k) (hk:k<=1099511627776):Calls Tryz.prog 179 #[q.agg] w (fun e w'=>e=.returned (.bool (decide (q.Z=0)))/\Below w.heap.size w w'):=by
 obtain ⟨x,s,B,m,d,Z⟩:=q;obtain ⟨z0,z1,-⟩:=Ax 157 w #[.int .i64 x,.bool s,.slice B m d];have hs:=NM _ Z k _ (hz.below z1) hk;unfold Hp at hs;have c1:=z0.c1;have c2:=z0.c2;unfold PV.num at hs;dsimp only at hs
 show Calls _ _ #[.agg #[.int .i64 x,.bool s,.slice B m d]] _ _;by_cases h0:Z=0
 · subst h0;rw[show Int.sign 0=0 from rfl]at hs;rw[show decide ((0:Int)=0)=true from rfl];go_enter Tryz.func179,Tryz.ntmps179;go_wp2_with fail;refine hs.mono ?_;rintro e w1 ⟨rfl,b1⟩;go_wp2_with fail;go_ret
   exact ⟨rfl,z1.next b1⟩
 · have h1:(Z.sign==0)=false:=NT h0;have h2:decide (Z=0)=false:=(by simpa using h0);dsimp only
   rw[h2];generalize Z.sign=q at *;clear h0 h2;go_enter Tryz.func179,Tryz.ntmps179;go_wp2_with fail;refine hs.mono ?_;rintro e w1 ⟨rfl,b1⟩;go_wp2_with fail;go_ret
   exact ⟨rfl,z1.next b1⟩
theorem NU (v u:Value) (N Z:Int) (g j k:Nat) (w:World) (hb:∃s A n c,v=.agg #[.bool s,.slice A n c]/\Dk w g #[.bool s,.slice A n c]) (hv:EP w v N j) (hu:EP w u Z k) (hk:k<=137438953472) (hj:j<=137438953472) :
  Calls Tryz.prog 127 #[u,.pointer (some ⟨g,0,none⟩)] w (IC (N*Z) (j+k) w):=by
 obtain ⟨s,A,n,c,rfl,hb⟩:=hb;have hu0:=hu;obtain ⟨t,B,m,d,ys,rfl,-⟩:=hu;obtain ⟨z0,z1,z2,-⟩:=IQ w #[.bool t,.slice B m d] #[.bool false,.slice none 0 0];have hf:=VU _ _ N Z j k _ (hv.below z2) (hu0.below z2) hj hk;have q:=hb.next z2;have c0:=z0.c0;have c1:=z0.c1;have d0:=q.c0;have d1:=q.c1;go_enter Tryz.func127,Tryz.ntmps127;go_wp2_with fail;refine hf.mono ?_;rintro e w1 ⟨v1,rfl,r1,b1⟩;obtain ⟨s1,A1,n1,c1,rfl⟩:=r1.form;have k1:=z1.next b1
 go_wp2_with (with_reducible refine BA rfl _ _ rfl (w.heap.size+1) _ _ _ _ rfl rfl _ _ k1 ?_;intro w3 k3 ho3);refine BD rfl rfl k3 rfl ?_;exact ⟨_,rfl,r1.only k1 ho3,CG (z2.next b1) (by omega) ho3⟩
end
section
open Go.Shelf
def Tryz.sortPart_ren:Go.Shelf.Ren:=⟨fun|6=>175|15=>189|14=>188|28=>172|29=>205|20=>197|21=>198|22=>199|23=>200|24=>201|25=>202|26=>203|27=>204|46=>210|47=>211|48=>212|49=>213|50=>214|57=>215|n=>n,fun|22=>50|24=>157|25=>214|3=>3|39=>201|0=>0|53=>173|55=>180|4=>4|46=>233|45=>232|50=>134|5=>5|9=>9|66=>243|70=>247|76=>249|77=>162|n=>n,fun|n=>n⟩
theorem Tryz.sortPart:Go.Proofs.SlLaysF0.n6 Tryz.prog Tryz.sortPart_ren:={
 mixed:=by kernel_rfl
 f6:=⟨Tryz.f175.name,by decide,Tryz.func175.trans (congrArg some (by kernel_rfl))⟩
 f14:=⟨Tryz.f188.name,by decide,Tryz.func188.trans (congrArg some (by kernel_rfl))⟩
 f15:=Tryz.func189.trans (congrArg some (by kernel_rfl))
 f20:=⟨Tryz.f197.name,by decide,Tryz.func197.trans (congrArg some (by kernel_rfl))⟩
 f21:=⟨Tryz.f198.name,by decide,Tryz.func198.trans (congrArg some (by kernel_rfl))⟩
 f22:=⟨Tryz.f199.name,by decide,Tryz.func199.trans (congrArg some (by kernel_rfl))⟩
 f23:=⟨Tryz.f200.name,by decide,Tryz.func200.trans (congrArg some (by kernel_rfl))⟩
 f24:=⟨Tryz.f201.name,by decide,Tryz.func201.trans (congrArg some (by kernel_rfl))⟩
 f25:=⟨Tryz.f202.name,by decide,Tryz.func202.trans (congrArg some (by kernel_rfl))⟩
 f26:=⟨Tryz.f203.name,by decide,Tryz.func203.trans (congrArg some (by kernel_rfl))⟩
 f27:=⟨Tryz.f204.name,by decide,Tryz.func204.trans (congrArg some (by kernel_rfl))⟩
 f28:=Tryz.func172.trans (congrArg some (by kernel_rfl))
 f29:=Tryz.func205.trans (congrArg some (by kernel_rfl))
 f46:=⟨Tryz.f210.name,by decide,Tryz.func210.trans (congrArg some (by kernel_rfl))⟩
 f47:=Tryz.func211.trans (congrArg some (by kernel_rfl))
 f48:=Tryz.func212.trans (congrArg some (by kernel_rfl))
 f49:=⟨Tryz.f213.name,by decide,Tryz.func213.trans (congrArg some (by kernel_rfl))⟩
 f50:=⟨Tryz.f214.name,by decide,Tryz.func214.trans (congrArg some (by kernel_rfl))⟩
 f57:=⟨Tryz.f215.name,by decide,Tryz.func215.trans (congrArg some (by kernel_rfl))⟩
 t0:=Tryz.underlying0
 a0:=Tryz.isAgg0
 z0:=Tryz.sizeOf0
 v0:=Tryz.zeroValue0
 t3:=Tryz.underlying3
 a3:=Tryz.isAgg3
 z3:=Tryz.sizeOf3
 v3:=Tryz.zeroValue3
 t4:=Tryz.underlying4
 a4:=Tryz.isAgg4
 z4:=Tryz.sizeOf4
 v4:=Tryz.zeroValue4
 t5:=Tryz.underlying5
 a5:=Tryz.isAgg5
 z5:=Tryz.sizeOf5
 v5:=Tryz.zeroValue5
 t9:=Tryz.underlying9
 a9:=Tryz.isAgg9
 z9:=Tryz.sizeOf9
 v9:=Tryz.zeroValue9
 t22:=Tryz.underlying50
 a22:=Tryz.isAgg50
 z22:=Tryz.sizeOf50
 v22:=Tryz.zeroValue50
 t25:=Tryz.underlying214
 a25:=Tryz.isAgg214
 z25:=Tryz.sizeOf214
 v25:=Tryz.zeroValue214
 t39:=Tryz.underlying201
 a39:=Tryz.isAgg201
 z39:=Tryz.sizeOf201
 v39:=Tryz.zeroValue201
 t45:=Tryz.underlying232
 a45:=Tryz.isAgg232
 z45:=Tryz.sizeOf232
 v45:=Tryz.zeroValue232
 t46:=Tryz.underlying233
 a46:=Tryz.isAgg233
 z46:=Tryz.sizeOf233
 v46:=Tryz.zeroValue233
 t50:=Tryz.underlying134
 a50:=Tryz.isAgg134
 z50:=Tryz.sizeOf134
 v50:=Tryz.zeroValue134
 t53:=Tryz.underlying173
 a53:=Tryz.isAgg173
 z53:=Tryz.sizeOf173
 v53:=Tryz.zeroValue173
 t55:=Tryz.underlying180
 a55:=Tryz.isAgg180
 z55:=Tryz.sizeOf180
 v55:=Tryz.zeroValue180
 t66:=Tryz.underlying243
 a66:=Tryz.isAgg243
 z66:=Tryz.sizeOf243
 v66:=Tryz.zeroValue243
 t70:=Tryz.underlying247
 a70:=Tryz.isAgg247
 z70:=Tryz.sizeOf247
 v70:=Tryz.zeroValue247
 t76:=Tryz.underlying249
 a76:=Tryz.isAgg249
 z76:=Tryz.sizeOf249
 v76:=Tryz.zeroValue249
 t77:=Tryz.underlying162
 a77:=Tryz.isAgg162
 z77:=Tryz.sizeOf162
 v77:=Tryz.zeroValue162 }
end
section
open Go.RowKit
open Tm
def Ce:Int->List (Int×Int)->Bool
 |_,[]=>true
 |b,(u,c)::ps=>decide (b<u)&&(decide (c≠0)&&Ce u ps)
theorem MM (b:Int) (ps:List (Int×Int)):Ce b ps=true↔Co b ps:=by
 induction ps generalizing b with
 |nil=>simp[Ce,Co]
 |cons p ps ih=> obtain ⟨u,c⟩:=p;simp[Ce,Co,ih]
theorem Qb {α:Type} {l:List α} {i:Nat} {x:α} (h:l[i]?=some x):l.drop i=x::l.drop (i+1):=by obtain ⟨hlt,rfl⟩:=List.getElem?_eq_some_iff.1 h;exact List.drop_eq_getElem_cons hlt
theorem T9 {ps:List PV} {i:Nat} {p:PV} (h:ps[i]?=some p):(DO ps)[i]?=some (p.v,p.Z):=by unfold DO;rw[List.getElem?_map,h];rfl
def I9 (b:Bool) (w:World) (e:Ending) (w':World):Prop:=e=.returned (.bool b)/\Below w.heap.size w w'
theorem Lp.at_ {w:World} {A:Option Addr} {n k i:Nat} {L:List (Int×Int)} (h:Lp w A n L k) (hi:i<n):∃(b o:Nat) (p:PV),A=some ⟨b,o,none⟩/\b<w.heap.size/\L[i]?=some (p.v,p.Z)/\w.cell? ⟨b,o+i*3,none⟩=some (.int .i64 p.v)/\w.cell? ⟨b,o+i*3+1,none⟩=some (.bool p.s)/\w.cell? ⟨b,o+i*3+2,none⟩=some (.slice p.B p.m p.d)/\EP w p.num p.Z k:=by
 obtain ⟨ps,h1,rfl⟩:=h;obtain ⟨b,o,p,e,hp,c0,c1,c2,hz⟩:=h1.at_ hi;have e0:o+3*i=o+i*3:=by omega
 have e1:o+(3*i+1)=o+i*3+1:=by omega
 have e2:o+(3*i+2)=o+i*3+2:=by omega
 rw[e0]at c0;rw[e1]at c1;rw[e2]at c2;exact ⟨b,o,p,e,World.block_lt_of_cell? w _ c0,T9 hp,c0,c1,c2,hz⟩
theorem Lq (A:Option Addr) (n c:Nat) (L:List (Int×Int)) (k:Nat) (w:World) (hx:Lp w A n L k) (hm:n<=9223372036854775807) (hk:k<=1099511627776) :
  Calls Tryz.prog 173 #[.slice A n c] w (I9 (Ce (-1) L) w):=by
 have hlen:=Aa hx.len;go_enter Tryz.func173,Tryz.ntmps173;go_wp2_with fail;go_loopw [3,8] (fun l i wr=>∃(q:Nat) (b:Int),q<=n/\i=.int .i64 q/\l=.int .i64 b/\Hid (Ce (-1) L=Ce b (L.drop q))/\Below w.heap.size w wr) (fun _ i _=>n-(intOf i).toNat)
 case atStart=>exact ⟨0,-1,Nat.zero_le _,rfl,rfl,Lib.hid (by rw[List.drop_zero]),Below.refl _ _⟩
 case round=>
  obtain ⟨q,b,hq,rfl,rfl,HR,hb⟩:=hrel;by_cases hqn:q<n
  · obtain ⟨bb,o,p,rfl,hlt,hL,c0,c1,c2,hz⟩:=(hx.below hb).at_ hqn;obtain ⟨v,s,B,m,d,Z⟩:=p;dsimp only at hL c0 c1 c2
    have hD:=Aa (Qb hL);clear hL;obtain ⟨z0,z1,-⟩:=Ax 157 wr #[.int .i64 v,.bool s,.slice B m d];have x0:=z0.c0;have x1:=z0.c1;have x2:=z0.c2;by_cases hvb:v<=b
    · have HF:=Aa (show Ce b ((v,Z)::L.drop (q+1))=false by simp[Ce];omega);have hd:decide (v<=b)=true:=(by simpa using hvb);go_wp2_with fail;go_ret
      exact ⟨by rw[HR.out,hD.out,HF.out];rfl,hb.next z1⟩
    · have hd:decide (v<=b)=false:=(by simpa using hvb);have hs:=NM _ Z k _ (hz.below z1) hk;unfold Hp PV.num at hs;dsimp only at hs
      by_cases h0:Z=0
      · subst h0;rw[show Int.sign 0=0 from rfl]at hs;have HF:=Aa (show Ce b ((v,0)::L.drop (q+1))=false by simp[Ce]);go_wp2_with fail;refine hs.mono ?_;rintro e w1 ⟨rfl,b1⟩;go_wp2_with fail;go_ret
        exact ⟨by rw[HR.out,hD.out,HF.out];rfl,(hb.next z1).next b1⟩
      · have h1:(Z.sign==0)=false:=NT h0;have HT:=Aa (show Ce b ((v,Z)::L.drop (q+1))=Ce v (L.drop (q+1)) by simp[Ce,h0];omega);generalize Z.sign=sg at *;clear h0;go_wp2_with fail;refine hs.mono ?_;rintro e w1 ⟨rfl,b1⟩;have y0:=(z0.next b1).c0;go_wp2_with fail;go_roundw
        case rel=>exact ⟨q+1,v,by omega,by go_num,rfl,Lib.hid (by rw[HR.out,hD.out,HT.out]),(hb.next z1).next b1⟩
        case measure=>simp[intOf]<;>omega
  · have HT:=Aa (show Ce b (L.drop q)=true by rw[List.drop_of_length_le (by have:=hlen.out;omega)];rfl);go_wp2_with fail;go_ret
    exact ⟨by rw[HR.out,HT.out];rfl,hb⟩
theorem Iu (x:Int) (w:World):Calls Tryz.prog 190 #[.int .i64 x] w (fun e w'=>e=.returned (.bool false)/\w'=w):=by
 have h:(x != x)=false:=by simp
 go_enter Tryz.func190,Tryz.ntmps190;go_wp2_with fail;go_ret
 exact ⟨rfl,rfl⟩
theorem ES (x y:Int) (w:World):Calls Tryz.prog 177 #[.int .i64 x,.int .i64 y] w (fun e w'=>e=.returned (.int .i64 (FP x y))/\w'=w):=by
 rcases Int.lt_trichotomy x y with h|h|h
 · have H:=Aa (show FP x y=-1 by unfold FP;rw[if_pos h]);go_enter Tryz.func177,Tryz.ntmps177;go_wp2_with (go_at_call 190;refine (Iu _ _).mono ?_;rintro e w' ⟨rfl,rfl⟩);go_ret
   exact ⟨by rw[H.out];rfl,rfl⟩
 · have H:=Aa (show FP x y=0 by unfold FP;rw[if_neg (by omega),if_neg (by omega)]);have h1:¬x<y:=(by omega);have h2:¬y<x:=(by omega);clear h;go_enter Tryz.func177,Tryz.ntmps177;go_wp2_with (go_at_call 190;refine (Iu _ _).mono ?_;rintro e w' ⟨rfl,rfl⟩);go_ret
   exact ⟨by rw[H.out];rfl,rfl⟩
 · have H:=Aa (show FP x y=1 by unfold FP;rw[if_neg (by omega),if_pos h]);have h1:¬x<y:=(by omega);go_enter Tryz.func177,Tryz.ntmps177;go_wp2_with (go_at_call 190;refine (Iu _ _).mono ?_;rintro e w' ⟨rfl,rfl⟩);go_ret
   exact ⟨by rw[H.out];rfl,rfl⟩
open Go.Shelf Go.Lib Go.Sort in
theorem NV (x y:PV) (W:World):Calls Tryz.prog 176 #[x.agg,y.agg] W (fun e w'=>e=.returned (.int .i64 (FP x.v y.v))/\∃q os',w'=grow (W.drewN q) os'):=by
 obtain ⟨xv,xs,xB,xm,xd,xZ⟩:=x;obtain ⟨yv,ys,yB,ym,yd,yZ⟩:=y;obtain ⟨z0,z1,-,-⟩:=Aw 157 157 W #[.int .i64 xv,.bool xs,.slice xB xm xd] #[.int .i64 yv,.bool ys,.slice yB ym yd];have x0:=z0.c0;have y0:=z1.c0;show Calls _ _ #[.agg #[.int .i64 xv,.bool xs,.slice xB xm xd],.agg #[.int .i64 yv,.bool ys,.slice yB ym yd]] _ _;dsimp only
 go_enter Tryz.func176,Tryz.ntmps176;go_wp2_with (go_at_call 177;refine (ES _ _ _).mono ?_;rintro e w' ⟨rfl,rfl⟩);go_ret
 exact ⟨rfl,0,_,by rw[alloc_eq_grow,alloc_eq_grow,grow_grow];rfl⟩
end
section
open Go.RowKit
open Tm
instance:Inhabited PV:=⟨⟨0,false,none,0,0,0⟩⟩
theorem PV.one (p:PV):∀v∈p.cells,v.oneCell'=true:=by intro v hv;simp[PV.cells]at hv;rcases hv with rfl|rfl|rfl<;>rfl
theorem PV.nls (p:PV):CQ p.cells:=by
 intro v hv;simp[PV.cells]at hv;rcases hv with rfl|rfl|rfl
 · exact NL.i64 _
 · exact NL.bool _
 · exact NL.slice _ _ _
theorem MN {ps:List PV} {u:Value} (h:u∈flat ps):∃p∈ps,u∈p.cells:=by unfold flat at h;obtain ⟨l,hl,hu⟩:=List.mem_flatten.1 h;obtain ⟨p,hp,rfl⟩:=List.mem_map.1 hl;exact ⟨p,hp,hu⟩
theorem J0 (ps:List PV):∀u∈flat ps,u.oneCell'=true:=fun u hu=>by
 obtain ⟨p,_,h⟩:=MN hu;exact p.one u h
theorem J1 (ps:List PV):CQ (flat ps):=fun u hu=>by
 obtain ⟨p,_,h⟩:=MN hu;exact p.nls u h
open Go.Shelf Go.Lib Go.Sort in
theorem GR (d:Array PV):(flatK PV.cells 3 d).toList=flat d.toList:=by
 apply List.ext_getElem?;intro t;by_cases ht:t<d.size*3
 · have hq:t/3<d.size:=(by omega);have hg:d.toList[t/3]?=some d[t/3]:=(by simp[hq]);obtain ⟨g0,g1,g2⟩:=flat_get d.toList (t/3) _ hg;have h1:=get_flatK PV.cells 3 d t ht;have hs:t<(flatK PV.cells 3 d).size:=(by rw[size_flatK];exact ht);rw[getElem!_pos _ t hs,getElem!_pos d _ hq]at h1;have h2:(flatK PV.cells 3 d).toList[t]?=some ((d[t/3]).cells[t%3]!):=by
     rw[Array.getElem?_toList,Array.getElem?_eq_getElem hs,h1]
   rw[h2];clear h1 h2 hg;generalize d[t/3]=p at *;have h3:t%3=0\/t%3=1\/t%3=2:=(by omega);rcases h3 with h3|h3|h3
   · rw[show 3*(t/3)=t by omega]at g0;rw[h3,g0];simp[PV.cells]
   · rw[show 3*(t/3)+1=t by omega]at g1;rw[h3,g1];simp[PV.cells]
   · rw[show 3*(t/3)+2=t by omega]at g2;rw[h3,g2];simp[PV.cells]
 · rw[List.getElem?_eq_none (by simpa using ht),List.getElem?_eq_none (by rw[Dg];simp;omega)]
theorem GU {L:List (Int×Int)} (h:L.Pairwise fun p q=>p.1<=q.1) (b:Int) (hb:∀p∈L,b<=p.1):Jx b L:=by
 induction L generalizing b with
 |nil=>trivial
 |cons p L ih=> obtain ⟨v,c⟩:=p;rw[List.pairwise_cons]at h;exact ⟨hb (v,c) (List.mem_cons_self ..),ih h.2 v (fun q hq=>h.1 q hq)⟩
theorem Qc (L:List (Int×Int)):∃b,∀p∈L,b<=p.1:=by
 induction L with
 |nil=>exact ⟨0,fun p hp=>by cases hp⟩
 |cons p L ih=>
  obtain ⟨b,hb⟩:=ih;refine ⟨min b p.1,fun q hq=>?_⟩;rcases List.mem_cons.1 hq with rfl|hq
  · omega
  · have:=hb q hq;omega
open Go.Shelf Go.Lib Go.Sort in
theorem Gv (x y:PV):ltOf (fun a b:PV=>FP a.v b.v) x y=decide (x.v<y.v):=by
 unfold ltOf FP;by_cases h1:x.v<y.v
 · simp[h1]
 · by_cases h2:y.v<x.v
   · simp[h1,h2]
   · simp[h1,h2]
open Go.Shelf Go.Lib Go.Sort in
theorem VZ:SWO (ltOf fun a b:PV=>FP a.v b.v) where
 irrefl x:=by rw[Gv];simp
 trans x y z h1 h2:=by rw[Gv]at *;simp at *;omega
 ntrans x y z h1 h2:=by rw[Gv]at *;simp at *;omega
def RG (base g n c:Nat) (ps:List PV) (w:World) (e:Ending) (w':World):Prop:=
 e=.returned (.tuple #[])/\∃qs:List PV,qs.Perm ps/\Am 157 3 w' base (.slice (some ⟨g,0,none⟩) n c) n (flat qs)/\(∃b,Jx b (DO qs))/\An g w w'
open Go.Shelf Go.Lib Go.Sort in
theorem Lr (base g n c:Nat) (ps:List PV) (w:World) (h:Am 157 3 w base (.slice (some ⟨g,0,none⟩) n c) n (flat ps)) (hn:n<4611686018427387904) :
   Calls Tryz.prog 175 #[.slice (some ⟨g,0,none⟩) n c,.func (.func 176) #[] #[]] w (RG base g n c ps w):=by
 obtain ⟨hl,hv⟩:=h;rcases hv with ⟨hv,-⟩|⟨g',cap,cur,hv,hbase,hh,h1,h2,h3,h4,h5⟩
 · cases hv
 injection hv with e1 e2 e3
 injection e1 with e1
 injection e1 with e1
 subst e1 e3;have hpn:ps.length=n:=by rw[Dg]at hl;omega
 have eg:∀args w,(callFunc 176 args).run Tryz.prog w=.ok (.enter 176 args) w:=enters_of Tryz.func176 (by kernel_rfl) rfl;have hds:ps.toArray.size=n:=by simpa using hpn
 have hlt:g<w.heap.size:=(Array.getElem?_eq_some_iff.1 hh).1;have hH:HoldsK PV.cells 3 w g 0 ps.toArray:=by
   intro j hj;rw[size_flatK,hds]at hj;have hjs:j<(flatK PV.cells 3 ps.toArray).size:=(by rw[size_flatK,hds];exact hj);have e1:(flatK PV.cells 3 ps.toArray)[j]! = (flatK PV.cells 3 ps.toArray)[j]:=getElem!_pos _ j hjs;have e2:(flat ps)[j]?=some ((flatK PV.cells 3 ps.toArray)[j]):=by have:=GR ps.toArray;rw[show ps.toArray.toList=ps from rfl]at this;rw[<-this,Array.getElem?_toList,Array.getElem?_eq_getElem hjs]
   rw[e1,Nat.zero_add];refine ⟨?_,by simp[World.frozen?,hh]⟩;rw[cell_of_row w g j _ _ _ hh];rw[<-h4,List.getElem?_take_of_lt hj]at e2;simpa using e2
 have hcmp:CmpLays Tryz.prog 176 #[] PV.cells 3 (fun a b:PV=>FP a.v b.v) g 0 ps.toArray.size w:=fun _ _ _ _ x y=>NV x y _
 have hcon:=AnyQ.slices_SortFunc Tryz.sortPart 3 Tryz.isAgg157 Tryz.sizeOf157 PV.cells (fun _=>rfl) PV.one (fun a b:PV=>FP a.v b.v) VZ 176 #[] g 0 c ps.toArray w eg hcmp hH hlt (by rw[hds];exact hn);rw[hds]at hcon;refine Calls.mono hcon ?_;rintro e w' ⟨rfl,d',m,os,hp,hs,rfl⟩;have hds':d'.size=n:=by rw[hp.1,hds]
 refine ⟨rfl,d'.toList,?_,⟨by rw[Dg];simp[hds'];omega,.inr ⟨g,c,putCells id 0 (flatK PV.cells 3 d') cur,rfl,hbase,?_,h1,h2,?_,?_,?_⟩⟩,?_,?_⟩
 · have:=hp.2.2;rw[show d'.extract 0 n=d' by rw[<-hds'];simp,show ps.toArray.extract 0 n=ps.toArray by rw[<-hds];simp]at this;exact this
 · show (grow _ os).heap[g]?=_;rw[heap_grow_old _ _ (by rw[show (putRowK PV.cells 3 (Sort.ahead w m) g 0 d').heap.size=w.heap.size from size_putRowK _ _ _ _ _ _];exact hlt)];show ((w.heap.modify g (onCells (putCells id 0 (flatK PV.cells 3 d'))))[g]?)=_;rw[Array.getElem?_modify,if_pos rfl,hh];rfl
 · simpa[putCells] using h3
 · have hcs:n*3<=cur.size:=(by rw[h3];exact Nat.mul_le_mul_right _ h1);rw[<-GR d'];apply List.ext_getElem?;intro t;by_cases ht:t<n*3
   · have hts:t<(flatK PV.cells 3 d').size:=(by rw[size_flatK,hds'];exact ht);rw[List.getElem?_take_of_lt ht,Array.getElem?_toList,Array.getElem?_toList,Array.getElem?_eq_getElem hts];unfold putCells;rw[Array.getElem?_mapIdx,Array.getElem?_eq_getElem (by omega),Option.map_some,if_pos ⟨Nat.zero_le _,by omega⟩,Nat.sub_zero,getElem!_pos _ t hts];rfl
   · rw[List.getElem?_eq_none (by simp;omega),List.getElem?_eq_none (by simp[size_flatK,hds'];omega)]
 · intro u hu;unfold putCells at hu;rw[Array.toList_mapIdx]at hu;obtain ⟨i,hi,rfl⟩:=List.mem_mapIdx.1 hu;split
   · rename_i hr
     have hts:i-0<(flatK PV.cells 3 d').size:=(by omega);rw[getElem!_pos (flatK PV.cells 3 d') (i-0) hts];have:(flatK PV.cells 3 d')[i-0]∈flat d'.toList:=by rw[<-GR];simp
     exact J1 _ _ this
   · exact h5 _ (List.getElem_mem hi)
 · obtain ⟨b,hb⟩:=Qc (DO d'.toList);refine ⟨b,GU ?_ b hb⟩;unfold DO;rw[List.pairwise_map];rw[List.pairwise_iff_getElem];intro i j hi hj hij;have h6:=hs i j (Nat.zero_le _) hij (by simp at hj;omega);rw[Gv]at h6;simp at hi hj;rw[getElem!_pos d' i hi,getElem!_pos d' j hj]at h6;simp at h6;simpa[PV.part] using h6
 · refine ⟨rfl,rfl,rfl,?_,fun k hk hne=>?_⟩
   · show w.heap.size<=(grow _ os).heap.size;rw[size_grow,show (putRowK PV.cells 3 (Sort.ahead w m) g 0 d').heap.size=w.heap.size from size_putRowK _ _ _ _ _ _];omega
   · show (grow _ os).heap[k]?=_;rw[heap_grow_old _ _ (by rw[show (putRowK PV.cells 3 (Sort.ahead w m) g 0 d').heap.size=w.heap.size from size_putRowK _ _ _ _ _ _];exact hk)];show ((w.heap.modify g (onCells (putCells id 0 (flatK PV.cells 3 d'))))[k]?)=_;rw[Array.getElem?_modify,if_neg (fun e=>hne (by rw[e]))]
end
section
open Go.RowKit
open Tm
theorem Fl:(Tryz.prog.info? 157).map (fun i=>(i.zero,i.size,i.bytes))=some (some (.agg #[.int .i64 0,.bool false,.slice none 0 0]),3,40):=by kernel_rfl
theorem CV:CQ (Value.agg #[.int .i64 0,.bool false,.slice none 0 0]).cells.toList:=by
 show CQ [.int .i64 0,.bool false,.slice none 0 0];intro u hu;simp at hu;rcases hu with rfl|rfl|rfl
 · exact NL.i64 _
 · exact NL.bool _
 · exact NL.slice _ _ _
theorem addr_add (b o j:Nat):(⟨b,o,none⟩:Addr).add j=⟨b,o+j,none⟩:=by
 by_cases hj0:j=0
 · subst hj0;rfl
 · simp[Addr.add,hj0]
theorem Cf {w:World} {ops:Array Oper} {rest:List Oper} {o:Oper} {a:Act} {Q:Exit->Act->World->Prop} (hgd:o.guard=none) (s x:Operand)
  (ho:o.op=.call { callee:=.builtin .append,args:=#[s,x],argTypes:=#[50,50] }) (base:Nat) (v:Value) (ps:List PV) (hs:a.eval s=v) (hown:Am 157 3 w base v ps.length (flat ps))
  (b q m c:Nat) (qs:List PV) (hx:a.eval x=.slice (some ⟨b,q,none⟩) m c) (hl:qs.length=m) (hnews:∀j u,(flat qs)[j]?=some u->w.cell? ⟨b,q+j,none⟩=some u) (hn:ps.length+m<=1099511627776) (hbase:base<=w.heap.size)
  (h:∀v' w',Am 157 3 w' base v' (ps++qs).length (flat (ps++qs))->w.grownBy w' v.ownBlock->wpList Tryz.prog ops Q rest (a.put o.dst v') w'):wpList Tryz.prog ops Q (o::rest) a w:=by
 obtain ⟨i0,hi0,hz0,hz1,hz2⟩:=info_parts Fl;refine Bh hgd s x 50 ho base 157 i0 _ 3 40 Tryz.underlying50 hi0 hz0 hz1 hz2 rfl (by decide) CV v ps.length (flat ps) hs hown ⟨b,q,none⟩ m c (flat qs) hx (by rw[Dg];omega)
  (fun j u hu=>by rw[addr_add];exact hnews j u hu) (J0 qs) (J1 qs) (by unfold maxLen;omega) (by omega) hbase ?_
 intro v' w' h1 h2;refine h v' w' ?_ h2;rw[List.length_append,ID,hl];exact h1
theorem GV {P:Program} (w:World) (t e:TypeId) (a:Addr) (n c:Nat) (h:P.underlying t=some (.slice e)):(binOp .eql t (.slice (some a) n c) (.slice none 0 0)).run P w=.ok (.bool false) w:=by simp only[binOp];simp[Op.equal,Op.maxDepth,Lib.run_equalIn_slice_nil w 9999 t e (some a) n c 0 0 h]
def Fo (n:Nat) (ps:List PV) (w:World) (e:Ending) (w':World):Prop:=∃g c,e=.returned (.slice (some ⟨g,0,none⟩) n c)/\Am 157 3 w' w.heap.size (.slice (some ⟨g,0,none⟩) n c) n (flat ps)/\Below w.heap.size w w'
theorem JY (A:Option Addr) (n c:Nat) (ps:List PV) (k:Nat) (w:World) (hx:Ba w A n ps k) (h0:0<n) (hn:n<=1099511627) :
  Calls Tryz.prog 174 #[.slice A n c] w (Fo n ps w):=by
 obtain ⟨b,o,rfl,hc⟩:=hx.2.1 h0;have hl:=hx.1;go_enter Tryz.func174,Tryz.ntmps174;have heq:=fun W=>GV (P:=Tryz.prog) W 50 157 ⟨b,o,none⟩ n c Tryz.underlying50
 have hown:Am 157 3 (w.alloc (.cells #[] 157)) w.heap.size (.slice (some ⟨w.heap.size,0,none⟩) 0 0) ([]:List PV).length (flat []):=Am.made #[] 0 (Nat.le_refl _) (by unfold maxLen;omega) rfl (fun u hu=>by simp at hu);have hnews:∀j u,(flat ps)[j]?=some u->(w.alloc (.cells #[] 157)).cell? ⟨b,o+j,none⟩=some u:=fun j u hu=>by
  have h1:=hc j u hu;have hlt:=World.block_lt_of_cell? w _ h1;exact (World.cell?_of_block (w:=w) (a:=⟨b,o+j,none⟩) ((Ae w _).block b hlt)).trans h1
 have hnn:([]:List PV).length+n<=1099511627776:=by simp;omega
 have HO:=Aa hown;have HN:=Aa hnews;clear hown hnews hc;go_wp2_with (at_builtin;refine Cf rfl _ _ rfl w.heap.size _ [] rfl HO.out b o n c ps rfl hl HN.out hnn (by simp) ?_;intro v' w' h1 h2);rw[List.nil_append,hl]at h1;have hb:=HO.out.old (Ae w _) h2 (Nat.le_refl _) (Nat.le_refl _);obtain ⟨A',c',rfl,-,-,h5⟩:=h1.len;obtain ⟨g,rfl⟩:=h5 h0;clear h2 heq;go_wp2_with fail;go_ret
 exact ⟨g,c',rfl,h1,hb⟩
end
end Go.Proofs.YtgohmojcopajoaaGreatDoor.Nu
