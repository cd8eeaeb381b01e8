/- Texts of one seat, put together: RowL Region2 TermMath. -/
import Derived.Test.YtgohmojcopajoaaGreatDoorH14
import Derived.Test.YtgohmojcopajoaaGreatDoorH01
set_option linter.unusedVariables false
set_option linter.unusedSimpArgs false
set_option maxRecDepth 100000
set_option maxHeartbeats 16000000
namespace Go.Proofs.YtgohmojcopajoaaGreatDoor.Nu
section
open Go.RowKit
def Kp (w w':World):Prop:=∀A n xs,Nums w A n xs->Nums w' A n xs
theorem Kp.refl (w:World):Kp w w:=fun _ _ _ h=>h
theorem Kp.trans {a b c:World} (h:Kp a b) (k:Kp b c):Kp a c:=fun _ _ _ hx=>k _ _ _ (h _ _ _ hx)
theorem Kp.of_below {w w':World} (h:Below w.heap.size w w'):Kp w w':=fun _ _ _ hx=>hx.below h
theorem AL.kp {w w':World} {v:Value} {Z:Int} {k:Nat} (h:AL w v Z k) (hk:Kp w w'):AL w' v Z k:=by obtain ⟨A,n,c,rfl,h1,h2,h3,h4⟩:=h;exact ⟨A,n,c,rfl,hk _ _ _ h1,h2,h3,h4⟩
theorem Cy.kp {w w':World} {v:Value} {Z:Int} {k:Nat} (h:Cy w v Z k) (hk:Kp w w'):Cy w' v Z k:=by obtain ⟨s,A,n,c,xs,rfl,h1,h2,h3,h4,h5⟩:=h;exact ⟨s,A,n,c,xs,rfl,hk _ _ _ h1,h2,h3,h4,h5⟩
def NL (u:Value):Prop:=∀z,u≠.int .u32 z
def Cw (xs:List Value):Prop:=∀u∈xs,NL u
theorem Cw.append {xs ys:List Value} (h:Cw xs) (k:Cw ys):Cw (xs++ys):=fun u hu=>(List.mem_append.1 hu).elim (h u) (k u)
theorem Cw.take {xs:List Value} (h:Cw xs) (n:Nat):Cw (xs.take n):=fun u hu=>h u (List.mem_of_mem_take hu)
theorem Cw.drop {xs:List Value} (h:Cw xs) (n:Nat):Cw (xs.drop n):=fun u hu=>h u (List.mem_of_mem_drop hu)
theorem NL.bool (b:Bool):NL (.bool b):=fun _ h=>by cases h
theorem NL.slice (A:Option Addr) (n c:Nat):NL (.slice A n c):=fun _ h=>by cases h
theorem NL.i64 (z:Int):NL (.int .i64 z):=fun _ h=>by cases h
theorem Kp.block {w w':World} {g:Nat} {cur:Array Value} {T:TypeId} (hb:w.heap[g]?=some (.cells cur T (0,0))) (hn:Cw cur.toList) (hg:w.grownBy w' (some g)):Kp w w':=by
 intro A n xs hx;refine hx.grown' hg (fun h0 ad had he=>?_);obtain ⟨b,o,e,hc⟩:=hx.2.2 h0;have h1:=hc 0 h0;rw[had]at e;injection e with e
 subst e;have he':b=g:=he;subst he';rw[cell_of_row w b _ _ _ _ hb]at h1;have h2:(Value.int .u32 ((xs.getD 0 0:Nat):Int))∈cur.toList:=by have:=Array.mem_of_getElem? h1;simpa using this
 exact hn _ h2 _ rfl
theorem Kp.none {w w':World} (hg:w.grownBy w' none):Kp w w':=fun _ _ _ hx=>hx.grownNone hg
def Ak (T:TypeId) (sz:Nat) (w:World) (base:Nat) (v:Value) (n:Nat) (xs:List Value):Prop:=
 xs.length=n*sz/\((v=.slice none 0 0/\n=0) \/
  ∃g cap cur,v=.slice (some ⟨g,0,none⟩) n cap/\base<=g/\w.heap[g]?=some (.cells cur T (0,0))/\n<=cap/\cap<=maxLen/\cur.size=cap*sz/\cur.toList.take (n*sz)=xs/\Cw cur.toList)
section
variable {T:TypeId} {sz:Nat} {w w':World} {base:Nat} {v:Value} {n:Nat} {xs:List Value}
theorem Ak.nil (T:TypeId) (sz:Nat) (w:World) (base:Nat):Ak T sz w base (.slice none 0 0) 0 []:=⟨by simp,.inl ⟨rfl,rfl⟩⟩
theorem Ak.made (cur:Array Value) (cap:Nat) (hb:base<=w.heap.size) (hm:cap<=maxLen) (hs:cur.size=cap*sz) (hn:Cw cur.toList) :
  Ak T sz (w.alloc (.cells cur T)) base (.slice (some ⟨w.heap.size,0,none⟩) 0 cap) 0 []:=
 ⟨by simp,.inr ⟨w.heap.size,cap,cur,rfl,hb,heap_alloc_new w _,Nat.zero_le _,hm,hs,by simp,hn⟩⟩
theorem Ak.lit (cur:Array Value) (n:Nat) (hb:base<=w.heap.size) (hm:n<=maxLen) (hs:cur.size=n*sz) (hn:Cw cur.toList) :
  Ak T sz (w.alloc (.cells cur T)) base (.slice (some ⟨w.heap.size,0,none⟩) n n) n cur.toList:=
 ⟨by simpa using hs,.inr ⟨w.heap.size,n,cur,rfl,hb,heap_alloc_new w _,Nat.le_refl _,hm,hs,List.take_of_length_le (by simpa using Nat.le_of_eq hs),hn⟩⟩
theorem Ak.lt (h:Ak T sz w base v n xs):∀k,v.ownBlock=some k->base<=k/\k<w.heap.size:=by
 intro k hk;rcases h.2 with ⟨rfl,_⟩|⟨g,cap,cur,rfl,hb,hg,_⟩
 · simp[Value.ownBlock]at hk
 · simp[Value.ownBlock]at hk;subst hk;exact ⟨hb,(Array.getElem?_eq_some_iff.1 hg).1⟩
theorem Ak.kept {row:Option Nat} (h:Ak T sz w base v n xs) (hg:w.grownBy w' row) (hne:v.ownBlock=none\/v.ownBlock≠row):Ak T sz w' base v n xs:=by
 refine ⟨h.1,?_⟩;rcases h.2 with hn|⟨g,cap,cur,rfl,hb,hgg,rest⟩
 · exact .inl hn
 · refine .inr ⟨g,cap,cur,rfl,hb,?_,rest⟩;rw[hg.block g (Array.getElem?_eq_some_iff.1 hgg).1 (by simpa[Value.ownBlock] using hne)];exact hgg
theorem Ak.below (h:Ak T sz w base v n xs) (hb:Below w.heap.size w w'):Ak T sz w' base v n xs:=
 h.kept (row:=none) ⟨hb.os,hb.tape,hb.output,hb.size,fun k hk _=>hb.block k hk⟩ (by
  by_cases h0:v.ownBlock=none
  · exact .inl h0
  · exact .inr h0)
theorem Ak.other {g:Nat} (h:Ak T sz w base v n xs) (ho:Ai g w w') (hg:g<base\/w.heap.size<=g):Ak T sz w' base v n xs:=
 h.kept ho (by
  cases hv:v.ownBlock with
  |none=>exact .inl rfl
  |some k=> have:=h.lt k hv;exact .inr (fun e=>by injection e with e;omega))
theorem Ak.len (h:Ak T sz w base v n xs):∃A c,v=.slice A n c/\n<=c/\c<=9223372036854775807/\(0<n->∃g,A=some ⟨g,0,none⟩):=by
 rcases h.2 with ⟨rfl,rfl⟩|⟨g,cap,cur,rfl,_,_,h1,h2,_⟩
 · exact ⟨none,0,rfl,by omega,by omega,fun h=>absurd h (by omega)⟩
 · unfold maxLen at h2;exact ⟨_,cap,rfl,h1,h2,fun _=>⟨g,rfl⟩⟩
theorem Ak.cell {A:Option Addr} {c:Nat} (h:Ak T sz w base (.slice A n c) n xs) (hn:0<n):∃g,A=some ⟨g,0,none⟩/\base<=g/\g<w.heap.size/\∀j u,xs[j]?=some u->w.cell? ⟨g,j,none⟩=some u/\w.frozen? ⟨g,j,none⟩=false:=by
 rcases h.2 with ⟨hv,h0⟩|⟨g,cap,cur,hv,hb,hh,_,_,_,ht,_⟩
 · omega
 · injection hv with hv
   refine ⟨g,hv,hb,(Array.getElem?_eq_some_iff.1 hh).1,fun j u hu=>⟨?_,by simp[World.frozen?,hh]⟩⟩;rw[cell_of_row w g j _ _ _ hh];rw[<-ht,List.getElem?_take]at hu;split at hu
   · simpa using hu
   · cases hu
theorem Ak.isNLs (h:Ak T sz w base v n xs):Cw xs:=by
 rcases h.2 with ⟨_,rfl⟩|⟨g,cap,cur,_,_,_,_,_,_,ht,hn⟩
 · have:xs=[]:=List.eq_nil_of_length_eq_zero (by simpa using h.1);subst this;intro u hu;cases hu
 · rw[<-ht];exact hn.take _
theorem Ak.kp (h:Ak T sz w base v n xs) (hg:w.grownBy w' v.ownBlock):Kp w w':=by
 rcases h.2 with ⟨rfl,_⟩|⟨g,cap,cur,rfl,_,hh,_,_,_,_,hn⟩
 · exact Kp.none hg
 · exact Kp.block hh hn hg
theorem Ak.back {B:Nat} (h:Ak T sz w base v n xs) (hg:w.grownBy w' v.ownBlock) (hB:B<=base) (hw:B<=w.heap.size):Below B w w':=
 (Below.refl _ _).grown hg hw (fun k hk=>by have:=(h.lt k hk).1;omega)
theorem Ak.old {w0:World} {B:Nat} (h:Ak T sz w base v n xs) (h0:Below B w0 w) (hg:w.grownBy w' v.ownBlock) (hB:B<=base) (hw:B<=w0.heap.size):Below B w0 w':=
 h0.trans (h.back hg hB (Nat.le_trans hw h0.size))
theorem Ak.set {g c j:Nat} {u:Value} (h:Ak T sz w base (.slice (some ⟨g,0,none⟩) n c) n xs) (hu:NL u):Ak T sz (w.setCell ⟨g,j,none⟩ u) base (.slice (some ⟨g,0,none⟩) n c) n (xs.set j u):=by
 refine ⟨by simpa using h.1,?_⟩;rcases h.2 with ⟨hv,_⟩|⟨g',cap,cur,hv,hb,hh,h1,h2,h3,h4,h5⟩
 · cases hv
 · injection hv with e1 e2 e3
   injection e1 with e1
   injection e1 with e1
   subst e1 e3;refine .inr ⟨g,c,cur.setIfInBounds j u,rfl,hb,?_,h1,h2,by simpa using h3,?_,?_⟩
   · simp[World.setCell,Array.getElem?_modify,hh]
   · rw[Array.toList_setIfInBounds,List.take_set,h4]
   · intro x hx;rw[Array.toList_setIfInBounds]at hx;rcases List.mem_or_eq_of_mem_set hx with hx|rfl
     · exact h5 x hx
     · exact hu
end
section
variable {P:Program} (w:World)
theorem CS (base:Nat) (t ty e:TypeId) (i:TypeInfo) (z:Value) (size bytes:Nat) (ht:P.underlying t=some (.slice e)) (hi:P.info? e=some i) (hz:i.zero=some z)
   (hsize:i.size=size) (hby:i.bytes=bytes) (hzs:z.cells.size=size) (hsz:0<size) (hzn:Cw z.cells.toList)
   (v:Value) (n:Nat) (xs:List Value) (hown:Ak e size w base v n xs)
   (a:Addr) (m c:Nat) (news:List Value) (hl:news.length=m*size) (hnews:∀j u,news[j]?=some u->w.cell? (a.add j)=some u) (h1:∀u∈news,u.oneCell'=true) (hnn:Cw news)
   (h63:n+m<=maxLen) (hbytes:(n+m)*bytes<=140737488355328) (hbase:base<=w.heap.size) :
   ∃v' w',(Builtin.append_ #[t,t] ty #[v,.slice (some a) m c]).run P w=.ok v' w'/\Ak e size w' base v' (n+m) (xs++news)/\w.grownBy w' v.ownBlock:=by
 subst hsize;subst hby;have hsmall:n+m<=9223372036854775807:=by simp only[maxLen]at h63;omega
 have hlen:(xs++news).length=(n+m)*i.size:=by rw[List.length_append,hown.1,hl,Nat.add_mul]
 have hxn:=hown.isNLs;have hzz:∀k,Cw (Builtin.zeroCells z.cells k).toList:=by intro k u hu;have h2:u∈(Builtin.zeroCells z.cells k):=(by simpa using hu);unfold Builtin.zeroCells at h2;obtain ⟨q,-,hq⟩:=Array.mem_map.1 h2;have hlt:q%z.cells.size<z.cells.size:=Nat.mod_lt _ (by omega);rw[getElem!_pos z.cells _ hlt]at hq;exact hzn u (by rw[<-hq];simp)
 have grown:∀(old:Nat),old<n+m->∀(row:Option Nat),
     Ak e i.size (w.drew.alloc (.cells (xs.toArray++news.toArray++Builtin.zeroCells z.cells (grownCap w (n+m) old e-(n+m))) e)) base
       (.slice (some ⟨w.heap.size,0,none⟩) (n+m) (grownCap w (n+m) old e)) (n+m) (xs++news) /\
     w.grownBy (w.drew.alloc (.cells (xs.toArray++news.toArray++Builtin.zeroCells z.cells (grownCap w (n+m) old e-(n+m))) e)) row:=by
   intro old ho row;have hge:=grownCap_ge w (n+m) old e;have hcm:grownCap w (n+m) old e<=maxLen:=grownCap_le_maxLen w (n+m) old e h63;refine ⟨⟨hlen,.inr ⟨w.heap.size,_,_,rfl,hbase,heap_alloc_new w.drew _,hge,hcm,?_,?_,?_⟩⟩,⟨rfl,rfl,rfl,by simp,fun k hk _=>Below.heap_alloc w.drew _ k hk⟩⟩
   · simp only[Array.size_append,List.size_toArray,size_zeroCells,hzs,hown.1,hl,<-Nat.add_mul];congr 1
     omega
   · simp only[Array.toList_append,List.append_assoc];rw[<-List.append_assoc,<-hlen];exact List.take_left
   · simp only[Array.toList_append];exact (hxn.append hnn).append (hzz _)
 rcases hown.2 with ⟨rfl,rfl⟩|⟨g,cap,cur,rfl,hbg,hg,hnc,hcm,hcs,htake,hcn⟩
 · have hx:xs=[]:=List.eq_nil_of_length_eq_zero (by simpa using hown.1);subst hx;by_cases hm:m=0
   · subst hm;have hn:news=[]:=List.eq_nil_of_length_eq_zero (by simpa using hl);subst hn;refine ⟨.slice none 0 0,w,?_,Ak.nil e i.size w base,⟨rfl,rfl,rfl,Nat.le_refl _,fun _ _ _=>rfl⟩⟩;simp[Builtin.append_,run_underlying ht,sizeOf,typeInfo,hi,Builtin.lenOf,Builtin.firstCells,loadCells,loadCellsFrom]
   · have hr:=run_append_nil (P:=P) w t ty e i z ht hi hz a m c news hl hnews (by omega) (by omega) (by have hb:=hbytes;simp only[Nat.zero_add]at hb;omega);have hgr:=grown 0 (by omega) (Value.ownBlock (.slice none 0 0));simp only[Nat.zero_add,List.nil_append,Array.empty_append]at hgr ⊢;exact ⟨_,_,hr,hgr.1,hgr.2⟩
 · by_cases hroom:n+m<=cap
   · have hfit:n*i.size+news.length<=cur.size:=(by rw[hl,hcs,<-Nat.add_mul];exact Nat.mul_le_mul_right _ hroom);have hr:=run_append_room (P:=P) w t ty e i ht hi g n cap cur hg a m c news hl hnews h1 hroom hfit;refine ⟨_,_,hr,⟨hlen,.inr ⟨g,cap,_,rfl,hbg,setRow_heap w g cur _ e _ hg,hroom,hcm,?_,?_,?_⟩⟩,⟨rfl,rfl,rfl,by simp,fun k _ hk=>setRow_other w g k _ (fun e=>hk (by simp[Value.ownBlock,e]))⟩⟩
     · simp only[List.size_toArray,List.length_append,List.length_take,List.length_drop,Array.length_toList];omega
     · rw[htake,<-hlen];exact List.take_left
     · exact ((hcn.take _).append hnn).append (hcn.drop _)
   · have holds:∀j u,xs[j]?=some u->w.cell? ((⟨g,0,none⟩:Addr).add j)=some u:=by
       intro j u hu;have hadd:(⟨g,0,none⟩:Addr).add j=⟨g,j,none⟩:=(by unfold Addr.add;split<;>simp_all);rw[hadd,cell_of_row w g j cur e (0,0) hg];rw[<-htake,List.getElem?_take]at hu;split at hu
       · simpa using hu
       · cases hu
     have hr:=run_append_grow (P:=P) w t ty e i z ht hi hz ⟨g,0,none⟩ n cap xs hown.1 holds a m c news hl hnews (by omega) (by omega) (growslice_fits (by omega) hbytes);have hgr:=grown cap (by omega) (Value.ownBlock (.slice (some ⟨g,0,none⟩) n cap));exact ⟨_,_,hr,hgr.1,hgr.2⟩
end
theorem CZ {P:Program} {w w':World} {o:Oper} {a:Act} {s x:Operand} {t:TypeId} {vs vx v':Value} (ho:o.op=.call { callee:=.builtin .append,args:=#[s,x],argTypes:=#[t,t] })
  (hs:a.eval s=vs) (hx:a.eval x=vx) (hr:(Builtin.append_ #[t,t] o.type #[vs,vx]).run P w=.ok v' w'):(execOp a.eval o).run P w=.ok (.value v') w':=by
 unfold execOp;simp only[ho,resolve,invoke,builtin,Sem.run_bind,Sem.run_pure,Result.andThen_ok,List.map_toArray,List.map_cons,List.map_nil,hs,hx,hr]
theorem Ba {P:Program} {w:World} {ops:Array Oper} {rest:List Oper} {o:Oper} {a:Act} {Q:Exit->Act->World->Prop} (hgd:o.guard=none) (s x:Operand) (t:TypeId)
  (ho:o.op=.call { callee:=.builtin .append,args:=#[s,x],argTypes:=#[t,t] }) (base:Nat) (e:TypeId) (i:TypeInfo) (z:Value) (size bytes:Nat) (ht:P.underlying t=some (.slice e)) (hi:P.info? e=some i) (hz:i.zero=some z)
  (hsize:i.size=size) (hby:i.bytes=bytes) (hzs:z.cells.size=size) (hsz:0<size) (hzn:Cw z.cells.toList)
  (v:Value) (n:Nat) (xs:List Value) (hs:a.eval s=v) (hown:Ak e size w base v n xs)
  (ad:Addr) (m c:Nat) (news:List Value) (hx:a.eval x=.slice (some ad) m c) (hl:news.length=m*size) (hnews:∀j u,news[j]?=some u->w.cell? (ad.add j)=some u) (h1:∀u∈news,u.oneCell'=true) (hnn:Cw news)
  (h63:n+m<=maxLen) (hbytes:(n+m)*bytes<=140737488355328) (hbase:base<=w.heap.size)
  (h:∀v' w',Ak e size w' base v' (n+m) (xs++news)->w.grownBy w' v.ownBlock->wpList P ops Q rest (a.put o.dst v') w'):wpList P ops Q (o::rest) a w:=by
 obtain ⟨v',w',hr,h2,h3⟩:=CS (P:=P) w base t o.type e i z size bytes ht hi hz hsize hby hzs hsz hzn v n xs hown ad m c news hl hnews h1 hnn h63 hbytes hbase;refine wpList_plain hgd fun K hK=>?_
 unfold Oper.wp;rw[CZ ho hs hx hr];exact hK _ _ (h v' w' h2 h3)
end
section
open Go.RowKit
section
variable {P:Program} {ops:Array Oper} {Q:Exit->Act->World->Prop}
theorem Hm {σ:Nat->Value} {listed:Array Bool} {t:Tmp}:∀(js:List Nat) (a:Act),(∀j∈js,An ops j=some t->listed.getD j false=false)->(fill ops σ listed js a).eval (.tmp t)=a.eval (.tmp t)
 |[],_,_=>rfl
 |j::js,a,h=>by
  unfold fill;rw[Hm js _ (fun x hx=>h x (List.mem_cons_of_mem _ hx))];split
  · rename_i hl
    exact eval_put_ne _ _ _ _ (fun e=>by rw[h j (List.mem_cons_self ..) e]at hl;cases hl)
  · rfl
theorem GJ {a:Act} {σ:Nat->Value} {listed:Array Bool} {t:Tmp} (h:∀j,An ops j=some t->listed.getD j false=false):(mid ops σ listed a).eval (.tmp t)=a.eval (.tmp t):=
 Hm _ a (fun j _=>h j)
theorem Ag {t:Tmp} {listed:Array Bool} (h:Oo ops t=true):∀j,An ops j=some t->listed.getD j false=false:=by
 intro j hj;rcases Nat.lt_or_ge j ops.size with hlt|hge
 · have:=List.all_eq_true.1 h j (List.mem_range.2 hlt);rw[hj]at this;simp at this
 · simp[An,Array.getElem?_eq_none hge]at hj
def SH (ops:Array Oper) (t:Tmp) (j:Nat):Bool:=(List.range ops.size).all fun i=>i==j || An ops i != some t
theorem D6 {t:Tmp} {j:Nat} {listed:Array Bool} (h:SH ops t j=true) (hl:listed.getD j false=false):∀i,An ops i=some t->listed.getD i false=false:=by
 intro i hi;rcases Nat.lt_or_ge i ops.size with hlt|hge
 · have:=List.all_eq_true.1 h i (List.mem_range.2 hlt);rw[hi]at this;simp at this;rw[this];exact hl
 · simp[An,Array.getElem?_eq_none hge]at hi
theorem Cd {md:Region.Mode} {listed:Array Bool} {i k:Nat} (hc:AQ md ops listed) (hi:listed.getD i false=false) (hw:((ops[k]?).map fun o=>o.after.any fun e=>e.on==i&&Region.binds md e)=some true):listed.getD k false=false:=by
 cases hk:listed.getD k false with
 |false=>rfl
 |true=>
  cases ho:ops[k]? with
  |none=>rw[ho]at hw;cases hw
  |some o=> rw[ho]at hw;simp only[Option.map_some,Option.some.injEq]at hw;obtain ⟨x,hx,h1⟩:=Array.any_eq_true.1 hw;simp only[Bool.and_eq_true,beq_iff_eq]at h1;have h2:=hc k o ho hk _ (Array.getElem_mem hx) h1.2;rw[h1.1,hi]at h2;cases h2
def KW (P:Program) (ops:Array Oper) (a0:Act) (T:World->World->Prop) (F:Nat->Value->World->Prop) (G:Array Bool->(Nat->Value)->World->Prop) (i:Nat) (o:Oper):Prop:=
 ∀(listed:Array Bool) (σ:Nat->Value) (w:World) (a:Act),(∀j t,An ops j=some t->listed.getD j false=true->a.tmps.getD t undef=σ j)->(∀t,(∀j,An ops j=some t->listed.getD j false=false)->a.tmps.getD t undef=a0.tmps.getD t undef) ->
  listed.getD i false=false->AQ .any ops listed->(∀e∈o.after,Region.binds .any e=true->listed.getD e.on false=true)->G listed σ w->(∀j,listed.getD j false=true->F j (σ j) w) ->
  Ac ops a o w (fun v w'=>T w w'/\F i v w'/\G (listed.setIfInBounds i true) (upd σ i v) w') (Does P a o w (fun v w'=>T w w'/\F i v w'/\G (listed.setIfInBounds i true) (upd σ i v) w'))
theorem GK {a0:Act} {T:World->World->Prop} {F:Nat->Value->World->Prop} {G:Array Bool->(Nat->Value)->World->Prop} (ho:ownB ops a0.tmps.size=true) (hF:∀j v w w',T w w'->F j v w->F j v w')
   (hstep:Each (KW P ops a0 T F G) 0 ops.toList) {K:Act->World->Prop} {i:Nat} {o:Oper} {listed:Array Bool} {σ:Nat->Value} {w:World} (hio:ops[i]?=some o) (hl:listed.getD i true=false) (hc:AQ .any ops listed)
   (hp:∀e∈o.after,Region.binds .any e=true->listed.getD e.on false=true) (hG:G listed σ w) (hF1:∀j,listed.getD j false=true->F j (σ j) w)
   (hK:∀σ' w',G (listed.setIfInBounds i true) σ' w'->(∀j,(listed.setIfInBounds i true).getD j false=true->F j (σ' j) w')->K (mid ops σ' (listed.setIfInBounds i true) a0) w'):wpOp P ops Q i K (mid ops σ listed a0) w:=by
 have hlt:i<ops.size:=(Array.getElem?_eq_some_iff.1 hio).1;have h1:=Each.get ops.toList 0 hstep i o (by simpa using hio);rw[Nat.zero_add]at h1;refine Ac.step hio (h1 listed σ w (mid ops σ listed a0) (fun j t hd hj=>GI ho hd hj) (fun t ht=>GJ ht) (FX hl) hc hp hG hF1) ?_;rintro v w' ⟨hT,hFi,hG'⟩;have hd:o.dst=An ops i:=by simp[An,hio]
 rw[hd,show (mid ops σ listed a0).put (An ops i) v=mid ops (upd σ i v) (listed.setIfInBounds i true) a0 from (Dk ho hlt hl _ _ List.nodup_range (fun j hj=>List.mem_range.1 hj) (List.mem_range.2 hlt)).symm];refine hK _ _ hG' (fun j hj=>?_);by_cases hji:j=i
 · subst hji;rw[C8];exact hFi
 · rw[upd_ne σ v hji];rw[getD_set_ne false (Ne.symm hji)]at hj;exact hF j _ _ _ hT (hF1 j hj)
theorem FY {σ:Nat->Value} {n:Nat} (a:Act):mid ops σ (Array.replicate n false) a=a:=by
 unfold mid;have:∀(js:List Nat) (a:Act),fill ops σ (Array.replicate n false) js a=a:=by
  intro js;induction js with
  |nil=>intro a;rfl
  |cons j js ih=> intro a;unfold fill;rw[if_neg (by rw[BH];exact Bool.false_ne_true),ih]
 exact this _ _
theorem BJ {id:Nat} {a0:Act} {w:World} (hm:P.follows .mixedOrders=true) (hb:FS ops=true) (ho:ownB ops a0.tmps.size=true) (T:World->World->Prop) (F:Nat->Value->World->Prop) (G:Array Bool->(Nat->Value)->World->Prop)
   (hF:∀j v w w',T w w'->F j v w->F j v w') (h0:∀σ,G (Array.replicate ops.size false) σ w.drew)
   (hstep:Each (KW P ops a0 T F G) 0 ops.toList)
   (hend:∀(listed:Array Bool) (σ:Nat->Value) (w:World),En ops.size listed->G listed σ w->(∀j,j<ops.size->F j (σ j) w)->Q .normal (mid ops σ listed a0) w):(Code.region id ops true).wp P Q a0 w:=by
 refine CP hm hb (fun listed a w=>∃σ,a=mid ops σ listed a0/\G listed σ w/\∀j,listed.getD j false=true->F j (σ j) w) ?_ ?_ ?_
 · exact ⟨fun _=>undef,(FY a0).symm,h0 _,fun j hj=>by rw[BH]at hj;cases hj⟩
 · rintro i o listed a w hio hs hl hc hp ⟨σ,rfl,hG,hF1⟩;exact GK ho hF hstep hio hl hc hp hG hF1 (fun σ' w' hG' hF'=>⟨σ',rfl,hG',hF'⟩)
 · rintro listed a w hs hall ⟨σ,rfl,hG,hF1⟩;exact hend listed σ w hall hG (fun j hj=>hF1 j (hall j hj))
def Wp (n k:Nat):Array Bool:=Array.ofFn (n:=n) fun i=>decide (i.val<k)
def FZ (ops:Array Oper):Bool:=match ops[ops.size-1]? with
 |none=>false
 |some o=>(List.range (ops.size-1)).all fun j=>o.after.any fun e=>Region.binds .any e&&(e.on==j || match ops[e.on]? with
  |none=>false
  |some o2=>o2.after.any fun e2=>e2.on==j&&Region.binds .any e2)
theorem Er (h:FZ ops=true) {listed:Array Bool} {o:Oper} (ho:ops[ops.size-1]?=some o) (hc:AQ .any ops listed) (hp:∀e∈o.after,Region.binds .any e=true->listed.getD e.on false=true):∀j,j<ops.size-1->listed.getD j false=true:=by
 intro j hj;unfold FZ at h;rw[ho]at h;have h1:=List.all_eq_true.1 h j (List.mem_range.2 hj);obtain ⟨x,hx,h2⟩:=Array.any_eq_true.1 h1;simp only[Bool.and_eq_true,Bool.or_eq_true,beq_iff_eq]at h2;have h3:=hp _ (Array.getElem_mem hx) h2.1;rcases h2.2 with h4|h4
 · rw[h4]at h3;exact h3
 · cases ho2:ops[(o.after[x]).on]? with
   |none=>rw[ho2]at h4;cases h4
   |some o2=> rw[ho2]at h4;obtain ⟨y,hy,h5⟩:=Array.any_eq_true.1 h4;simp only[Bool.and_eq_true,beq_iff_eq]at h5;have h6:=hc _ _ ho2 h3 _ (Array.getElem_mem hy) h5.2;rw[h5.1]at h6;exact h6
def IW (ops:Array Oper) (σ:Nat->Value) (v:Value) (a:Act):Act:=((List.range (ops.size-1)).foldl (fun a j=>a.put (An ops j) (σ j)) a).put (An ops (ops.size-1)) v
theorem CL {listed:Array Bool} {σ:Nat->Value} {v:Value} {a:Act} (_h:∀j,j<ops.size-1->listed.getD j false=true):IW ops σ v a=((List.range (ops.size-1)).foldl (fun a j=>a.put (An ops j) (σ j)) a).put (An ops (ops.size-1)) v:=rfl
theorem EU {σ:Nat->Value} {n:Nat} {v:Value}:∀(js:List Nat) (a:Act),(∀j∈js,j≠n)->js.foldl (fun a j=>a.put (An ops j) (upd σ n v j)) a=js.foldl (fun a j=>a.put (An ops j) (σ j)) a
 |[],_,_=>rfl
 |j::js,a,h=>by
  rw[List.foldl_cons,List.foldl_cons,upd_ne σ v (h j (List.mem_cons_self ..))];exact EU js _ (fun x hx=>h x (List.mem_cons_of_mem _ hx))
theorem Oq {σ:Nat->Value} {v:Value} {a:Act} (h:0<ops.size):(List.range ops.size).foldl (fun a j=>a.put (An ops j) (upd σ (ops.size-1) v j)) a=IW ops σ v a:=by obtain ⟨m,hm⟩:∃m,ops.size=m+1:=⟨ops.size-1,by omega⟩;unfold IW;have hf:=EU (ops:=ops) (σ:=σ) (n:=m) (v:=v) (List.range m) a (fun j hj=>by have:=List.mem_range.1 hj;omega);rw[hm,List.range_succ,List.foldl_append,Nat.add_sub_cancel,hf];show Act.put _ _ (upd σ m v m)=_;rw[C8]
def MG (P:Program) (ops:Array Oper) (a0:Act) (F:Nat->Value->World->Prop) (G:Array Bool->(Nat->Value)->World->Prop) (R:Act->World->Prop) (o:Oper):Prop:=
 ∀(listed:Array Bool) (σ:Nat->Value) (w:World) (a:Act),(∀j,j<ops.size-1->listed.getD j false=true)->(∀j t,An ops j=some t->j<ops.size-1->a.tmps.getD t undef=σ j)->(∀t,(∀j,An ops j=some t->j=ops.size-1)->a.tmps.getD t undef=a0.tmps.getD t undef) ->
  G listed σ w->(∀j,j<ops.size-1->F j (σ j) w)->Ac ops a o w (fun v w'=>R (IW ops σ v a0) w') (Does P a o w (fun v w'=>R (IW ops σ v a0) w'))
def Es (R:Nat->Oper->Prop):Nat->List Oper->Prop
 |_,[]=>True
 |_,[_]=>True
 |i,o::p::os=>R i o/\Es R (i+1) (p::os)
theorem Es.get {R:Nat->Oper->Prop}:∀(os:List Oper) (k:Nat),Es R k os->∀i o,i<os.length-1->os[i]?=some o->R (k+i) o
 |[],_,_,i,o,hi,h=>by simp at h
 |[x],_,_,i,o,hi,h=>by simp at hi
 |x::y::os,k,h,i,o,hi,ho=>by
  cases i with
  |zero=>simp at ho;subst ho;exact h.1
  |succ i=> have:=Es.get (y::os) (k+1) h.2 i o (by simp at hi ⊢;omega) (by simpa using ho);rw[show k+(i+1)=k+1+i by omega];exact this
def MH (P:Program) (ops:Array Oper) (a0:Act) (T:World->World->Prop) (F:Nat->Value->World->Prop) (G:Array Bool->(Nat->Value)->World->Prop) (i:Nat) (o:Oper):Prop:=
 ∀(listed:Array Bool) (σ:Nat->Value) (w:World) (a:Act),(∀j t,An ops j=some t->listed.getD j false=true->a.tmps.getD t undef=σ j)->(∀t,(∀j,An ops j=some t->listed.getD j false=false)->a.tmps.getD t undef=a0.tmps.getD t undef) ->
  listed.getD i false=false->listed.getD (ops.size-1) false=false->listed.size=ops.size->AQ .any ops listed->(∀e∈o.after,Region.binds .any e=true->listed.getD e.on false=true)->G listed σ w->(∀j,listed.getD j false=true->F j (σ j) w) ->
  Ac ops a o w (fun v w'=>T w w'/\F i v w'/\G (listed.setIfInBounds i true) (upd σ i v) w') (Does P a o w (fun v w'=>T w w'/\F i v w'/\G (listed.setIfInBounds i true) (upd σ i v) w'))
theorem GL {a0:Act} {T:World->World->Prop} {F:Nat->Value->World->Prop} {G:Array Bool->(Nat->Value)->World->Prop} {R:Act->World->Prop} (ho:ownB ops a0.tmps.size=true) (hla:FZ ops=true) (hF:∀j v w w',T w w'->F j v w->F j v w')
   (hstep:Es (MH P ops a0 T F G) 0 ops.toList) (hlast:∀o,ops[ops.size-1]?=some o->MG P ops a0 F G R o) {K:Act->World->Prop} {i:Nat} {o:Oper} {listed:Array Bool} {σ:Nat->Value} {w:World} (hio:ops[i]?=some o) (hs:listed.size=ops.size) (hl:listed.getD i true=false) (hc:AQ .any ops listed)
   (hp:∀e∈o.after,Region.binds .any e=true->listed.getD e.on false=true) (hun:listed.getD (ops.size-1) false=false) (hG:G listed σ w) (hF1:∀j,listed.getD j false=true->F j (σ j) w)
   (hK:∀σ' w',i≠ops.size-1->G (listed.setIfInBounds i true) σ' w'->(∀j,(listed.setIfInBounds i true).getD j false=true->F j (σ' j) w')->K (mid ops σ' (listed.setIfInBounds i true) a0) w')
   (hR:∀a w',i=ops.size-1->R a w'->K a w'):wpOp P ops Q i K (mid ops σ listed a0) w:=by
 have hlt:i<ops.size:=(Array.getElem?_eq_some_iff.1 hio).1;have hd:o.dst=An ops i:=by simp[An,hio]
 by_cases hi:i=ops.size-1
 · subst hi;have hall:=Er hla hio hc hp;refine Ac.step hio (hlast o hio listed σ w (mid ops σ listed a0) hall (fun j t hd hj=>GI ho hd (hall j hj)) (fun t ht=>GJ (fun j hj=>by rw[ht j hj];exact hun)) hG (fun j hj=>hF1 j (hall j hj))) ?_;intro v w' h
   rw[hd,show (mid ops σ listed a0).put (An ops (ops.size-1)) v=mid ops (upd σ (ops.size-1) v) (listed.setIfInBounds (ops.size-1) true) a0 from (Dk ho hlt hl _ _ List.nodup_range (fun j hj=>List.mem_range.1 hj) (List.mem_range.2 hlt)).symm];refine hR _ _ rfl ?_;rw[Ca (fun j hj=>by
     by_cases he:j=ops.size-1
     · subst he;simp[hs,hlt]
     · rw[getD_set_ne false (Ne.symm he)];exact hall j (by omega)),Oq (by omega)]
   exact h
 · have h1:=Es.get ops.toList 0 hstep i o (by simp;omega) (by simpa using hio);rw[Nat.zero_add]at h1;refine Ac.step hio (h1 listed σ w (mid ops σ listed a0) (fun j t hd hj=>GI ho hd hj) (fun t ht=>GJ ht) (FX hl) hun hs hc hp hG hF1) ?_;rintro v w' ⟨hT,hFi,hG'⟩;rw[hd,show (mid ops σ listed a0).put (An ops i) v=mid ops (upd σ i v) (listed.setIfInBounds i true) a0 from (Dk ho hlt hl _ _ List.nodup_range (fun j hj=>List.mem_range.1 hj) (List.mem_range.2 hlt)).symm]
   refine hK _ _ hi hG' (fun j hj=>?_);by_cases hji:j=i
   · subst hji;rw[C8];exact hFi
   · rw[upd_ne σ v hji];rw[getD_set_ne false (Ne.symm hji)]at hj;exact hF j _ _ _ hT (hF1 j hj)
theorem BI {id:Nat} {a0:Act} {w:World} (hm:P.follows .mixedOrders=true) (hb:FS ops=true) (ho:ownB ops a0.tmps.size=true) (hla:FZ ops=true) (T:World->World->Prop) (F:Nat->Value->World->Prop) (G:Array Bool->(Nat->Value)->World->Prop)
   (hF:∀j v w w',T w w'->F j v w->F j v w') (h0:∀σ,G (Array.replicate ops.size false) σ w.drew) (hstep:Es (MH P ops a0 T F G) 0 ops.toList) (hlast:∀o,ops[ops.size-1]?=some o->MG P ops a0 F G (Q .normal) o):(Code.region id ops true).wp P Q a0 w:=by
 have hpos:0<ops.size:=by
   rcases Nat.eq_zero_or_pos ops.size with h|h
   · unfold FZ at hla;rw[Array.getElem?_eq_none (by omega)]at hla;cases hla
   · exact h
 refine CP hm hb (fun listed a w=>(listed.getD (ops.size-1) false=false/\∃σ,a=mid ops σ listed a0/\G listed σ w/\∀j,listed.getD j false=true->F j (σ j) w)\/(listed.getD (ops.size-1) false=true/\Q .normal a w)) ?_ ?_ ?_
 · exact .inl ⟨BH _ _,fun _=>undef,(FY a0).symm,h0 _,fun j hj=>by rw[BH]at hj;cases hj⟩
 · rintro i o listed a w hio hs hl hc hp (⟨hun,σ,rfl,hG,hF1⟩|⟨hon,hQ⟩)
   · refine GL ho hla hF hstep hlast hio hs hl hc hp hun hG hF1 (fun σ' w' hne hG' hF'=>.inl ⟨?_,σ',rfl,hG',hF'⟩) (fun a w' he h=>.inr ⟨?_,h⟩)
     · rw[getD_set_ne false hne];exact hun
     · subst he;have hq:ops.size-1<ops.size:=(by omega);simp[hs,hq]
   · exfalso;have hlt:i<ops.size:=(Array.getElem?_eq_some_iff.1 hio).1;have hlo:ops[ops.size-1]?=some ops[ops.size-1]:=Array.getElem?_eq_getElem (by omega);by_cases hi:i=ops.size-1
     · subst hi;exact (Dz hon hl).elim
     · have:=Er hla hlo hc (hc _ _ hlo hon) i (by omega);exact (Dz this hl).elim
 · rintro listed a w hs hall (⟨hun,-⟩|⟨-,hQ⟩)
   · rw[hall _ (by omega)]at hun;cases hun
   · exact hQ
end
section
variable {ops:Array Oper}
theorem MI {t:Tmp} (h:Oo ops t=true):∀j,An ops j=some t->j=ops.size-1:=by
 intro j hj;have h1:=Ag (listed:=Array.replicate ops.size true) h j hj;have hlt:j<ops.size:=by
  rcases Nat.lt_or_ge j ops.size with h2|h2
  · exact h2
  · simp[An,Array.getElem?_eq_none h2]at hj
 simp[hlt]at h1
theorem Ac.some {a:Act} {o:Oper} {w:World} {R:Value->World->Prop} {D:Prop} {g:Nat} {want b:Bool} {d:Tmp} (h:o.guard=Option.some (g,want)) (hd:An ops g=Option.some d) (hv:a.tmps.getD d undef=.bool b) (hD:(b=want/\D)\/(b≠want/\R undef w)):Ac ops a o w R D:=by unfold Ac;rw[h];exact ⟨d,b,hd,hv,fun he=>hD.elim (·.2) (fun k=>absurd he k.1),fun he=>hD.elim (fun k=>absurd k.1 he) (·.2)⟩
end
def GA (app:Nat) (W0:World) (R:Value->World->Prop) (listed:Array Bool) (σ:Nat->Value) (w:World):Prop:=
 (listed.getD app false=false->Below W0.heap.size W0 w)/\(listed.getD app false=true->R (σ app) w)
section
variable {app i:Nat} {W0 w w':World} {R:Value->World->Prop} {listed:Array Bool} {σ:Nat->Value} {v:Value}
theorem GA.start (n:Nat) (h:Below W0.heap.size W0 w):GA app W0 R (Array.replicate n false) σ w:=⟨fun _=>h,fun h=>by rw[BH]at h;cases h⟩
theorem GA.same (h:GA app W0 R listed σ w) (hi:i≠app):GA app W0 R (listed.setIfInBounds i true) (upd σ i v) w:=by unfold GA;rw[getD_set_ne false hi,upd_ne σ v (Ne.symm hi)];exact h
theorem GA.call (h:GA app W0 R listed σ w) (hi:i≠app) (hun:listed.getD app false=false) (hb:Below w.heap.size w w'):GA app W0 R (listed.setIfInBounds i true) (upd σ i v) w':=by unfold GA;rw[getD_set_ne false hi,hun];exact ⟨fun _=>(h.1 hun).next hb,fun h=>by cases h⟩
theorem GA.on_ (hl:listed.getD app false=false) (hs:app<listed.size) (hR:R v w'):GA app W0 R (listed.setIfInBounds app true) (upd σ app v) w':=by unfold GA;rw[C8];exact ⟨fun h=>by simp[hs]at h,fun _=>hR⟩
end
def Tg (row:Option Nat) (w w':World):Prop:=w.grownBy w' row/\Kp w w'
theorem Tg.refl (row:Option Nat) (w:World):Tg row w w:=⟨⟨rfl,rfl,rfl,Nat.le_refl _,fun _ _ _=>rfl⟩,Kp.refl w⟩
theorem Tg.of_below {row:Option Nat} {w w':World} (h:Below w.heap.size w w'):Tg row w w':=⟨⟨h.os,h.tape,h.output,h.size,fun k hk _=>h.block k hk⟩,Kp.of_below h⟩
end
end Go.Proofs.YtgohmojcopajoaaGreatDoor.Nu
namespace Go.Proofs.YtgohmojcopajoaaGreatDoor.Tm
section
def AH:List (Int×Int)->Int->Int
 |[],_=>0
 |(u,c)::ps,v=>(if u=v/\0<=v then c else 0)+AH ps v
theorem Ge (v:Int):AH [] v=0:=rfl
theorem CI (ps qs:List (Int×Int)) (v:Int):AH (ps++qs) v=AH ps v+AH qs v:=by
 induction ps with
 |nil=>rw[List.nil_append,Ge,Int.zero_add]
 |cons p ps ih=> obtain ⟨u,c⟩:=p;rw[List.cons_append,AH,AH,ih,Int.add_assoc]
theorem QW {ps qs:List (Int×Int)} (h:ps.Perm qs) (v:Int):AH ps v=AH qs v:=by
 induction h with
 |nil=>rfl
 |cons p _ ih=>obtain ⟨u,c⟩:=p;rw[AH,AH,ih]
 |swap p q l=>
  obtain ⟨u,c⟩:=p;obtain ⟨u',c'⟩:=q;simp only[AH];omega
 |trans _ _ ih1 ih2=>rw[ih1,ih2]
theorem GN (n:Int) (ps:List (Int×Int)) (v:Int):AH (ps.map fun p=>(p.1,n*p.2)) v=n*AH ps v:=by
 induction ps with
 |nil=>simp[AH]
 |cons p ps ih=> obtain ⟨u,c⟩:=p;simp only[List.map_cons,AH,ih,Int.mul_add];split<;>simp
def Co:Int->List (Int×Int)->Prop
 |_,[]=>True
 |b,(u,c)::ps=>b<u/\c≠0/\Co u ps
def Ht (ps:List (Int×Int)):Prop:=Co (-1) ps
theorem Co.mono {b b':Int} {ps:List (Int×Int)} (h:Co b ps) (hb:b'<=b):Co b' ps:=by
 cases ps with
 |nil=>trivial
 |cons p ps=> obtain ⟨u,c⟩:=p;exact ⟨by have:=h.1;omega,h.2⟩
theorem Co.low {b:Int} {ps:List (Int×Int)} (h:Co b ps) (v:Int) (hv:v<=b):AH ps v=0:=by
 induction ps generalizing b with
 |nil=>rfl
 |cons p ps ih=> obtain ⟨u,c⟩:=p;obtain ⟨h1,h2,h3⟩:=h;rw[AH,if_neg (by omega),ih h3 (by omega)];rfl
theorem Co.head {b u c:Int} {ps:List (Int×Int)} (h:Co b ((u,c)::ps)) (hu:0<=u):AH ((u,c)::ps) u=c:=by rw[AH,if_pos ⟨rfl,hu⟩,h.2.2.low u (Int.le_refl _),Int.add_zero]
theorem Np {b b':Int} {ps qs:List (Int×Int)} (hb:-1<=b) (hb':-1<=b') (h:Co b ps) (h':Co b' qs) (he:∀v,AH ps v=AH qs v):ps=qs:=by
 induction ps generalizing b b' qs with
 |nil=>
  cases qs with
  |nil=>rfl
  |cons q qs=>
   obtain ⟨u,c⟩:=q;have h1:=he u;rw[h'.head (by have:=h'.1;omega),Ge]at h1;exact absurd h1.symm h'.2.1
 |cons p ps ih=>
  obtain ⟨u,c⟩:=p;have hu:0<=u:=by have:=h.1;omega
  cases qs with
  |nil=>
   have h1:=he u;rw[h.head hu,Ge]at h1;exact absurd h1 h.2.1
  |cons q qs=>
   obtain ⟨u',c'⟩:=q;have hu':0<=u':=(by have:=h'.1;omega);have huu:u=u':=by
    rcases Int.lt_trichotomy u u' with h1|h1|h1
    · have h2:=he u;rw[h.head hu,AH,if_neg (by omega),h'.2.2.low u (by omega)]at h2;exact absurd h2 h.2.1
    · exact h1
    · have h2:=he u';rw[h'.head hu',AH,if_neg (by omega),h.2.2.low u' (by omega)]at h2;exact absurd h2.symm h'.2.1
   subst huu;have hcc:c=c':=by have h2:=he u;rw[h.head hu,h'.head hu]at h2;exact h2
   subst hcc;rw[ih (by omega) (by omega) h.2.2 h'.2.2 (fun v=>by
    have h2:=he v;rw[AH,AH]at h2;omega)]
theorem O7 {ps qs:List (Int×Int)} (h:Ht ps) (h':Ht qs) (he:∀v,AH ps v=AH qs v):ps=qs:=Np (Int.le_refl _) (Int.le_refl _) h h' he
def Qc (u c:Int):List (Int×Int)->List (Int×Int)
 |[]=>if c=0 then [] else [(u,c)]
 |(v,d)::ps=>if u<v then (if c=0 then (v,d)::ps else (u,c)::(v,d)::ps) else if u=v then (if c+d=0 then ps else (v,c+d)::ps) else (v,d)::Qc u c ps
theorem O8 {b u c:Int} {ps:List (Int×Int)} (h:Co b ps) (hu:b<u):Co b (Qc u c ps):=by
 induction ps generalizing b with
 |nil=>
  unfold Qc;split
  · trivial
  · exact ⟨hu,by assumption,trivial⟩
 |cons p ps ih=>
  obtain ⟨v,d⟩:=p;obtain ⟨h1,h2,h3⟩:=h;unfold Qc;split
  · rename_i hlt
    split
    · exact ⟨h1,h2,h3⟩
    · exact ⟨hu,by assumption,hlt,h2,h3⟩
  · split
    · split
      · exact h3.mono (by omega)
      · exact ⟨h1,by assumption,h3⟩
    · exact ⟨h1,h2,ih h3 (by omega)⟩
theorem T9 (u c:Int) (ps:List (Int×Int)) (hu:0<=u) (w:Int):AH (Qc u c ps) w=(if u=w/\0<=w then c else 0)+AH ps w:=by
 induction ps with
 |nil=>
  unfold Qc;split
  · rename_i h;rw[h];simp[AH]
  · rfl
 |cons p ps ih=>
  obtain ⟨v,d⟩:=p;unfold Qc;split
  · split
    · rename_i h;rw[h];simp
    · rfl
  · split
    · rename_i h;subst h
      split
      · rename_i h0
        rw[AH];split
        · omega
        · omega
      · rw[AH,AH];split<;>omega
    · rw[AH,AH,ih];omega
def norm:List (Int×Int)->List (Int×Int)
 |[]=>[]
 |(u,c)::ps=>if u<0 then norm ps else Qc u c (norm ps)
theorem GO (ps:List (Int×Int)):Ht (norm ps):=by
 induction ps with
 |nil=>trivial
 |cons p ps ih=>
  obtain ⟨u,c⟩:=p;unfold norm;split
  · exact ih
  · exact O8 ih (by omega)
theorem Gs (ps:List (Int×Int)) (v:Int):AH (norm ps) v=AH ps v:=by
 induction ps with
 |nil=>rfl
 |cons p ps ih=>
  obtain ⟨u,c⟩:=p;unfold norm;split
  · rw[AH,ih,if_neg (by omega),Int.zero_add]
  · rw[T9 _ _ _ (by omega),AH,ih]
theorem Hu {ps qs:List (Int×Int)} (h:Ht qs) (he:∀v,AH qs v=AH ps v):qs=norm ps:=
 O7 h (GO ps) (fun v=>by rw[he,Gs])
theorem QX {ps qs:List (Int×Int)} (he:∀v,AH ps v=AH qs v):norm ps=norm qs:=Hu (GO ps) (fun v=>by rw[Gs,he])
theorem Vj {ps:List (Int×Int)} (h:Ht ps):norm ps=ps:=(Hu h (fun _=>rfl)).symm
def val (vals:List Int):List (Int×Int)->Int
 |[]=>0
 |(u,c)::ps=>(if 0<=u then c*vals.getD u.toNat 0 else 0)+val vals ps
theorem val_append (vals:List Int) (ps qs:List (Int×Int)):val vals (ps++qs)=val vals ps+val vals qs:=by
 induction ps with
 |nil=>simp[val]
 |cons p ps ih=>obtain ⟨u,c⟩:=p;rw[List.cons_append,val,val,ih,Int.add_assoc]
theorem Vk (vals:List Int) (u c:Int) (ps:List (Int×Int)) (hu:0<=u):val vals (Qc u c ps)=c*vals.getD u.toNat 0+val vals ps:=by
 induction ps with
 |nil=>
  unfold Qc;split
  · rename_i h;rw[h];simp[val]
  · simp[val,hu]
 |cons p ps ih=>
  obtain ⟨v,d⟩:=p;unfold Qc;split
  · split
    · rename_i h;rw[h];simp
    · rw[val,if_pos hu]
  · split
    · rename_i h;subst h
      split
      · rename_i h0
        rw[val,if_pos hu,<-Int.add_assoc,<-Int.add_mul,h0,Int.zero_mul,Int.zero_add]
      · rw[val,val,if_pos hu,if_pos hu,Int.add_mul,Int.add_assoc]
    · rw[val,val,ih];omega
theorem val_norm (vals:List Int) (ps:List (Int×Int)):val vals (norm ps)=val vals ps:=by
 induction ps with
 |nil=>rfl
 |cons p ps ih=>
  obtain ⟨u,c⟩:=p;unfold norm;split
  · rw[val,ih,if_neg (by omega),Int.zero_add]
  · rw[Vk _ _ _ _ (by omega),val,if_pos (by omega),ih]
theorem val_scale (vals:List Int) (n:Int) (ps:List (Int×Int)):val vals (ps.map fun p=>(p.1,n*p.2))=n*val vals ps:=by
 induction ps with
 |nil=>simp[val]
 |cons p ps ih=>
  obtain ⟨u,c⟩:=p;simp only[List.map_cons,val,ih,Int.mul_add];split
  · rw[Int.mul_assoc]
  · simp
end
end Go.Proofs.YtgohmojcopajoaaGreatDoor.Tm
