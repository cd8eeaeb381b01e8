/- Texts of one seat, put together: RowL Region2 RefM. -/
import Derived.Test.YtmedjkhmadfjlaaGreatR10
import Derived.Test.YtmedjkhmadfjlaaGreatR04
set_option linter.unusedVariables false
set_option linter.unusedSimpArgs false
set_option maxRecDepth 100000
set_option maxHeartbeats 16000000
namespace Go.Proofs.YtmedjkhmadfjlaaGreat
section
open Go.RowKit
def Kp (w w':World):Prop:=∀A n xs,Av w A n xs->Av w' A n xs
theorem Kp.refl (w:World):Kp w w:=fun _ _ _ h=>h
theorem Kp.trans {a b c:World} (h:Kp a b) (k:Kp b c):Kp a c:=fun _ _ _ hx=>k _ _ _ (h _ _ _ hx)
theorem Kp.of_below {w w':World} (h:Below w.heap.size w w'):Kp w w':=fun _ _ _ hx=>hx.below h
theorem Au.kp {w w':World} {v:Value} {Z:Int} {k:Nat} (h:Au w v Z k) (hk:Kp w w'):Au w' v Z k:=by obtain ⟨A,n,c,rfl,h1,h2,h3,h4⟩:=h;exact ⟨A,n,c,rfl,hk _ _ _ h1,h2,h3,h4⟩
theorem BO.kp {w w':World} {v:Value} {Z:Int} {k:Nat} (h:BO w v Z k) (hk:Kp w w'):BO w' v Z k:=by obtain ⟨s,A,n,c,xs,rfl,h1,h2,h3,h4,h5⟩:=h;exact ⟨s,A,n,c,xs,rfl,hk _ _ _ h1,h2,h3,h4,h5⟩
def NL (u:Value):Prop:=∀z,u≠.int .u32 z
def FB (xs:List Value):Prop:=∀u∈xs,NL u
theorem FB.append {xs ys:List Value} (h:FB xs) (k:FB ys):FB (xs++ys):=fun u hu=>(List.mem_append.1 hu).elim (h u) (k u)
theorem FB.take {xs:List Value} (h:FB xs) (n:Nat):FB (xs.take n):=fun u hu=>h u (List.mem_of_mem_take hu)
theorem FB.drop {xs:List Value} (h:FB xs) (n:Nat):FB (xs.drop n):=fun u hu=>h u (List.mem_of_mem_drop hu)
theorem NL.bool (b:Bool):NL (.bool b):=fun _ h=>by cases h
theorem NL.slice (A:Option Addr) (n c:Nat):NL (.slice A n c):=fun _ h=>by cases h
theorem NL.i64 (z:Int):NL (.int .i64 z):=fun _ h=>by cases h
theorem Kp.block {w w':World} {g:Nat} {cur:Array Value} {T:TypeId} (hb:w.heap[g]?=some (.cells cur T (0,0))) (hn:FB cur.toList) (hg:w.grownBy w' (some g)):Kp w w':=by
 intro A n xs hx;refine hx.grown' hg (fun h0 ad had he=>?_);obtain ⟨b,o,e,hc⟩:=hx.2.2 h0;have h1:=hc 0 h0;rw[had]at e;injection e with e
 subst e;have he':b=g:=he;subst he';rw[cell_of_row w b _ _ _ _ hb]at h1;have h2:(Value.int .u32 ((xs.getD 0 0:Nat):Int))∈cur.toList:=by have:=Array.mem_of_getElem? h1;simpa using this
 exact hn _ h2 _ rfl
theorem Kp.none {w w':World} (hg:w.grownBy w' none):Kp w w':=fun _ _ _ hx=>hx.grownNone hg
def AF (T:TypeId) (sz:Nat) (w:World) (base:Nat) (v:Value) (n:Nat) (xs:List Value):Prop:=
 xs.length=n*sz/\((v=.slice none 0 0/\n=0) \/
  ∃g cap cur,v=.slice (some ⟨g,0,none⟩) n cap/\base<=g/\w.heap[g]?=some (.cells cur T (0,0))/\n<=cap/\cap<=maxLen/\cur.size=cap*sz/\cur.toList.take (n*sz)=xs/\FB cur.toList)
section
variable {T:TypeId} {sz:Nat} {w w':World} {base:Nat} {v:Value} {n:Nat} {xs:List Value}
theorem AF.nil (T:TypeId) (sz:Nat) (w:World) (base:Nat):AF T sz w base (.slice none 0 0) 0 []:=⟨by simp,.inl ⟨rfl,rfl⟩⟩
theorem AF.made (cur:Array Value) (cap:Nat) (hb:base<=w.heap.size) (hm:cap<=maxLen) (hs:cur.size=cap*sz) (hn:FB cur.toList) :
  AF T sz (w.alloc (.cells cur T)) base (.slice (some ⟨w.heap.size,0,none⟩) 0 cap) 0 []:=
 ⟨by simp,.inr ⟨w.heap.size,cap,cur,rfl,hb,heap_alloc_new w _,Nat.zero_le _,hm,hs,by simp,hn⟩⟩
theorem AF.lt (h:AF T sz w base v n xs):∀k,v.ownBlock=some k->base<=k/\k<w.heap.size:=by
 intro k hk;rcases h.2 with ⟨rfl,_⟩|⟨g,cap,cur,rfl,hb,hg,_⟩
 · simp[Value.ownBlock]at hk
 · simp[Value.ownBlock]at hk;subst hk;exact ⟨hb,(Array.getElem?_eq_some_iff.1 hg).1⟩
theorem AF.kept {row:Option Nat} (h:AF T sz w base v n xs) (hg:w.grownBy w' row) (hne:v.ownBlock=none\/v.ownBlock≠row):AF T sz w' base v n xs:=by
 refine ⟨h.1,?_⟩;rcases h.2 with hn|⟨g,cap,cur,rfl,hb,hgg,rest⟩
 · exact .inl hn
 · refine .inr ⟨g,cap,cur,rfl,hb,?_,rest⟩;rw[hg.block g (Array.getElem?_eq_some_iff.1 hgg).1 (by simpa[Value.ownBlock] using hne)];exact hgg
theorem AF.below (h:AF T sz w base v n xs) (hb:Below w.heap.size w w'):AF T sz w' base v n xs:=
 h.kept (row:=none) ⟨hb.os,hb.tape,hb.output,hb.size,fun k hk _=>hb.block k hk⟩ (by
  by_cases h0:v.ownBlock=none
  · exact .inl h0
  · exact .inr h0)
theorem AF.len (h:AF T sz w base v n xs):∃A c,v=.slice A n c/\n<=c/\c<=9223372036854775807/\(0<n->∃g,A=some ⟨g,0,none⟩):=by
 rcases h.2 with ⟨rfl,rfl⟩|⟨g,cap,cur,rfl,_,_,h1,h2,_⟩
 · exact ⟨none,0,rfl,by omega,by omega,fun h=>absurd h (by omega)⟩
 · unfold maxLen at h2;exact ⟨_,cap,rfl,h1,h2,fun _=>⟨g,rfl⟩⟩
theorem AF.cell {A:Option Addr} {c:Nat} (h:AF T sz w base (.slice A n c) n xs) (hn:0<n):∃g,A=some ⟨g,0,none⟩/\base<=g/\g<w.heap.size/\∀j u,xs[j]?=some u->w.cell? ⟨g,j,none⟩=some u/\w.frozen? ⟨g,j,none⟩=false:=by
 rcases h.2 with ⟨hv,h0⟩|⟨g,cap,cur,hv,hb,hh,_,_,_,ht,_⟩
 · omega
 · injection hv with hv
   refine ⟨g,hv,hb,(Array.getElem?_eq_some_iff.1 hh).1,fun j u hu=>⟨?_,by simp[World.frozen?,hh]⟩⟩;rw[cell_of_row w g j _ _ _ hh];rw[<-ht,List.getElem?_take]at hu;split at hu
   · simpa using hu
   · cases hu
theorem AF.isNLs (h:AF T sz w base v n xs):FB xs:=by
 rcases h.2 with ⟨_,rfl⟩|⟨g,cap,cur,_,_,_,_,_,_,ht,hn⟩
 · have:xs=[]:=List.eq_nil_of_length_eq_zero (by simpa using h.1);subst this;intro u hu;cases hu
 · rw[<-ht];exact hn.take _
theorem AF.kp (h:AF T sz w base v n xs) (hg:w.grownBy w' v.ownBlock):Kp w w':=by
 rcases h.2 with ⟨rfl,_⟩|⟨g,cap,cur,rfl,_,hh,_,_,_,_,hn⟩
 · exact Kp.none hg
 · exact Kp.block hh hn hg
theorem AF.back {B:Nat} (h:AF T sz w base v n xs) (hg:w.grownBy w' v.ownBlock) (hB:B<=base) (hw:B<=w.heap.size):Below B w w':=
 (Below.refl _ _).grown hg hw (fun k hk=>by have:=(h.lt k hk).1;omega)
theorem AF.old {w0:World} {B:Nat} (h:AF T sz w base v n xs) (h0:Below B w0 w) (hg:w.grownBy w' v.ownBlock) (hB:B<=base) (hw:B<=w0.heap.size):Below B w0 w':=
 h0.trans (h.back hg hB (Nat.le_trans hw h0.size))
theorem AF.set {g c j:Nat} {u:Value} (h:AF T sz w base (.slice (some ⟨g,0,none⟩) n c) n xs) (hu:NL u):AF T sz (w.setCell ⟨g,j,none⟩ u) base (.slice (some ⟨g,0,none⟩) n c) n (xs.set j u):=by
 refine ⟨by simpa using h.1,?_⟩;rcases h.2 with ⟨hv,_⟩|⟨g',cap,cur,hv,hb,hh,h1,h2,h3,h4,h5⟩
 · cases hv
 · injection hv with e1 e2 e3
   injection e1 with e1
   injection e1 with e1
   subst e1 e3;refine .inr ⟨g,c,cur.setIfInBounds j u,rfl,hb,?_,h1,h2,by simpa using h3,?_,?_⟩
   · simp[World.setCell,Array.getElem?_modify,hh]
   · rw[Array.toList_setIfInBounds,List.take_set,h4]
   · intro x hx;rw[Array.toList_setIfInBounds]at hx;rcases List.mem_or_eq_of_mem_set hx with hx|rfl
     · exact h5 x hx
     · exact hu
end
section
variable {P:Program} (w:World)
theorem Cg (base:Nat) (t ty e:TypeId) (i:TypeInfo) (z:Value) (size bytes:Nat) (ht:P.underlying t=some (.slice e)) (hi:P.info? e=some i) (hz:i.zero=some z)
   (hsize:i.size=size) (hby:i.bytes=bytes) (hzs:z.cells.size=size) (hsz:0<size) (hzn:FB z.cells.toList)
   (v:Value) (n:Nat) (xs:List Value) (hown:AF e size w base v n xs)
   (a:Addr) (m c:Nat) (news:List Value) (hl:news.length=m*size) (hnews:∀j u,news[j]?=some u->w.cell? (a.add j)=some u) (h1:∀u∈news,u.oneCell'=true) (hnn:FB news)
   (h63:n+m<=maxLen) (hbytes:(n+m)*bytes<=140737488355328) (hbase:base<=w.heap.size) :
   ∃v' w',(Builtin.append_ #[t,t] ty #[v,.slice (some a) m c]).run P w=.ok v' w'/\AF e size w' base v' (n+m) (xs++news)/\w.grownBy w' v.ownBlock:=by
 subst hsize;subst hby;have hsmall:n+m<=9223372036854775807:=by simp only[maxLen]at h63;omega
 have hlen:(xs++news).length=(n+m)*i.size:=by rw[List.length_append,hown.1,hl,Nat.add_mul]
 have hxn:=hown.isNLs;have hzz:∀k,FB (Builtin.zeroCells z.cells k).toList:=by intro k u hu;have h2:u∈(Builtin.zeroCells z.cells k):=(by simpa using hu);unfold Builtin.zeroCells at h2;obtain ⟨q,-,hq⟩:=Array.mem_map.1 h2;have hlt:q%z.cells.size<z.cells.size:=Nat.mod_lt _ (by omega);rw[getElem!_pos z.cells _ hlt]at hq;exact hzn u (by rw[<-hq];simp)
 have grown:∀(old:Nat),old<n+m->∀(row:Option Nat),
     AF e i.size (w.drew.alloc (.cells (xs.toArray++news.toArray++Builtin.zeroCells z.cells (grownCap w (n+m) old e-(n+m))) e)) base
       (.slice (some ⟨w.heap.size,0,none⟩) (n+m) (grownCap w (n+m) old e)) (n+m) (xs++news) /\
     w.grownBy (w.drew.alloc (.cells (xs.toArray++news.toArray++Builtin.zeroCells z.cells (grownCap w (n+m) old e-(n+m))) e)) row:=by
   intro old ho row;have hge:=grownCap_ge w (n+m) old e;have hcm:grownCap w (n+m) old e<=maxLen:=grownCap_le_maxLen w (n+m) old e h63;refine ⟨⟨hlen,.inr ⟨w.heap.size,_,_,rfl,hbase,heap_alloc_new w.drew _,hge,hcm,?_,?_,?_⟩⟩,⟨rfl,rfl,rfl,by simp,fun k hk _=>Below.heap_alloc w.drew _ k hk⟩⟩
   · simp only[Array.size_append,List.size_toArray,size_zeroCells,hzs,hown.1,hl,<-Nat.add_mul];congr 1
     omega
   · simp only[Array.toList_append,List.append_assoc];rw[<-List.append_assoc,<-hlen];exact List.take_left
   · simp only[Array.toList_append];exact (hxn.append hnn).append (hzz _)
 rcases hown.2 with ⟨rfl,rfl⟩|⟨g,cap,cur,rfl,hbg,hg,hnc,hcm,hcs,htake,hcn⟩
 · have hx:xs=[]:=List.eq_nil_of_length_eq_zero (by simpa using hown.1);subst hx;by_cases hm:m=0
   · subst hm;have hn:news=[]:=List.eq_nil_of_length_eq_zero (by simpa using hl);subst hn;refine ⟨.slice none 0 0,w,?_,AF.nil e i.size w base,⟨rfl,rfl,rfl,Nat.le_refl _,fun _ _ _=>rfl⟩⟩;simp[Builtin.append_,run_underlying ht,sizeOf,typeInfo,hi,Builtin.lenOf,Builtin.firstCells,loadCells,loadCellsFrom]
   · have hr:=run_append_nil (P:=P) w t ty e i z ht hi hz a m c news hl hnews (by omega) (by omega) (by have hb:=hbytes;simp only[Nat.zero_add]at hb;omega);have hgr:=grown 0 (by omega) (Value.ownBlock (.slice none 0 0));simp only[Nat.zero_add,List.nil_append,Array.empty_append]at hgr ⊢;exact ⟨_,_,hr,hgr.1,hgr.2⟩
 · by_cases hroom:n+m<=cap
   · have hfit:n*i.size+news.length<=cur.size:=(by rw[hl,hcs,<-Nat.add_mul];exact Nat.mul_le_mul_right _ hroom);have hr:=run_append_room (P:=P) w t ty e i ht hi g n cap cur hg a m c news hl hnews h1 hroom hfit;refine ⟨_,_,hr,⟨hlen,.inr ⟨g,cap,_,rfl,hbg,setRow_heap w g cur _ e _ hg,hroom,hcm,?_,?_,?_⟩⟩,⟨rfl,rfl,rfl,by simp,fun k _ hk=>setRow_other w g k _ (fun e=>hk (by simp[Value.ownBlock,e]))⟩⟩
     · simp only[List.size_toArray,List.length_append,List.length_take,List.length_drop,Array.length_toList];omega
     · rw[htake,<-hlen];exact List.take_left
     · exact ((hcn.take _).append hnn).append (hcn.drop _)
   · have holds:∀j u,xs[j]?=some u->w.cell? ((⟨g,0,none⟩:Addr).add j)=some u:=by
       intro j u hu;have hadd:(⟨g,0,none⟩:Addr).add j=⟨g,j,none⟩:=(by unfold Addr.add;split<;>simp_all);rw[hadd,cell_of_row w g j cur e (0,0) hg];rw[<-htake,List.getElem?_take]at hu;split at hu
       · simpa using hu
       · cases hu
     have hr:=run_append_grow (P:=P) w t ty e i z ht hi hz ⟨g,0,none⟩ n cap xs hown.1 holds a m c news hl hnews (by omega) (by omega) (growslice_fits (by omega) hbytes);have hgr:=grown cap (by omega) (Value.ownBlock (.slice (some ⟨g,0,none⟩) n cap));exact ⟨_,_,hr,hgr.1,hgr.2⟩
end
theorem Bn {P:Program} {w w':World} {o:Oper} {a:Act} {s x:Operand} {t:TypeId} {vs vx v':Value} (ho:o.op=.call { callee:=.builtin .append,args:=#[s,x],argTypes:=#[t,t] })
  (hs:a.eval s=vs) (hx:a.eval x=vx) (hr:(Builtin.append_ #[t,t] o.type #[vs,vx]).run P w=.ok v' w'):(execOp a.eval o).run P w=.ok (.value v') w':=by
 unfold execOp;simp only[ho,resolve,invoke,builtin,Sem.run_bind,Sem.run_pure,Result.andThen_ok,List.map_toArray,List.map_cons,List.map_nil,hs,hx,hr]
theorem Df {P:Program} {w:World} {ops:Array Oper} {rest:List Oper} {o:Oper} {a:Act} {Q:Exit->Act->World->Prop} (hgd:o.guard=none) (s x:Operand) (t:TypeId)
  (ho:o.op=.call { callee:=.builtin .append,args:=#[s,x],argTypes:=#[t,t] }) (base:Nat) (e:TypeId) (i:TypeInfo) (z:Value) (size bytes:Nat) (ht:P.underlying t=some (.slice e)) (hi:P.info? e=some i) (hz:i.zero=some z)
  (hsize:i.size=size) (hby:i.bytes=bytes) (hzs:z.cells.size=size) (hsz:0<size) (hzn:FB z.cells.toList)
  (v:Value) (n:Nat) (xs:List Value) (hs:a.eval s=v) (hown:AF e size w base v n xs)
  (ad:Addr) (m c:Nat) (news:List Value) (hx:a.eval x=.slice (some ad) m c) (hl:news.length=m*size) (hnews:∀j u,news[j]?=some u->w.cell? (ad.add j)=some u) (h1:∀u∈news,u.oneCell'=true) (hnn:FB news)
  (h63:n+m<=maxLen) (hbytes:(n+m)*bytes<=140737488355328) (hbase:base<=w.heap.size)
  (h:∀v' w',AF e size w' base v' (n+m) (xs++news)->w.grownBy w' v.ownBlock->wpList P ops Q rest (a.put o.dst v') w'):wpList P ops Q (o::rest) a w:=by
 obtain ⟨v',w',hr,h2,h3⟩:=Cg (P:=P) w base t o.type e i z size bytes ht hi hz hsize hby hzs hsz hzn v n xs hown ad m c news hl hnews h1 hnn h63 hbytes hbase;refine wpList_plain hgd fun K hK=>?_
 unfold Oper.wp;rw[Bn ho hs hx hr];exact hK _ _ (h v' w' h2 h3)
end
section
open Go.RowKit
section
variable {P:Program} {ops:Array Oper} {Q:Exit->Act->World->Prop}
theorem Pn {σ:Nat->Value} {l9:Array Bool} {t:Tmp}:∀(js:List Nat) (a:Act),(∀j∈js,AY ops j=some t->l9.getD j false=false)->(fill ops σ l9 js a).eval (.tmp t)=a.eval (.tmp t)
 |[],_,_=>rfl
 |j::js,a,h=>by
  unfold fill;rw[Pn js _ (fun x hx=>h x (List.mem_cons_of_mem _ hx))];split
  · rename_i hl
    exact eval_put_ne _ _ _ _ (fun e=>by rw[h j (List.mem_cons_self ..) e]at hl;cases hl)
  · rfl
theorem Oc {a:Act} {σ:Nat->Value} {l9:Array Bool} {t:Tmp} (h:∀j,AY ops j=some t->l9.getD j false=false):(mid ops σ l9 a).eval (.tmp t)=a.eval (.tmp t):=
 Pn _ a (fun j _=>h j)
theorem Ae {t:Tmp} {l9:Array Bool} (h:TD ops t=true):∀j,AY ops j=some t->l9.getD j false=false:=by
 intro j hj;rcases Nat.lt_or_ge j ops.size with hlt|hge
 · have:=List.all_eq_true.1 h j (List.mem_range.2 hlt);rw[hj]at this;simp at this
 · simp[AY,Array.getElem?_eq_none hge]at hj
def V4 (ops:Array Oper) (t:Tmp) (j:Nat):Bool:=(List.range ops.size).all fun i=>i==j || AY ops i != some t
theorem Dg {t:Tmp} {j:Nat} {l9:Array Bool} (h:V4 ops t j=true) (hl:l9.getD j false=false):∀i,AY ops i=some t->l9.getD i false=false:=by
 intro i hi;rcases Nat.lt_or_ge i ops.size with hlt|hge
 · have:=List.all_eq_true.1 h i (List.mem_range.2 hlt);rw[hi]at this;simp at this;rw[this];exact hl
 · simp[AY,Array.getElem?_eq_none hge]at hi
theorem Ai {md:Region.Mode} {l9:Array Bool} {i k:Nat} (hc:Bp md ops l9) (hi:l9.getD i false=false) (hw:((ops[k]?).map fun o=>o.after.any fun e=>e.on==i&&Region.binds md e)=some true):l9.getD k false=false:=by
 cases hk:l9.getD k false with
 |false=>rfl
 |true=>
  cases ho:ops[k]? with
  |none=>rw[ho]at hw;cases hw
  |some o=> rw[ho]at hw;simp only[Option.map_some,Option.some.injEq]at hw;obtain ⟨x,hx,h1⟩:=Array.any_eq_true.1 hw;simp only[Bool.and_eq_true,beq_iff_eq]at h1;have h2:=hc k o ho hk _ (Array.getElem_mem hx) h1.2;rw[h1.1,hi]at h2;cases h2
def RO (P:Program) (ops:Array Oper) (a0:Act) (T:World->World->Prop) (F:Nat->Value->World->Prop) (G:Array Bool->(Nat->Value)->World->Prop) (i:Nat) (o:Oper):Prop:=
 ∀(l9:Array Bool) (σ:Nat->Value) (w:World) (a:Act),(∀j t,AY ops j=some t->l9.getD j false=true->a.tmps.getD t undef=σ j)->(∀t,(∀j,AY ops j=some t->l9.getD j false=false)->a.tmps.getD t undef=a0.tmps.getD t undef) ->
  l9.getD i false=false->Bp .any ops l9->(∀e∈o.after,Region.binds .any e=true->l9.getD e.on false=true)->G l9 σ w->(∀j,l9.getD j false=true->F j (σ j) w) ->
  Ad ops a o w (fun v w'=>T w w'/\F i v w'/\G (l9.setIfInBounds i true) (upd σ i v) w') (Does P a o w (fun v w'=>T w w'/\F i v w'/\G (l9.setIfInBounds i true) (upd σ i v) w'))
theorem Od {a0:Act} {T:World->World->Prop} {F:Nat->Value->World->Prop} {G:Array Bool->(Nat->Value)->World->Prop} (ho:ownB ops a0.tmps.size=true) (hF:∀j v w w',T w w'->F j v w->F j v w')
   (hstep:LR (RO P ops a0 T F G) 0 ops.toList) {K:Act->World->Prop} {i:Nat} {o:Oper} {l9:Array Bool} {σ:Nat->Value} {w:World} (hio:ops[i]?=some o) (hl:l9.getD i true=false) (hc:Bp .any ops l9)
   (hp:∀e∈o.after,Region.binds .any e=true->l9.getD e.on false=true) (hG:G l9 σ w) (hF1:∀j,l9.getD j false=true->F j (σ j) w)
   (hK:∀σ' w',G (l9.setIfInBounds i true) σ' w'->(∀j,(l9.setIfInBounds i true).getD j false=true->F j (σ' j) w')->K (mid ops σ' (l9.setIfInBounds i true) a0) w'):wpOp P ops Q i K (mid ops σ l9 a0) w:=by
 have hlt:i<ops.size:=(Array.getElem?_eq_some_iff.1 hio).1;have h1:=LR.get ops.toList 0 hstep i o (by simpa using hio);rw[Nat.zero_add]at h1;refine Ad.step hio (h1 l9 σ w (mid ops σ l9 a0) (fun j t hd hj=>LQ ho hd hj) (fun t ht=>Oc ht) (JA hl) hc hp hG hF1) ?_;rintro v w' ⟨hT,hFi,hG'⟩;have hd:o.dst=AY ops i:=by simp[AY,hio]
 rw[hd,show (mid ops σ l9 a0).put (AY ops i) v=mid ops (upd σ i v) (l9.setIfInBounds i true) a0 from (FO ho hlt hl _ _ List.nodup_range (fun j hj=>List.mem_range.1 hj) (List.mem_range.2 hlt)).symm];refine hK _ _ hG' (fun j hj=>?_);by_cases hji:j=i
 · subst hji;rw[Cz];exact hFi
 · rw[upd_ne σ v hji];rw[getD_set_ne false (Ne.symm hji)]at hj;exact hF j _ _ _ hT (hF1 j hj)
theorem MO {σ:Nat->Value} {n:Nat} (a:Act):mid ops σ (Array.replicate n false) a=a:=by
 unfold mid;have:∀(js:List Nat) (a:Act),fill ops σ (Array.replicate n false) js a=a:=by
  intro js;induction js with
  |nil=>intro a;rfl
  |cons j js ih=> intro a;unfold fill;rw[if_neg (by rw[BZ];exact Bool.false_ne_true),ih]
 exact this _ _
theorem AO {id:Nat} {a0:Act} {w:World} (hm:P.follows .mixedOrders=true) (hb:Lk ops=true) (ho:ownB ops a0.tmps.size=true) (T:World->World->Prop) (F:Nat->Value->World->Prop) (G:Array Bool->(Nat->Value)->World->Prop)
   (hF:∀j v w w',T w w'->F j v w->F j v w') (h0:∀σ,G (Array.replicate ops.size false) σ w.drew)
   (hstep:LR (RO P ops a0 T F G) 0 ops.toList)
   (hend:∀(l9:Array Bool) (σ:Nat->Value) (w:World),Iv ops.size l9->G l9 σ w->(∀j,j<ops.size->F j (σ j) w)->Q .normal (mid ops σ l9 a0) w):(Code.region id ops true).wp P Q a0 w:=by
 refine ET hm hb (fun l9 a w=>∃σ,a=mid ops σ l9 a0/\G l9 σ w/\∀j,l9.getD j false=true->F j (σ j) w) ?_ ?_ ?_
 · exact ⟨fun _=>undef,(MO a0).symm,h0 _,fun j hj=>by rw[BZ]at hj;cases hj⟩
 · rintro i o l9 a w hio hs hl hc hp ⟨σ,rfl,hG,hF1⟩;exact Od ho hF hstep hio hl hc hp hG hF1 (fun σ' w' hG' hF'=>⟨σ',rfl,hG',hF'⟩)
 · rintro l9 a w hs hall ⟨σ,rfl,hG,hF1⟩;exact hend l9 σ w hall hG (fun j hj=>hF1 j (hall j hj))
def Wc (n k:Nat):Array Bool:=Array.ofFn (n:=n) fun i=>decide (i.val<k)
def MP (ops:Array Oper):Bool:=match ops[ops.size-1]? with
 |none=>false
 |some o=>(List.range (ops.size-1)).all fun j=>o.after.any fun e=>Region.binds .any e&&(e.on==j || match ops[e.on]? with
  |none=>false
  |some o2=>o2.after.any fun e2=>e2.on==j&&Region.binds .any e2)
theorem JB (h:MP ops=true) {l9:Array Bool} {o:Oper} (ho:ops[ops.size-1]?=some o) (hc:Bp .any ops l9) (hp:∀e∈o.after,Region.binds .any e=true->l9.getD e.on false=true):∀j,j<ops.size-1->l9.getD j false=true:=by
 intro j hj;unfold MP at h;rw[ho]at h;have h1:=List.all_eq_true.1 h j (List.mem_range.2 hj);obtain ⟨x,hx,h2⟩:=Array.any_eq_true.1 h1;simp only[Bool.and_eq_true,Bool.or_eq_true,beq_iff_eq]at h2;have h3:=hp _ (Array.getElem_mem hx) h2.1;rcases h2.2 with h4|h4
 · rw[h4]at h3;exact h3
 · cases ho2:ops[(o.after[x]).on]? with
   |none=>rw[ho2]at h4;cases h4
   |some o2=> rw[ho2]at h4;obtain ⟨y,hy,h5⟩:=Array.any_eq_true.1 h4;simp only[Bool.and_eq_true,beq_iff_eq]at h5;have h6:=hc _ _ ho2 h3 _ (Array.getElem_mem hy) h5.2;rw[h5.1]at h6;exact h6
def fin (ops:Array Oper) (σ:Nat->Value) (v:Value) (a:Act):Act:=((List.range (ops.size-1)).foldl (fun a j=>a.put (AY ops j) (σ j)) a).put (AY ops (ops.size-1)) v
theorem Bt {l9:Array Bool} {σ:Nat->Value} {v:Value} {a:Act} (_h:∀j,j<ops.size-1->l9.getD j false=true):fin ops σ v a=((List.range (ops.size-1)).foldl (fun a j=>a.put (AY ops j) (σ j)) a).put (AY ops (ops.size-1)) v:=rfl
theorem Ln {σ:Nat->Value} {n:Nat} {v:Value}:∀(js:List Nat) (a:Act),(∀j∈js,j≠n)->js.foldl (fun a j=>a.put (AY ops j) (upd σ n v j)) a=js.foldl (fun a j=>a.put (AY ops j) (σ j)) a
 |[],_,_=>rfl
 |j::js,a,h=>by
  rw[List.foldl_cons,List.foldl_cons,upd_ne σ v (h j (List.mem_cons_self ..))];exact Ln js _ (fun x hx=>h x (List.mem_cons_of_mem _ hx))
theorem UX {σ:Nat->Value} {v:Value} {a:Act} (h:0<ops.size):(List.range ops.size).foldl (fun a j=>a.put (AY ops j) (upd σ (ops.size-1) v j)) a=fin ops σ v a:=by obtain ⟨m,hm⟩:∃m,ops.size=m+1:=⟨ops.size-1,by omega⟩;unfold fin;have hf:=Ln (ops:=ops) (σ:=σ) (n:=m) (v:=v) (List.range m) a (fun j hj=>by have:=List.mem_range.1 hj;omega);rw[hm,List.range_succ,List.foldl_append,Nat.add_sub_cancel,hf];show Act.put _ _ (upd σ m v m)=_;rw[Cz]
def Uz (P:Program) (ops:Array Oper) (a0:Act) (F:Nat->Value->World->Prop) (G:Array Bool->(Nat->Value)->World->Prop) (R:Act->World->Prop) (o:Oper):Prop:=
 ∀(l9:Array Bool) (σ:Nat->Value) (w:World) (a:Act),(∀j,j<ops.size-1->l9.getD j false=true)->(∀j t,AY ops j=some t->j<ops.size-1->a.tmps.getD t undef=σ j)->(∀t,(∀j,AY ops j=some t->j=ops.size-1)->a.tmps.getD t undef=a0.tmps.getD t undef) ->
  G l9 σ w->(∀j,j<ops.size-1->F j (σ j) w)->Ad ops a o w (fun v w'=>R (fin ops σ v a0) w') (Does P a o w (fun v w'=>R (fin ops σ v a0) w'))
def JC (R:Nat->Oper->Prop):Nat->List Oper->Prop
 |_,[]=>True
 |_,[_]=>True
 |i,o::p::os=>R i o/\JC R (i+1) (p::os)
theorem JC.get {R:Nat->Oper->Prop}:∀(os:List Oper) (k:Nat),JC R k os->∀i o,i<os.length-1->os[i]?=some o->R (k+i) o
 |[],_,_,i,o,hi,h=>by simp at h
 |[x],_,_,i,o,hi,h=>by simp at hi
 |x::y::os,k,h,i,o,hi,ho=>by
  cases i with
  |zero=>simp at ho;subst ho;exact h.1
  |succ i=> have:=JC.get (y::os) (k+1) h.2 i o (by simp at hi ⊢;omega) (by simpa using ho);rw[show k+(i+1)=k+1+i by omega];exact this
def U0 (P:Program) (ops:Array Oper) (a0:Act) (T:World->World->Prop) (F:Nat->Value->World->Prop) (G:Array Bool->(Nat->Value)->World->Prop) (i:Nat) (o:Oper):Prop:=
 ∀(l9:Array Bool) (σ:Nat->Value) (w:World) (a:Act),(∀j t,AY ops j=some t->l9.getD j false=true->a.tmps.getD t undef=σ j)->(∀t,(∀j,AY ops j=some t->l9.getD j false=false)->a.tmps.getD t undef=a0.tmps.getD t undef) ->
  l9.getD i false=false->l9.getD (ops.size-1) false=false->l9.size=ops.size->Bp .any ops l9->(∀e∈o.after,Region.binds .any e=true->l9.getD e.on false=true)->G l9 σ w->(∀j,l9.getD j false=true->F j (σ j) w) ->
  Ad ops a o w (fun v w'=>T w w'/\F i v w'/\G (l9.setIfInBounds i true) (upd σ i v) w') (Does P a o w (fun v w'=>T w w'/\F i v w'/\G (l9.setIfInBounds i true) (upd σ i v) w'))
theorem Oe {a0:Act} {T:World->World->Prop} {F:Nat->Value->World->Prop} {G:Array Bool->(Nat->Value)->World->Prop} {R:Act->World->Prop} (ho:ownB ops a0.tmps.size=true) (hla:MP ops=true) (hF:∀j v w w',T w w'->F j v w->F j v w')
   (hstep:JC (U0 P ops a0 T F G) 0 ops.toList) (hlast:∀o,ops[ops.size-1]?=some o->Uz P ops a0 F G R o) {K:Act->World->Prop} {i:Nat} {o:Oper} {l9:Array Bool} {σ:Nat->Value} {w:World} (hio:ops[i]?=some o) (hs:l9.size=ops.size) (hl:l9.getD i true=false) (hc:Bp .any ops l9)
   (hp:∀e∈o.after,Region.binds .any e=true->l9.getD e.on false=true) (hun:l9.getD (ops.size-1) false=false) (hG:G l9 σ w) (hF1:∀j,l9.getD j false=true->F j (σ j) w)
   (hK:∀σ' w',i≠ops.size-1->G (l9.setIfInBounds i true) σ' w'->(∀j,(l9.setIfInBounds i true).getD j false=true->F j (σ' j) w')->K (mid ops σ' (l9.setIfInBounds i true) a0) w')
   (hR:∀a w',i=ops.size-1->R a w'->K a w'):wpOp P ops Q i K (mid ops σ l9 a0) w:=by
 have hlt:i<ops.size:=(Array.getElem?_eq_some_iff.1 hio).1;have hd:o.dst=AY ops i:=by simp[AY,hio]
 by_cases hi:i=ops.size-1
 · subst hi;have hall:=JB hla hio hc hp;refine Ad.step hio (hlast o hio l9 σ w (mid ops σ l9 a0) hall (fun j t hd hj=>LQ ho hd (hall j hj)) (fun t ht=>Oc (fun j hj=>by rw[ht j hj];exact hun)) hG (fun j hj=>hF1 j (hall j hj))) ?_;intro v w' h;rw[hd,show (mid ops σ l9 a0).put (AY ops (ops.size-1)) v=mid ops (upd σ (ops.size-1) v) (l9.setIfInBounds (ops.size-1) true) a0 from (FO ho hlt hl _ _ List.nodup_range (fun j hj=>List.mem_range.1 hj) (List.mem_range.2 hlt)).symm]
   refine hR _ _ rfl ?_;rw[AU (fun j hj=>by
     by_cases he:j=ops.size-1
     · subst he;simp[hs,hlt]
     · rw[getD_set_ne false (Ne.symm he)];exact hall j (by omega)),UX (by omega)]
   exact h
 · have h1:=JC.get ops.toList 0 hstep i o (by simp;omega) (by simpa using hio);rw[Nat.zero_add]at h1;refine Ad.step hio (h1 l9 σ w (mid ops σ l9 a0) (fun j t hd hj=>LQ ho hd hj) (fun t ht=>Oc ht) (JA hl) hun hs hc hp hG hF1) ?_;rintro v w' ⟨hT,hFi,hG'⟩;rw[hd,show (mid ops σ l9 a0).put (AY ops i) v=mid ops (upd σ i v) (l9.setIfInBounds i true) a0 from (FO ho hlt hl _ _ List.nodup_range (fun j hj=>List.mem_range.1 hj) (List.mem_range.2 hlt)).symm]
   refine hK _ _ hi hG' (fun j hj=>?_);by_cases hji:j=i
   · subst hji;rw[Cz];exact hFi
   · rw[upd_ne σ v hji];rw[getD_set_ne false (Ne.symm hji)]at hj;exact hF j _ _ _ hT (hF1 j hj)
theorem AW {id:Nat} {a0:Act} {w:World} (hm:P.follows .mixedOrders=true) (hb:Lk ops=true) (ho:ownB ops a0.tmps.size=true) (hla:MP ops=true) (T:World->World->Prop) (F:Nat->Value->World->Prop) (G:Array Bool->(Nat->Value)->World->Prop)
   (hF:∀j v w w',T w w'->F j v w->F j v w') (h0:∀σ,G (Array.replicate ops.size false) σ w.drew) (hstep:JC (U0 P ops a0 T F G) 0 ops.toList) (hlast:∀o,ops[ops.size-1]?=some o->Uz P ops a0 F G (Q .normal) o):(Code.region id ops true).wp P Q a0 w:=by
 have hpos:0<ops.size:=by
   rcases Nat.eq_zero_or_pos ops.size with h|h
   · unfold MP at hla;rw[Array.getElem?_eq_none (by omega)]at hla;cases hla
   · exact h
 refine ET hm hb (fun l9 a w=>(l9.getD (ops.size-1) false=false/\∃σ,a=mid ops σ l9 a0/\G l9 σ w/\∀j,l9.getD j false=true->F j (σ j) w)\/(l9.getD (ops.size-1) false=true/\Q .normal a w)) ?_ ?_ ?_
 · exact .inl ⟨BZ _ _,fun _=>undef,(MO a0).symm,h0 _,fun j hj=>by rw[BZ]at hj;cases hj⟩
 · rintro i o l9 a w hio hs hl hc hp (⟨hun,σ,rfl,hG,hF1⟩|⟨hon,hQ⟩)
   · refine Oe ho hla hF hstep hlast hio hs hl hc hp hun hG hF1 (fun σ' w' hne hG' hF'=>.inl ⟨?_,σ',rfl,hG',hF'⟩) (fun a w' he h=>.inr ⟨?_,h⟩)
     · rw[getD_set_ne false hne];exact hun
     · subst he;have hq:ops.size-1<ops.size:=(by omega);simp[hs,hq]
   · exfalso;have hlt:i<ops.size:=(Array.getElem?_eq_some_iff.1 hio).1;have hlo:ops[ops.size-1]?=some ops[ops.size-1]:=Array.getElem?_eq_getElem (by omega);by_cases hi:i=ops.size-1
     · subst hi;exact (DG hon hl).elim
     · have:=JB hla hlo hc (hc _ _ hlo hon) i (by omega);exact (DG this hl).elim
 · rintro l9 a w hs hall (⟨hun,-⟩|⟨-,hQ⟩)
   · rw[hall _ (by omega)]at hun;cases hun
   · exact hQ
end
section
variable {ops:Array Oper}
theorem KH {t:Tmp} (h:TD ops t=true):∀j,AY ops j=some t->j=ops.size-1:=by
 intro j hj;have h1:=Ae (l9:=Array.replicate ops.size true) h j hj;have hlt:j<ops.size:=by
  rcases Nat.lt_or_ge j ops.size with h2|h2
  · exact h2
  · simp[AY,Array.getElem?_eq_none h2]at hj
 simp[hlt]at h1
theorem Ad.some {a:Act} {o:Oper} {w:World} {R:Value->World->Prop} {D:Prop} {g:Nat} {want b:Bool} {d:Tmp} (h:o.guard=Option.some (g,want)) (hd:AY ops g=Option.some d) (hv:a.tmps.getD d undef=.bool b) (hD:(b=want/\D)\/(b≠want/\R undef w)):Ad ops a o w R D:=by unfold Ad;rw[h];exact ⟨d,b,hd,hv,fun he=>hD.elim (·.2) (fun k=>absurd he k.1),fun he=>hD.elim (fun k=>absurd k.1 he) (·.2)⟩
end
def GA (app:Nat) (W0:World) (R:Value->World->Prop) (l9:Array Bool) (σ:Nat->Value) (w:World):Prop:=
 (l9.getD app false=false->Below W0.heap.size W0 w)/\(l9.getD app false=true->R (σ app) w)
section
variable {app i:Nat} {W0 w w':World} {R:Value->World->Prop} {l9:Array Bool} {σ:Nat->Value} {v:Value}
theorem GA.start (n:Nat) (h:Below W0.heap.size W0 w):GA app W0 R (Array.replicate n false) σ w:=⟨fun _=>h,fun h=>by rw[BZ]at h;cases h⟩
theorem GA.same (h:GA app W0 R l9 σ w) (hi:i≠app):GA app W0 R (l9.setIfInBounds i true) (upd σ i v) w:=by unfold GA;rw[getD_set_ne false hi,upd_ne σ v (Ne.symm hi)];exact h
theorem GA.call (h:GA app W0 R l9 σ w) (hi:i≠app) (hun:l9.getD app false=false) (hb:Below w.heap.size w w'):GA app W0 R (l9.setIfInBounds i true) (upd σ i v) w':=by unfold GA;rw[getD_set_ne false hi,hun];exact ⟨fun _=>(h.1 hun).next hb,fun h=>by cases h⟩
theorem GA.on_ (hl:l9.getD app false=false) (hs:app<l9.size) (hR:R v w'):GA app W0 R (l9.setIfInBounds app true) (upd σ app v) w':=by unfold GA;rw[Cz];exact ⟨fun h=>by simp[hs]at h,fun _=>hR⟩
end
def Tg (row:Option Nat) (w w':World):Prop:=w.grownBy w' row/\Kp w w'
theorem Tg.refl (row:Option Nat) (w:World):Tg row w w:=⟨⟨rfl,rfl,rfl,Nat.le_refl _,fun _ _ _=>rfl⟩,Kp.refl w⟩
theorem Tg.of_below {row:Option Nat} {w w':World} (h:Below w.heap.size w w'):Tg row w w':=⟨⟨h.os,h.tape,h.output,h.size,fun k hk _=>h.block k hk⟩,Kp.of_below h⟩
end
section
open Go.RowKit
open Limb (limb AQ upto upto_succ Az AC)
theorem KI (ys:List Nat) (j:Nat) (h:j<ys.length):Limb.val (ys.drop j)=limb ys j+4294967296*Limb.val (ys.drop (j+1)):=by rw[List.drop_eq_getElem_cons h];unfold limb;rw[List.getD_eq_getElem?_getD,List.getElem?_eq_getElem h];rfl
theorem RP (X y D:Nat):4294967296*(X*D)+X*y=X*(y+4294967296*D):=by rw[Nat.mul_add,Nat.mul_left_comm X 4294967296 D];omega
theorem MQ (ys:List Nat) (h:Limb.Ok ys) (k:Nat):Limb.val (ys.drop k)<4294967296^ys.length:=by have:=Limb.val_lt (ys.drop k) (h.drop k);exact Nat.lt_of_lt_of_le this (Limb.pow_mono (by rw[List.length_drop];omega))
theorem RU (A B:Option Addr) (n c m d:Nat) (xs ys:List Nat) (w:World) (hx:Av w A n xs) (hy:Av w B m ys) (hn:n<=137438953472) (hm:m<=137438953472) :
  Calls Tryz.prog 99 #[.slice A n c,.slice B m d] w (Ge (Limb.val xs*Limb.val ys) w):=by
 go_enter Tryz.func99,Tryz.ntmps99;go_wp2_with fail;go_loopw [5,6] (fun v i wr=>∃(k n1 c1:Nat) (A1:Option Addr),k<=m/\i=.int .i64 ((k:Int)-1)/\v=.slice A1 n1 c1/\n1<=n+m/\n1<=c1/\c1<=9223372036854775807/\Av wr A1 n1 (Limb.canon (Limb.val xs*Limb.val (ys.drop k)))/\Below w.heap.size w wr) (fun _ i _=>((intOf i)+1).toNat)
 case atStart=>
  refine ⟨m,0,0,_,Nat.le_refl _,rfl,rfl,by omega,by omega,by omega,?_,(Below.refl _ _).alloc (Nat.le_refl _) _⟩;have e:Limb.val xs*Limb.val (ys.drop m)=0:=by rw[List.drop_of_length_le (by rw[hy.len];exact Nat.le_refl _)];simp[Limb.val]
  rw[e];exact Av.nil _ _
 case round=>
  obtain ⟨k,n1,c1,A1,hk,rfl,rfl,hn1,hc1,hc9,hN,hB⟩:=hrel;rcases Nat.eq_zero_or_pos k with hk0|hk0
  · subst hk0;rw[List.drop_zero]at hN;go_wp2_with fail;refine (Cf A1 n1 c1 _ wr hN (by omega)).mono ?_;rintro e w2 ⟨A2,n2,c2,rfl,hN2,h1,h2,hB2⟩;rw[Limb.val_canon]at hN2;go_wp2_with fail;go_ret
    exact ⟨A2,n2,c2,rfl,hN2,h1,h2,hB.next hB2⟩
  · obtain ⟨j,rfl⟩:∃j,k=j+1:=⟨k-1,by omega⟩;have e1:(((j+1:Nat):Int)-1)=(j:Int):=(by omega);rw[e1];clear e1 hk0;generalize hN0:Limb.val xs*Limb.val (ys.drop (j+1))=N at *;have HN0:=Lib.hid hN0;clear hN0;have hlenN:=hN.len;have HLN:=Lib.hid hlenN;clear hlenN;obtain ⟨wo,rfl⟩:∃wo:World,wo=wr:=⟨_,rfl⟩;go_wp2_with fail
    go_loopw [7,8] (fun v i wr=>∃t:Nat,t<=n1/\i=.int .i64 (t:Int)/\KE wr wo.heap.size v (0::(Limb.canon N).take t)/\Below wo.heap.size wo wr) (fun _ i _=>n1-(intOf i).toNat)
    case atStart=> refine ⟨0,Nat.zero_le _,rfl,⟨⟨rfl,.inr ⟨wo.heap.size,1,#[.int .u32 0],rfl,Nat.le_refl _,heap_alloc_new wo _,Nat.le_refl _,by unfold maxLen;omega,rfl,rfl⟩⟩,Limb.Ok.cons (by omega) (by rw[List.take_zero];exact Limb.Ok.nil)⟩,Af wo _⟩
    case round=>
     obtain ⟨t,ht,rfl,hL,hB2⟩:=hrel;by_cases htn:t<n1
     · obtain ⟨b,o,x,rfl,hxl,hxe,hcx⟩:=(hN.below hB2).at_ htn;have HX:=Lib.hid hxe;clear hxe;have hlen:(0::(Limb.canon N).take t).length<=4398046511104:=(by rw[List.length_cons,List.length_take];omega);go_wp2_with (at_builtin;refine BP _ rfl _ _ rfl wo.heap.size _ _ rfl (hL.alloc _) _ x rfl (Jt _ _ _) hxl hlen (by have:=hB2.size;simp;omega) ?_;intro v' w1 hL1 hB1);go_roundw
       case rel=> refine ⟨t+1,by omega,by go_num,?_,(hB2.alloc hB2.size _).trans hB1⟩;rw[Limb.take_succ_getD _ t (by rw[HLN.out];omega),<-HX.out];exact hL1
       case measure=>simp[intOf]<;>omega
     · rw[List.take_of_length_le (by rw[HLN.out];omega)]at hL;obtain ⟨A3,c3,rfl,hN3,hc3,hc93⟩:=hL.form;have e3:(0::Limb.canon N).length=n1+1:=(by rw[List.length_cons,HLN.out]);rw[e3];rw[e3]at hN3 hc3;have E3:=Lib.hid e3;have t2:=hB.next hB2;obtain ⟨b,o,y,rfl,hyl,hye,hcy⟩:=(hy.below t2).at_ (i:=j) (by omega);have HY:=Lib.hid hye;clear hye e3 hL;go_wp2_with fail;refine (Ia A n c xs y wr (hx.below t2) (by omega) hyl).mono ?_;rintro e w4 ⟨A4,n4,c4,rfl,hN4,h1,h2,hB4⟩
       have l4:n4<=n+1:=by rw[<-hN4.len];exact Limb.canon_len_le _ _ (CI _ _ _ 1 hx.lt (by omega))
       go_wp2_with fail;refine (FM A3 A4 (n1+1) c3 n4 c4 _ _ w4 (hN3.below hB4) hN4 (by omega) (by omega)).mono ?_;rintro e w5 ⟨A5,n5,c5,rfl,hN5,h15,h25,hB5⟩;have ev:Limb.val (0::Limb.canon N)+Limb.val (Limb.canon (Limb.val xs*y))=Limb.val xs*Limb.val (ys.drop j):=by rw[Limb.val_canon,Limb.val_cons,Limb.val_canon,<-HN0.out,KI ys j (by rw[hy.len];omega),Nat.zero_add,HY.out];exact RP _ _ _
       rw[ev]at hN5;clear ev;go_wp2_with fail;go_roundw
       case rel=> refine ⟨j,n5,c5,A5,by omega,by go_num,rfl,?_,h15,h25,hN5,(t2.next hB4).next hB5⟩;rw[<-hN5.len];have h1:=CI _ _ n m hx.lt (by have:=MQ ys hy.ok j;rwa [hy.len]at this);exact Limb.canon_len_le _ _ h1
       case measure=>simp[intOf]<;>omega
end
end Go.Proofs.YtmedjkhmadfjlaaGreat
