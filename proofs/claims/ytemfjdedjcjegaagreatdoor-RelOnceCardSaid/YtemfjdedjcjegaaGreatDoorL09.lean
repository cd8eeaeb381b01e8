/- Texts of one seat, put together: Late Region RegionZ RowL. -/
import Derived.Test.YtemfjdedjcjegaaGreatDoorL08
set_option linter.unusedVariables false
set_option linter.unusedSimpArgs false
set_option maxRecDepth 100000
set_option maxHeartbeats 16000000
namespace Go.Proofs.YtemfjdedjcjegaaGreatDoor
section
open Go.RowKit
section
variable {P:Program} {ops:Array Oper} {Q:Exit->Act->World->Prop} {md:Region.Mode} {S:World->Prop} {late:List Nat}
def De (P:Program) (md:Region.Mode) (ops:Array Oper) (Q:Exit->Act->World->Prop) (S:World->Prop) (late:List Nat):Nat->Array Bool->Act->World->Prop
 |0,listed,a,w=>Region.ready md ops listed=[]/\Q .normal a w
 |fuel+1,listed,a,w=>(Region.ready md ops listed=[]->Q .normal a w) /\
  ∀i∈Region.ready md ops listed,wpOp P ops Q i (fun a' w'=>(i ∉ late->S w')/\De P md ops Q S late fuel (listed.setIfInBounds i true) a' w') a w
theorem De.any:∀(fuel:Nat) (listed:Array Bool) (a:Act) (w:World),De P md ops Q S late fuel listed a w->wpAny P md ops Q fuel listed a w
 |0,_,_,_,h=>h
 |fuel+1,_,_,_,h=>⟨h.1,fun i hi=>wpOp_mono (fun a' w' k=>De.any fuel _ a' w' k.2) (h.2 i hi)⟩
def Bg (md:Region.Mode) (ops:Array Oper) (listed:Array Bool):Prop:=
 ∀k o,ops[k]?=some o->listed.getD k false=true->∀e∈o.after,Region.binds md e=true->listed.getD e.on false=true
def Hv (md:Region.Mode) (ops:Array Oper) (late:List Nat) (i:Nat):Bool:=
 late.all fun j=>match ops[j]? with
  |none=>true
  |some oj=>oj.after.any fun e=>Region.binds md e&&(e.on==i || match ops[e.on]? with
   |none=>false
   |some ok=>ok.after.any fun e2=>Region.binds md e2&&e2.on==i)
theorem K9 {i j:Nat} {oj:Oper} (h:Hv md ops late i=true) (hj:j∈late) (ho:ops[j]?=some oj) :
   ∃e∈oj.after,Region.binds md e=true/\(e.on=i\/∃ok,ops[e.on]?=some ok/\∃e2∈ok.after,Region.binds md e2=true/\e2.on=i):=by
 have h1:=List.all_eq_true.1 h j hj;rw[ho]at h1;obtain ⟨x,hx,h2⟩:=Array.any_eq_true.1 h1;simp only[Bool.and_eq_true,Bool.or_eq_true,beq_iff_eq]at h2;refine ⟨_,Array.getElem_mem hx,h2.1,h2.2.imp id fun h3=>?_⟩;split at h3
 · cases h3
 · rename_i ok hok
   obtain ⟨y,hy,h4⟩:=Array.any_eq_true.1 h3;simp only[Bool.and_eq_true,beq_iff_eq]at h4;exact ⟨ok,hok,_,Array.getElem_mem hy,h4.1,h4.2⟩
theorem DG {listed:Array Bool} {k:Nat} (h1:listed.getD k false=true) (h0:listed.getD k true=false):False:=by
 rcases Nat.lt_or_ge k listed.size with h|h
 · simp[h]at h0 h1;rw[h0]at h1;cases h1
 · simp[Array.getElem?_eq_none h]at h1
theorem Bg.next {listed:Array Bool} {j:Nat} (hc:Bg md ops listed) (hr:j∈Region.ready md ops listed):Bg md ops (listed.setIfInBounds j true):=by
 intro k o ho hk e he hb;obtain ⟨-,oj,hoj,hall⟩:=mem_ready.1 hr;by_cases hjk:j=k
 · subst hjk;rw[hoj]at ho;injection ho with ho
   subst ho;exact getD_set_true (hall e he hb)
 · rw[getD_set_ne false hjk]at hk;exact getD_set_true (hc k o ho hk e he hb)
theorem Q0 {i j:Nat} {listed:Array Bool} (hl:Hv md ops late i=true) (hc:Bg md ops listed) (hi:listed.getD i true=false) (hj:j∈Region.ready md ops listed):j ∉ late:=by
 intro hm;obtain ⟨-,oj,hoj,hall⟩:=mem_ready.1 hj;obtain ⟨e,he,hb,h⟩:=K9 hl hm hoj;rcases h with h|⟨ok,hok,e2,he2,hb2,h⟩
 · exact DG (h▸hall e he hb) hi
 · exact DG (h▸hc _ ok hok (hall e he hb) e2 he2 hb2) hi
theorem De.first {i:Nat} {oi:Oper} {v:Value} (hi:ops[i]?=some oi) (hsel:∀(j:Nat) (o:Oper) cs b,ops[j]?=some o->o.op≠.select cs b)
  (hQ:∀c a w,Q (.panic c) (a.put oi.dst v) w->Q (.panic c) a w) (hlate:Hv md ops late i=true) (hnl:i ∉ late) :
  ∀(fuel:Nat) (listed:Array Bool) (a:Act) (w:World),
    (∀j oj,ops[j]?=some oj->j≠i->listed.getD j true=false->(∀e∈oj.after,Region.binds md e=true->e.on≠i)->oi.apart ops oj=true) ->
    Bg md ops listed->i∈Region.ready md ops listed->YieldsIf P ops S oi v a->S w ->
    De P md ops Q S late fuel (listed.setIfInBounds i true) (a.put oi.dst v) w->De P md ops Q S late (fuel+1) listed a w:=by
 intro fuel;induction fuel with
 |zero=>
  intro listed a w _ _ hr hy hS H;refine ⟨fun h=>(by rw[h]at hr;cases hr),fun j hj=>?_⟩;by_cases hji:j=i
  · subst hji;exact hy.wpOp hi hS ⟨fun _=>hS,H⟩
  · have:=ready_mono hj hji;rw[H.1]at this;cases this
 |succ fuel ih=>
  intro listed a w hfree hc hr hy hS H;refine ⟨fun h=>(by rw[h]at hr;cases hr),fun j hj=>?_⟩;have hi0:=(mem_ready.1 hr).1;by_cases hji:j=i
  · subst hji;exact hy.wpOp hi hS ⟨fun _=>hS,H⟩
  · have hjl:=Q0 hlate hc hi0 hj;obtain ⟨hjun,oj,hoj,hall⟩:=mem_ready.1 hj;have hno:∀e∈oj.after,Region.binds md e=true->e.on≠i:=fun e he hb heq=>DG (heq▸hall e he hb) hi0
    refine wpOp_mono (fun a' w' k=>⟨fun _=>k.2.1 hjl,?_⟩) (wpOp_putIf hoj (hfree j oj hoj hji hjun hno) (fun cs b=>hsel i oi cs b hi) (fun cs b=>hsel j oj cs b hoj) hQ hy (H.2 j (ready_mono hj hji)));refine ih (listed.setIfInBounds j true) a' w' (fun m om hm hmi hun hn=>hfree m om hm hmi ?_ hn) (hc.next hj) (ready_mono hr (Ne.symm hji)) k.1 (k.2.1 hjl) ?_
    · by_cases hjm:j=m
      · subst hjm;exact hjun
      · rw[getD_set_ne true hjm]at hun;exact hun
    · rw[Array.setIfInBounds_comm _ _ hji];exact k.2.2
theorem De.take {i:Nat} {oi:Oper} {v:Value} {fuel:Nat} {listed:Array Bool} {a:Act} {w:World} (hi:ops[i]?=some oi)
  (hs:Region.noSelect ops=true) (hf:Region.free md ops listed i=true) (hr:(Region.ready md ops listed).contains i=true) (hl:(Hv md ops late i&&!late.contains i)=true)
  (hQ:∀c a w,Q (.panic c) (a.put oi.dst v) w->Q (.panic c) a w) (hc:Bg md ops listed) (hy:YieldsIf P ops S oi v a) (hS:S w)
  (h:Bg md ops (listed.setIfInBounds i true)->De P md ops Q S late fuel (listed.setIfInBounds i true) (a.put oi.dst v) w):De P md ops Q S late (fuel+1) listed a w:=by
 simp only[Bool.and_eq_true,Bool.not_eq_true',List.contains_eq_mem,decide_eq_false_iff_not]at hl;have hm:i∈Region.ready md ops listed:=by simpa using hr
 exact De.first hi (Region.noSelect_spec hs) hQ hl.1 hl.2 fuel listed a w (Region.free_spec hi hf) hc hm hy hS (h (hc.next hm))
theorem De.one {i:Nat} {oi:Oper} {fuel:Nat} {listed:Array Bool} {a:Act} {w:World} (hr:Region.ready md ops listed=[i]) (hi:ops[i]?=some oi) (hw:Region.wanted oi (yielded ops a.tmps)=true)
  (h:∀K:Act->World->Prop,Hid (∀a' w',(i ∉ late->S w')->De P md ops Q S late fuel (listed.setIfInBounds i true) a' w'->K a' w')->Oper.wp P oi a w K Q):De P md ops Q S late (fuel+1) listed a w:=
 ⟨fun h0=>(by rw[h0]at hr;cases hr),fun j hj=>by
  rw[hr]at hj;obtain rfl:=List.mem_singleton.1 hj;exact wpOp_step hi (fun K hK=>by rw[if_pos hw];exact h K (fun a' w' h1 h2=>hK a' w' ⟨h1,h2⟩))⟩
theorem De.done {listed:Array Bool} {a:Act} {w:World} {fuel:Nat} (hr:Region.ready md ops listed=[]) (h:Q .normal a w):De P md ops Q S late fuel listed a w:=by
 cases fuel with
 |zero=>exact ⟨hr,h⟩
 |succ n=>exact ⟨fun _=>h,by rw[hr];simp⟩
theorem Bg.zero (n:Nat):Bg md ops (Array.replicate n false):=by
 intro k o _ hk;rcases Nat.lt_or_ge k n with h|h
 · simp[h]at hk
 · simp[Nat.not_lt.2 h]at hk
theorem Is {id:Nat} {a:Act} {w:World} (hm:P.follows .mixedOrders=true) (late:List Nat) (S:World->Prop)
  (h:Bg .any ops (Array.replicate ops.size false)->De P .any ops Q S late ops.size (Array.replicate ops.size false) a w.drew):(Code.region id ops true).wp P Q a w:=
 wp_region_any hm (De.any _ _ _ _ (h (Bg.zero _)))
end
end
section
open Go.RowKit
section
variable {P:Program} {ops:Array Oper} {Q:Exit->Act->World->Prop}
def L2 (ops:Array Oper):Bool:=(List.range ops.size).all fun i=>match ops[i]? with
 |none=>true
 |some o=>o.after.all fun e=>!Region.binds .any e || decide (e.on<i)
theorem It (h:L2 ops=true) {i:Nat} {o:Oper} (ho:ops[i]?=some o):∀e∈o.after,Region.binds .any e=true->e.on<i:=by intro e he hbd;have hlt:i<ops.size:=(Array.getElem?_eq_some_iff.1 ho).1;have h1:=List.all_eq_true.1 h i (List.mem_range.2 hlt);simp only[ho]at h1;have h2:=Array.all_eq_true_iff_forall_mem.1 h1 e he;rw[hbd]at h2;simpa using h2
def Iu (n:Nat) (listed:Array Bool):Prop:=∀j,j<n->listed.getD j false=true
theorem ready_nil {listed:Array Bool} (hb:L2 ops=true) (hs:listed.size=ops.size) (h:Region.ready .any ops listed=[]):Iu ops.size listed:=by
 intro j;induction j using Nat.strongRecOn with
 |_ j ih=>
  intro hj;by_cases hl:listed.getD j false=true
  · exact hl
  · have hm:j∈Region.ready .any ops listed:=mem_ready.2 ⟨by
     have h1:j<listed.size:=(by omega);simp[h1]at hl ⊢;exact hl,ops[j],Array.getElem?_eq_getElem hj,fun e he hbd=>ih e.on (It hb (Array.getElem?_eq_getElem hj) e he hbd) (by have:=It hb (Array.getElem?_eq_getElem hj) e he hbd;omega)⟩
    rw[h]at hm;cases hm
theorem OP {md:Region.Mode} {listed:Array Bool} (h:Iu ops.size listed):Region.ready md ops listed=[]:=by
 rcases hr:Region.ready md ops listed with _|⟨i,is⟩
 · rfl
 · have hm:i∈Region.ready md ops listed:=(by rw[hr];exact List.mem_cons_self ..);obtain ⟨h1,o,ho,_⟩:=mem_ready.1 hm;have h2:=h i (Array.getElem?_eq_some_iff.1 ho).1;exact (DG h2 h1).elim
def L3 (listed:Array Bool):Nat:=listed.toList.countP (fun b=>!b)
theorem Q2 {listed:Array Bool} {i:Nat} (h:listed.getD i true=false):L3 (listed.setIfInBounds i true)+1=L3 listed:=by
 have hi:i<listed.size:=by
  rcases Nat.lt_or_ge i listed.size with h1|h1
  · exact h1
  · simp[Array.getElem?_eq_none h1]at h
 have h1:listed.toList[i]?=some false:=by simp[hi]at h;simp[hi,h]
 unfold L3;rw[Array.toList_setIfInBounds];generalize listed.toList=l at *;clear h hi;induction l generalizing i with
 |nil=>simp at h1
 |cons b l ih=>
  cases i with
  |zero=>simp at h1;subst h1;simp
  |succ i=> simp at h1;have:=ih h1;simp only[List.set_cons_succ,List.countP_cons];omega
theorem OQ {listed:Array Bool} (h:L3 listed=0):Iu listed.size listed:=by intro j hj;unfold L3 at h;rw[List.countP_eq_zero]at h;have:=h listed[j] (by simp);simp at this;simp[hj,this]
theorem MN (n:Nat):L3 (Array.replicate n false)=n:=by unfold L3;simp[List.countP_replicate]
theorem FH {id:Nat} {a:Act} {w:World} (hm:P.follows .mixedOrders=true) (hb:L2 ops=true) (I:Array Bool->Act->World->Prop)
  (h0:I (Array.replicate ops.size false) a w.drew)
  (hstep:∀(i:Nat) (o:Oper) (listed:Array Bool) (a:Act) (w:World),ops[i]?=some o->listed.size=ops.size->listed.getD i true=false->Bg .any ops listed->(∀e∈o.after,Region.binds .any e=true->listed.getD e.on false=true)->I listed a w ->
   wpOp P ops Q i (I (listed.setIfInBounds i true)) a w)
  (hend:∀(listed:Array Bool) (a:Act) (w:World),listed.size=ops.size->Iu ops.size listed->I listed a w->Q .normal a w):(Code.region id ops true).wp P Q a w:=by
 have main:∀(fuel:Nat) (listed:Array Bool) (a:Act) (w:World),listed.size=ops.size->L3 listed<=fuel->Bg .any ops listed->I listed a w->wpAny P .any ops Q fuel listed a w:=by
  intro fuel;induction fuel with
  |zero=>
   intro listed a w hs hf hc hI;have hall:Iu ops.size listed:=(by rw[<-hs];exact OQ (by omega));exact ⟨OP hall,hend listed a w hs hall hI⟩
  |succ fuel ih=> intro listed a w hs hf hc hI;refine ⟨fun h=>hend listed a w hs (ready_nil hb hs h) hI,fun i hi=>?_⟩;obtain ⟨h1,o,ho,h2⟩:=mem_ready.1 hi;refine wpOp_mono (fun a' w' hI'=>?_) (hstep i o listed a w ho hs h1 hc h2 hI);exact ih _ a' w' (by simp[hs]) (by have:=Q2 h1;omega) (hc.next hi) hI'
 refine wp_region_any hm (main ops.size _ a _ (by simp) (by rw[MN];exact Nat.le_refl _) (Bg.zero _) h0)
def AG (ops:Array Oper) (j:Nat):Option Tmp:=(ops[j]?).bind (·.dst)
def upd (σ:Nat->Value) (i:Nat) (v:Value):Nat->Value:=fun j=>if j=i then v else σ j
theorem CX (σ:Nat->Value) (i:Nat) (v:Value):upd σ i v i=v:=by unfold upd;rw[if_pos rfl]
theorem upd_ne (σ:Nat->Value) {i j:Nat} (v:Value) (h:j≠i):upd σ i v j=σ j:=by unfold upd;rw[if_neg h]
def fill (ops:Array Oper) (σ:Nat->Value) (listed:Array Bool):List Nat->Act->Act
 |[],a=>a
 |j::js,a=>fill ops σ listed js (if listed.getD j false then a.put (AG ops j) (σ j) else a)
def FN:Option Tmp->Option Tmp->Bool
 |some d,some e=>d != e
 |_,_=>true
theorem OR (a:Act) (d e:Option Tmp) (u v:Value) (h:FN d e=true):(a.put d u).put e v=(a.put e v).put d u:=by
 cases d with
 |none=>rfl
 |some d=>cases e with
  |none=>rfl
  |some e=>
   have:d≠e:=by simpa[FN] using h
   simp only[Act.put,Act.mk.injEq,and_true];exact Array.setIfInBounds_comm _ _ this
def ownB (ops:Array Oper) (size:Nat):Bool:=(List.range ops.size).all fun i=>(match AG ops i with|none=>true|some d=>decide (d<size))&&(List.range ops.size).all fun j=>i==j || FN (AG ops i) (AG ops j)
theorem Iv {size i j:Nat} (h:ownB ops size=true) (hi:i<ops.size) (hj:j<ops.size) (hne:i≠j):FN (AG ops i) (AG ops j)=true:=by have h1:=List.all_eq_true.1 h i (List.mem_range.2 hi);simp only[Bool.and_eq_true]at h1;have h2:=List.all_eq_true.1 h1.2 j (List.mem_range.2 hj);simpa[hne] using h2
theorem RJ {size i d:Nat} (h:ownB ops size=true) (hi:i<ops.size) (hd:AG ops i=some d):d<size:=by have h1:=List.all_eq_true.1 h i (List.mem_range.2 hi);simp only[Bool.and_eq_true,hd]at h1;exact of_decide_eq_true h1.1
theorem Iw {σ:Nat->Value} {listed:Array Bool} {d:Option Tmp} {v:Value}:∀(js:List Nat) (a:Act),(∀j∈js,FN d (AG ops j)=true)->fill ops σ listed js (a.put d v)=(fill ops σ listed js a).put d v
 |[],_,_=>rfl
 |j::js,a,h=>by
  have hj:=h j (List.mem_cons_self ..);have hjs:∀x∈js,FN d (AG ops x)=true:=fun x hx=>h x (List.mem_cons_of_mem _ hx)
  unfold fill;split
  · rw[OR _ _ _ _ _ hj];exact Iw js _ hjs
  · exact Iw js _ hjs
theorem JM {σ:Nat->Value} {listed:Array Bool} {i:Nat} {v:Value}:∀(js:List Nat) (a:Act),i ∉ js->fill ops (upd σ i v) (listed.setIfInBounds i true) js a=fill ops σ listed js a
 |[],_,_=>rfl
 |j::js,a,h=>by
  have hji:j≠i:=fun e=>h (e▸List.mem_cons_self ..)
  unfold fill;rw[getD_set_ne false (Ne.symm hji),upd_ne σ v hji];exact JM js _ (fun hh=>h (List.mem_cons_of_mem _ hh))
theorem Gk {size:Nat} {σ:Nat->Value} {listed:Array Bool} {i:Nat} {v:Value} (ho:ownB ops size=true) (hi:i<ops.size) (hl:listed.getD i true=false) :
  ∀(js:List Nat) (a:Act),js.Nodup->(∀j∈js,j<ops.size)->i∈js->fill ops (upd σ i v) (listed.setIfInBounds i true) js a=(fill ops σ listed js a).put (AG ops i) v
 |[],_,_,_,h=>by cases h
 |j::js,a,hn,hlt,h=>by
  obtain ⟨hn1,hn2⟩:=List.nodup_cons.1 hn;by_cases hji:j=i
  · subst hji;have hls:j<listed.size:=by
     rcases Nat.lt_or_ge j listed.size with h1|h1
     · exact h1
     · simp[Array.getElem?_eq_none h1]at hl
    have h1:(listed.setIfInBounds j true).getD j false=true:=(by simp[hls]);have h2:listed.getD j false=false:=(by simp[hls]at hl ⊢;exact hl);unfold fill;rw[h1,h2,CX];simp only[if_true,Bool.false_eq_true,if_false];rw[JM js _ hn1];exact Iw js a (fun x hx=>Iv ho hi (hlt x (List.mem_cons_of_mem _ hx)) (fun e=>hn1 (e▸hx)))
  · have hjs:i∈js:=(List.mem_cons.1 h).resolve_left (fun e=>hji e.symm);unfold fill;rw[getD_set_ne false (Ne.symm hji),upd_ne σ v hji];exact Gk ho hi hl js _ hn2 (fun x hx=>hlt x (List.mem_cons_of_mem _ hx)) hjs
theorem Q3 (a:Act) (d:Option Tmp) (v:Value):(a.put d v).tmps.size=a.tmps.size:=by cases d<;>simp[Act.put]
theorem eval_put_ne (a:Act) (d:Option Tmp) (t:Tmp) (v:Value) (h:d≠some t):(a.put d v).eval (.tmp t)=a.eval (.tmp t):=by
 cases d with
 |none=>rfl
 |some d=>
  have:d≠t:=fun e=>h (by rw[e])
  simp[Act.put,Act.eval,Array.getElem?_setIfInBounds_ne this]
theorem L4 (a:Act) (t:Tmp) (v:Value) (h:t<a.tmps.size):(a.put (some t) v).eval (.tmp t)=v:=by simp[Act.put,Act.eval,h]
theorem L5 {σ:Nat->Value} {listed:Array Bool} {t:Tmp}:∀(js:List Nat) (a:Act),(∀j∈js,AG ops j≠some t)->(fill ops σ listed js a).eval (.tmp t)=a.eval (.tmp t)
 |[],_,_=>rfl
 |j::js,a,h=>by
  unfold fill;rw[L5 js _ (fun x hx=>h x (List.mem_cons_of_mem _ hx))];split
  · exact eval_put_ne _ _ _ _ (h j (List.mem_cons_self ..))
  · rfl
theorem Oa {size:Nat} {σ:Nat->Value} {listed:Array Bool} {t:Tmp} {i:Nat} (ho:ownB ops size=true) (hi:i<ops.size) (hd:AG ops i=some t) (hl:listed.getD i false=true) :
    ∀(js:List Nat) (a:Act),a.tmps.size=size->js.Nodup->(∀j∈js,j<ops.size)->i∈js->(fill ops σ listed js a).eval (.tmp t)=σ i
  |[],_,_,_,_,h=>by cases h
  |j::js,a,hs,hn,hlt,h=>by
    obtain ⟨hn1,hn2⟩:=List.nodup_cons.1 hn;by_cases hji:j=i
    · subst hji;unfold fill;rw[hl];simp only[if_true];rw[L5 js _ (fun x hx e=>by
        have h1:=Iv ho hi (hlt x (List.mem_cons_of_mem _ hx)) (fun e=>hn1 (e▸hx));rw[hd,e]at h1;simp[FN]at h1),hd]
      exact L4 _ _ _ (by rw[hs];exact RJ ho hi hd)
    · have hjs:i∈js:=(List.mem_cons.1 h).resolve_left (fun e=>hji e.symm);unfold fill;exact Oa ho hi hd hl js _ (by
                                         split;· rw[Q3];exact hs
                                         · exact hs) hn2 (fun x hx=>hlt x (List.mem_cons_of_mem _ hx)) hjs
def mid (ops:Array Oper) (σ:Nat->Value) (listed:Array Bool) (a:Act):Act:=fill ops σ listed (List.range ops.size) a
theorem MO {a:Act} {σ:Nat->Value} {listed:Array Bool} {t:Tmp} {i:Nat} (ho:ownB ops a.tmps.size=true) (hd:AG ops i=some t) (hl:listed.getD i false=true):(mid ops σ listed a).eval (.tmp t)=σ i:=by
 have hi:i<ops.size:=by
  rcases Nat.lt_or_ge i ops.size with h|h
  · exact h
  · simp[AG,Array.getElem?_eq_none h]at hd
 exact Oa ho hi hd hl _ a rfl List.nodup_range (fun j hj=>List.mem_range.1 hj) (List.mem_range.2 hi)
def Ta (ops:Array Oper) (t:Tmp):Bool:=(List.range ops.size).all fun j=>AG ops j != some t
def Each (R:Nat->Oper->Prop):Nat->List Oper->Prop
 |_,[]=>True
 |i,o::os=>R i o/\Each R (i+1) os
theorem Each.get {R:Nat->Oper->Prop}:∀(os:List Oper) (k:Nat),Each R k os->∀i o,os[i]?=some o->R (k+i) o
 |[],_,_,i,o,h=>by simp at h
 |x::os,k,h,i,o,ho=>by
  cases i with
  |zero=>simp at ho;subst ho;exact h.1
  |succ i=> have:=Each.get os (k+1) h.2 i o (by simpa using ho);rw[show k+(i+1)=k+1+i by omega];exact this
def Does (P:Program) (a:Act) (o:Oper) (w:World) (R:Value->World->Prop):Prop:=
 (∃v w',(execOp a.eval o).run P w=.ok (.value v) w'/\R v w')\/(∃w',(execOp a.eval o).run P w=.ok .skip w'/\R undef w') \/
 ∃(f:FuncId) (args:Array Value) (R':Ending->World->Prop),(execOp a.eval o).run P w=.ok (.enter f args) w/\Calls P f args w R'/\∀e w',R' e w'->∃v,e=.returned v/\R v w'
theorem Does.val {a:Act} {o:Oper} {w w':World} {R:Value->World->Prop} (v:Value) (h:(execOp a.eval o).run P w=.ok (.value v) w') (hR:R v w'):Does P a o w R:=Or.inl ⟨v,w',h,hR⟩
theorem Does.skip {a:Act} {o:Oper} {w w':World} {R:Value->World->Prop} (h:(execOp a.eval o).run P w=.ok .skip w') (hR:R undef w'):Does P a o w R:=Or.inr (Or.inl ⟨w',h,hR⟩)
theorem Does.call {a:Act} {o:Oper} {w:World} {R:Value->World->Prop} {f:FuncId} {args:Array Value} {R':Ending->World->Prop} (h:(execOp a.eval o).run P w=.ok (.enter f args) w) (hc:Calls P f args w R') (hR:∀e w',R' e w'->∃v,e=.returned v/\R v w'):Does P a o w R:=Or.inr (Or.inr ⟨f,args,R',h,hc,hR⟩)
theorem Does.step {i:Nat} {o:Oper} {K:Act->World->Prop} {a:Act} {w:World} {R:Value->World->Prop} (ho:ops[i]?=some o) (hg:Region.wanted o (yielded ops a.tmps)=true) (h:Does P a o w R) (hK:∀v w',R v w'->K (a.put o.dst v) w'):wpOp P ops Q i K a w:=
 wpOp_step ho fun K' hK'=>by
  rw[if_pos hg];unfold Oper.wp;rcases h with ⟨v,w',hr,hR⟩|⟨w',hr,hR⟩|⟨f,args,R',hr,hc,hR⟩
  · rw[hr];exact hK' _ _ (hK _ _ hR)
  · rw[hr];exact hK' _ _ (hK _ _ hR)
  · rw[hr];refine hc.mono fun e w' he=>?_
    obtain ⟨v,rfl,hv⟩:=hR e w' he;exact hK' _ _ (hK _ _ hv)
def Ac (ops:Array Oper) (a:Act) (o:Oper) (w:World) (R:Value->World->Prop) (D:Prop):Prop:=
 match o.guard with
 |none=>D
 |some (g,want)=>∃(d:Tmp) (b:Bool),AG ops g=some d/\a.tmps.getD d undef=.bool b/\(b=want->D)/\(b≠want->R undef w)
theorem Ac.step {i:Nat} {o:Oper} {K:Act->World->Prop} {a:Act} {w:World} {R:Value->World->Prop} (ho:ops[i]?=some o) (h:Ac ops a o w R (Does P a o w R)) (hK:∀v w',R v w'->K (a.put o.dst v) w'):wpOp P ops Q i K a w:=by
 unfold Ac at h;cases hg:o.guard with
 |none=>
  rw[hg]at h;exact Does.step ho (by simp[Region.wanted,hg]) h hK
 |some gw=>
  obtain ⟨g,want⟩:=gw;rw[hg]at h;obtain ⟨d,b,hd,hv,h1,h2⟩:=h;have hy:yielded ops a.tmps g=some b:=by
    have h3:a.tmps[d]?=some (.bool b):=by
     rcases hx:a.tmps[d]? with _|x
     · simp[hx]at hv;exact absurd hv (by unfold undef;simp)
     · simp[hx]at hv;rw[hv]
    unfold AG at hd;unfold yielded;rw[hd];show (match a.tmps[d]? with|some (.bool b)=>some b|_=>none)=_;rw[h3]
  by_cases hb:b=want
  · exact Does.step ho (by simp[Region.wanted,hg,hy,hb]) (h1 hb) hK
  · refine wpOp_step ho fun K' hK'=>?_
    rw[if_neg (by simp[Region.wanted,hg,hy,hb])];exact hK' _ _ (hK _ _ (h2 hb))
def Uv (P:Program) (ops:Array Oper) (a0:Act) (T:World->World->Prop) (F:Nat->Value->World->Prop) (G:Array Bool->(Nat->Value)->World->Prop) (i:Nat) (o:Oper):Prop:=
 ∀(listed:Array Bool) (σ:Nat->Value) (w:World) (a:Act),(∀j t,AG ops j=some t->listed.getD j false=true->a.tmps.getD t undef=σ j)->(∀t,Ta ops t=true->a.tmps.getD t undef=a0.tmps.getD t undef) ->
  listed.getD i true=false->Bg .any ops listed->(∀e∈o.after,Region.binds .any e=true->listed.getD e.on false=true)->G listed σ w->(∀j,listed.getD j false=true->F j (σ j) w) ->
  Ac ops a o w (fun v w'=>T w w'/\F i v w'/\G (listed.setIfInBounds i true) (upd σ i v) w') (Does P a o w (fun v w'=>T w w'/\F i v w'/\G (listed.setIfInBounds i true) (upd σ i v) w'))
theorem BS (n j:Nat):(Array.replicate n false).getD j false=false:=by
 rcases Nat.lt_or_ge j n with h|h
 · simp[h]
 · simp[Nat.not_lt.2 h]
theorem BP {listed:Array Bool} {σ:Nat->Value} {a:Act} (h:Iu ops.size listed):mid ops σ listed a=(List.range ops.size).foldl (fun a j=>a.put (AG ops j) (σ j)) a:=by
 unfold mid;have:∀(js:List Nat) (a:Act),(∀j∈js,j<ops.size)->fill ops σ listed js a=js.foldl (fun a j=>a.put (AG ops j) (σ j)) a:=by
  intro js;induction js with
  |nil=>intro a _;rfl
  |cons j js ih=> intro a hlt;unfold fill;rw[if_pos (h j (hlt j (List.mem_cons_self ..))),List.foldl_cons];exact ih _ (fun x hx=>hlt x (List.mem_cons_of_mem _ hx))
 exact this _ a (fun j hj=>List.mem_range.1 hj)
def G1 (W0:World) (b s:Nat) (Fr Fu:World->Nat->Prop) (listed:Array Bool) (σ:Nat->Value) (w:World):Prop:=
 Below W0.heap.size W0 w/\(listed.getD b false=true->∃g,σ b=.pointer (some ⟨g,0,none⟩)/\W0.heap.size<=g/\(listed.getD s false=false->Fr w g)/\(listed.getD s false=true->Fu w g))
theorem Ac.none {a:Act} {o:Oper} {w:World} {R:Value->World->Prop} {D:Prop} (h:o.guard=none) (hD:D):Ac ops a o w R D:=by unfold Ac;rw[h];exact hD
theorem L6 {listed:Array Bool} {i:Nat} (h:listed.getD i true=false):i<listed.size:=by
 rcases Nat.lt_or_ge i listed.size with h1|h1
 · exact h1
 · simp[Array.getElem?_eq_none h1]at h
theorem L8 {listed:Array Bool} {i:Nat} (h:listed.getD i true=false):listed.getD i false=false:=by have:=L6 h;simp[this]at h ⊢;exact h
end
end
section
open Go.RowKit
def Uw (w:World) (g:Nat) (Z:Int) (k:Nat):Prop:=∃s A n c,AY w g #[.bool s,.slice A n c]/\Au w (.agg #[.bool s,.slice A n c]) Z k
structure Hw where
 made:Nat
 filled:Nat
 num:Int
 lim:Nat
def GZ (W0:World) (Bs:List Hw) (listed:Array Bool) (σ:Nat->Value) (w:World):Prop:=
 Below W0.heap.size W0 w/\(∀p∈Bs,listed.getD p.made false=true->∃g,σ p.made=.pointer (some ⟨g,0,none⟩)/\W0.heap.size<=g/\(listed.getD p.filled false=false->AY w g #[.bool false,.slice none 0 0])/\(listed.getD p.filled false=true->Uw w g p.num p.lim)) /\
 (∀p∈Bs,∀q∈Bs,p.made≠q.made->listed.getD p.made false=true->listed.getD q.made false=true->σ p.made≠σ q.made)
variable {W0:World} {Bs:List Hw} {listed:Array Bool} {σ:Nat->Value} {w w':World} {i:Nat} {v:Value}
def UE (Bs:List Hw) (i:Nat):Bool:=Bs.all fun p=>p.made != i&&p.filled != i
def U7 (Bs:List Hw):Bool:=Bs.all fun p=>Bs.all fun q=>(p.made != q.filled)&&(p.made==q.made || p.filled != q.filled)
end
section
open Go.RowKit
def Kp (w w':World):Prop:=∀A n xs,Am w A n xs->Am w' A n xs
theorem Kp.refl (w:World):Kp w w:=fun _ _ _ h=>h
theorem Kp.trans {a b c:World} (h:Kp a b) (k:Kp b c):Kp a c:=fun _ _ _ hx=>k _ _ _ (h _ _ _ hx)
theorem Kp.of_below {w w':World} (h:Below w.heap.size w w'):Kp w w':=fun _ _ _ hx=>hx.below h
theorem Au.kp {w w':World} {v:Value} {Z:Int} {k:Nat} (h:Au w v Z k) (hk:Kp w w'):Au w' v Z k:=by obtain ⟨A,n,c,rfl,h1,h2,h3,h4⟩:=h;exact ⟨A,n,c,rfl,hk _ _ _ h1,h2,h3,h4⟩
theorem BF.kp {w w':World} {v:Value} {Z:Int} {k:Nat} (h:BF w v Z k) (hk:Kp w w'):BF w' v Z k:=by obtain ⟨s,A,n,c,xs,rfl,h1,h2,h3,h4,h5⟩:=h;exact ⟨s,A,n,c,xs,rfl,hk _ _ _ h1,h2,h3,h4,h5⟩
def NL (u:Value):Prop:=∀z,u≠.int .u32 z
def EU (xs:List Value):Prop:=∀u∈xs,NL u
theorem EU.append {xs ys:List Value} (h:EU xs) (k:EU ys):EU (xs++ys):=fun u hu=>(List.mem_append.1 hu).elim (h u) (k u)
theorem EU.take {xs:List Value} (h:EU xs) (n:Nat):EU (xs.take n):=fun u hu=>h u (List.mem_of_mem_take hu)
theorem EU.drop {xs:List Value} (h:EU xs) (n:Nat):EU (xs.drop n):=fun u hu=>h u (List.mem_of_mem_drop hu)
theorem NL.bool (b:Bool):NL (.bool b):=fun _ h=>by cases h
theorem NL.slice (A:Option Addr) (n c:Nat):NL (.slice A n c):=fun _ h=>by cases h
theorem NL.i64 (z:Int):NL (.int .i64 z):=fun _ h=>by cases h
theorem Kp.block {w w':World} {g:Nat} {cur:Array Value} {T:TypeId} (hb:w.heap[g]?=some (.cells cur T (0,0))) (hn:EU cur.toList) (hg:w.grownBy w' (some g)):Kp w w':=by
 intro A n xs hx;refine hx.grown' hg (fun h0 ad had he=>?_);obtain ⟨b,o,e,hc⟩:=hx.2.2 h0;have h1:=hc 0 h0;rw[had]at e;injection e with e
 subst e;have he':b=g:=he;subst he';rw[cell_of_row w b _ _ _ _ hb]at h1;have h2:(Value.int .u32 ((xs.getD 0 0:Nat):Int))∈cur.toList:=by have:=Array.mem_of_getElem? h1;simpa using this
 exact hn _ h2 _ rfl
theorem Kp.none {w w':World} (hg:w.grownBy w' none):Kp w w':=fun _ _ _ hx=>hx.grownNone hg
def Az (T:TypeId) (sz:Nat) (w:World) (base:Nat) (v:Value) (n:Nat) (xs:List Value):Prop:=
 xs.length=n*sz/\((v=.slice none 0 0/\n=0) \/
  ∃g cap cur,v=.slice (some ⟨g,0,none⟩) n cap/\base<=g/\w.heap[g]?=some (.cells cur T (0,0))/\n<=cap/\cap<=maxLen/\cur.size=cap*sz/\cur.toList.take (n*sz)=xs/\EU cur.toList)
section
variable {T:TypeId} {sz:Nat} {w w':World} {base:Nat} {v:Value} {n:Nat} {xs:List Value}
theorem Az.nil (T:TypeId) (sz:Nat) (w:World) (base:Nat):Az T sz w base (.slice none 0 0) 0 []:=⟨by simp,.inl ⟨rfl,rfl⟩⟩
theorem Az.made (cur:Array Value) (cap:Nat) (hb:base<=w.heap.size) (hm:cap<=maxLen) (hs:cur.size=cap*sz) (hn:EU cur.toList) :
  Az T sz (w.alloc (.cells cur T)) base (.slice (some ⟨w.heap.size,0,none⟩) 0 cap) 0 []:=
 ⟨by simp,.inr ⟨w.heap.size,cap,cur,rfl,hb,heap_alloc_new w _,Nat.zero_le _,hm,hs,by simp,hn⟩⟩
theorem Az.lt (h:Az T sz w base v n xs):∀k,v.ownBlock=some k->base<=k/\k<w.heap.size:=by
 intro k hk;rcases h.2 with ⟨rfl,_⟩|⟨g,cap,cur,rfl,hb,hg,_⟩
 · simp[Value.ownBlock]at hk
 · simp[Value.ownBlock]at hk;subst hk;exact ⟨hb,(Array.getElem?_eq_some_iff.1 hg).1⟩
theorem Az.kept {row:Option Nat} (h:Az T sz w base v n xs) (hg:w.grownBy w' row) (hne:v.ownBlock=none\/v.ownBlock≠row):Az T sz w' base v n xs:=by
 refine ⟨h.1,?_⟩;rcases h.2 with hn|⟨g,cap,cur,rfl,hb,hgg,rest⟩
 · exact .inl hn
 · refine .inr ⟨g,cap,cur,rfl,hb,?_,rest⟩;rw[hg.block g (Array.getElem?_eq_some_iff.1 hgg).1 (by simpa[Value.ownBlock] using hne)];exact hgg
theorem Az.below (h:Az T sz w base v n xs) (hb:Below w.heap.size w w'):Az T sz w' base v n xs:=
 h.kept (row:=none) ⟨hb.os,hb.tape,hb.output,hb.size,fun k hk _=>hb.block k hk⟩ (by
  by_cases h0:v.ownBlock=none
  · exact .inl h0
  · exact .inr h0)
theorem Az.len (h:Az T sz w base v n xs):∃A c,v=.slice A n c/\n<=c/\c<=9223372036854775807/\(0<n->∃g,A=some ⟨g,0,none⟩):=by
 rcases h.2 with ⟨rfl,rfl⟩|⟨g,cap,cur,rfl,_,_,h1,h2,_⟩
 · exact ⟨none,0,rfl,by omega,by omega,fun h=>absurd h (by omega)⟩
 · unfold maxLen at h2;exact ⟨_,cap,rfl,h1,h2,fun _=>⟨g,rfl⟩⟩
theorem Az.cell {A:Option Addr} {c:Nat} (h:Az T sz w base (.slice A n c) n xs) (hn:0<n):∃g,A=some ⟨g,0,none⟩/\base<=g/\g<w.heap.size/\∀j u,xs[j]?=some u->w.cell? ⟨g,j,none⟩=some u/\w.frozen? ⟨g,j,none⟩=false:=by
 rcases h.2 with ⟨hv,h0⟩|⟨g,cap,cur,hv,hb,hh,_,_,_,ht,_⟩
 · omega
 · injection hv with hv
   refine ⟨g,hv,hb,(Array.getElem?_eq_some_iff.1 hh).1,fun j u hu=>⟨?_,by simp[World.frozen?,hh]⟩⟩;rw[cell_of_row w g j _ _ _ hh];rw[<-ht,List.getElem?_take]at hu;split at hu
   · simpa using hu
   · cases hu
theorem Az.isNLs (h:Az T sz w base v n xs):EU xs:=by
 rcases h.2 with ⟨_,rfl⟩|⟨g,cap,cur,_,_,_,_,_,_,ht,hn⟩
 · have:xs=[]:=List.eq_nil_of_length_eq_zero (by simpa using h.1);subst this;intro u hu;cases hu
 · rw[<-ht];exact hn.take _
theorem Az.kp (h:Az T sz w base v n xs) (hg:w.grownBy w' v.ownBlock):Kp w w':=by
 rcases h.2 with ⟨rfl,_⟩|⟨g,cap,cur,rfl,_,hh,_,_,_,_,hn⟩
 · exact Kp.none hg
 · exact Kp.block hh hn hg
theorem Az.back {B:Nat} (h:Az T sz w base v n xs) (hg:w.grownBy w' v.ownBlock) (hB:B<=base) (hw:B<=w.heap.size):Below B w w':=
 (Below.refl _ _).grown hg hw (fun k hk=>by have:=(h.lt k hk).1;omega)
theorem Az.old {w0:World} {B:Nat} (h:Az T sz w base v n xs) (h0:Below B w0 w) (hg:w.grownBy w' v.ownBlock) (hB:B<=base) (hw:B<=w0.heap.size):Below B w0 w':=
 h0.trans (h.back hg hB (Nat.le_trans hw h0.size))
theorem Az.set {g c j:Nat} {u:Value} (h:Az T sz w base (.slice (some ⟨g,0,none⟩) n c) n xs) (hu:NL u):Az T sz (w.setCell ⟨g,j,none⟩ u) base (.slice (some ⟨g,0,none⟩) n c) n (xs.set j u):=by
 refine ⟨by simpa using h.1,?_⟩;rcases h.2 with ⟨hv,_⟩|⟨g',cap,cur,hv,hb,hh,h1,h2,h3,h4,h5⟩
 · cases hv
 · injection hv with e1 e2 e3
   injection e1 with e1
   injection e1 with e1
   subst e1 e3;refine .inr ⟨g,c,cur.setIfInBounds j u,rfl,hb,?_,h1,h2,by simpa using h3,?_,?_⟩
   · simp[World.setCell,Array.getElem?_modify,hh]
   · rw[Array.toList_setIfInBounds,List.take_set,h4]
   · intro x hx;rw[Array.toList_setIfInBounds]at hx;rcases List.mem_or_eq_of_mem_set hx with hx|rfl
     · exact h5 x hx
     · exact hu
end
section
variable {P:Program} (w:World)
theorem Dv (base:Nat) (t ty e:TypeId) (i:TypeInfo) (z:Value) (size bytes:Nat) (ht:P.underlying t=some (.slice e)) (hi:P.info? e=some i) (hz:i.zero=some z)
   (hsize:i.size=size) (hby:i.bytes=bytes) (hzs:z.cells.size=size) (hsz:0<size) (hzn:EU z.cells.toList)
   (v:Value) (n:Nat) (xs:List Value) (hown:Az e size w base v n xs)
   (a:Addr) (m c:Nat) (news:List Value) (hl:news.length=m*size) (hnews:∀j u,news[j]?=some u->w.cell? (a.add j)=some u) (h1:∀u∈news,u.oneCell'=true) (hnn:EU news)
   (h63:n+m<=maxLen) (hbytes:(n+m)*bytes<=140737488355328) (hbase:base<=w.heap.size) :
   ∃v' w',(Builtin.append_ #[t,t] ty #[v,.slice (some a) m c]).run P w=.ok v' w'/\Az e size w' base v' (n+m) (xs++news)/\w.grownBy w' v.ownBlock:=by
 subst hsize;subst hby;have hsmall:n+m<=9223372036854775807:=by simp only[maxLen]at h63;omega
 have hlen:(xs++news).length=(n+m)*i.size:=by rw[List.length_append,hown.1,hl,Nat.add_mul]
 have hxn:=hown.isNLs;have hzz:∀k,EU (Builtin.zeroCells z.cells k).toList:=by intro k u hu;have h2:u∈(Builtin.zeroCells z.cells k):=(by simpa using hu);unfold Builtin.zeroCells at h2;obtain ⟨q,-,hq⟩:=Array.mem_map.1 h2;have hlt:q%z.cells.size<z.cells.size:=Nat.mod_lt _ (by omega);rw[getElem!_pos z.cells _ hlt]at hq;exact hzn u (by rw[<-hq];simp)
 have grown:∀(old:Nat),old<n+m->∀(row:Option Nat),
     Az e i.size (w.drew.alloc (.cells (xs.toArray++news.toArray++Builtin.zeroCells z.cells (grownCap w (n+m) old e-(n+m))) e)) base
       (.slice (some ⟨w.heap.size,0,none⟩) (n+m) (grownCap w (n+m) old e)) (n+m) (xs++news) /\
     w.grownBy (w.drew.alloc (.cells (xs.toArray++news.toArray++Builtin.zeroCells z.cells (grownCap w (n+m) old e-(n+m))) e)) row:=by
   intro old ho row;have hge:=grownCap_ge w (n+m) old e;have hcm:grownCap w (n+m) old e<=maxLen:=grownCap_le_maxLen w (n+m) old e h63;refine ⟨⟨hlen,.inr ⟨w.heap.size,_,_,rfl,hbase,heap_alloc_new w.drew _,hge,hcm,?_,?_,?_⟩⟩,⟨rfl,rfl,rfl,by simp,fun k hk _=>Below.heap_alloc w.drew _ k hk⟩⟩
   · simp only[Array.size_append,List.size_toArray,size_zeroCells,hzs,hown.1,hl,<-Nat.add_mul];congr 1
     omega
   · simp only[Array.toList_append,List.append_assoc];rw[<-List.append_assoc,<-hlen];exact List.take_left
   · simp only[Array.toList_append];exact (hxn.append hnn).append (hzz _)
 rcases hown.2 with ⟨rfl,rfl⟩|⟨g,cap,cur,rfl,hbg,hg,hnc,hcm,hcs,htake,hcn⟩
 · have hx:xs=[]:=List.eq_nil_of_length_eq_zero (by simpa using hown.1);subst hx;by_cases hm:m=0
   · subst hm;have hn:news=[]:=List.eq_nil_of_length_eq_zero (by simpa using hl);subst hn;refine ⟨.slice none 0 0,w,?_,Az.nil e i.size w base,⟨rfl,rfl,rfl,Nat.le_refl _,fun _ _ _=>rfl⟩⟩;simp[Builtin.append_,run_underlying ht,sizeOf,typeInfo,hi,Builtin.lenOf,Builtin.firstCells,loadCells,loadCellsFrom]
   · have hr:=run_append_nil (P:=P) w t ty e i z ht hi hz a m c news hl hnews (by omega) (by omega) (by have hb:=hbytes;simp only[Nat.zero_add]at hb;omega);have hgr:=grown 0 (by omega) (Value.ownBlock (.slice none 0 0));simp only[Nat.zero_add,List.nil_append,Array.empty_append]at hgr ⊢;exact ⟨_,_,hr,hgr.1,hgr.2⟩
 · by_cases hroom:n+m<=cap
   · have hfit:n*i.size+news.length<=cur.size:=(by rw[hl,hcs,<-Nat.add_mul];exact Nat.mul_le_mul_right _ hroom);have hr:=run_append_room (P:=P) w t ty e i ht hi g n cap cur hg a m c news hl hnews h1 hroom hfit;refine ⟨_,_,hr,⟨hlen,.inr ⟨g,cap,_,rfl,hbg,setRow_heap w g cur _ e _ hg,hroom,hcm,?_,?_,?_⟩⟩,⟨rfl,rfl,rfl,by simp,fun k _ hk=>setRow_other w g k _ (fun e=>hk (by simp[Value.ownBlock,e]))⟩⟩
     · simp only[List.size_toArray,List.length_append,List.length_take,List.length_drop,Array.length_toList];omega
     · rw[htake,<-hlen];exact List.take_left
     · exact ((hcn.take _).append hnn).append (hcn.drop _)
   · have holds:∀j u,xs[j]?=some u->w.cell? ((⟨g,0,none⟩:Addr).add j)=some u:=by
       intro j u hu;have hadd:(⟨g,0,none⟩:Addr).add j=⟨g,j,none⟩:=(by unfold Addr.add;split<;>simp_all);rw[hadd,cell_of_row w g j cur e (0,0) hg];rw[<-htake,List.getElem?_take]at hu;split at hu
       · simpa using hu
       · cases hu
     have hr:=run_append_grow (P:=P) w t ty e i z ht hi hz ⟨g,0,none⟩ n cap xs hown.1 holds a m c news hl hnews (by omega) (by omega) (growslice_fits (by omega) hbytes);have hgr:=grown cap (by omega) (Value.ownBlock (.slice (some ⟨g,0,none⟩) n cap));exact ⟨_,_,hr,hgr.1,hgr.2⟩
end
theorem AW {P:Program} {w w':World} {o:Oper} {a:Act} {s x:Operand} {t:TypeId} {vs vx v':Value} (ho:o.op=.call { callee:=.builtin .append,args:=#[s,x],argTypes:=#[t,t] })
  (hs:a.eval s=vs) (hx:a.eval x=vx) (hr:(Builtin.append_ #[t,t] o.type #[vs,vx]).run P w=.ok v' w'):(execOp a.eval o).run P w=.ok (.value v') w':=by
 unfold execOp;simp only[ho,resolve,invoke,builtin,Sem.run_bind,Sem.run_pure,Result.andThen_ok,List.map_toArray,List.map_cons,List.map_nil,hs,hx,hr]
theorem Cz {P:Program} {w:World} {ops:Array Oper} {rest:List Oper} {o:Oper} {a:Act} {Q:Exit->Act->World->Prop} (hgd:o.guard=none) (s x:Operand) (t:TypeId)
  (ho:o.op=.call { callee:=.builtin .append,args:=#[s,x],argTypes:=#[t,t] }) (base:Nat) (e:TypeId) (i:TypeInfo) (z:Value) (size bytes:Nat) (ht:P.underlying t=some (.slice e)) (hi:P.info? e=some i) (hz:i.zero=some z)
  (hsize:i.size=size) (hby:i.bytes=bytes) (hzs:z.cells.size=size) (hsz:0<size) (hzn:EU z.cells.toList)
  (v:Value) (n:Nat) (xs:List Value) (hs:a.eval s=v) (hown:Az e size w base v n xs)
  (ad:Addr) (m c:Nat) (news:List Value) (hx:a.eval x=.slice (some ad) m c) (hl:news.length=m*size) (hnews:∀j u,news[j]?=some u->w.cell? (ad.add j)=some u) (h1:∀u∈news,u.oneCell'=true) (hnn:EU news)
  (h63:n+m<=maxLen) (hbytes:(n+m)*bytes<=140737488355328) (hbase:base<=w.heap.size)
  (h:∀v' w',Az e size w' base v' (n+m) (xs++news)->w.grownBy w' v.ownBlock->wpList P ops Q rest (a.put o.dst v') w'):wpList P ops Q (o::rest) a w:=by
 obtain ⟨v',w',hr,h2,h3⟩:=Dv (P:=P) w base t o.type e i z size bytes ht hi hz hsize hby hzs hsz hzn v n xs hown ad m c news hl hnews h1 hnn h63 hbytes hbase;refine wpList_plain hgd fun K hK=>?_
 unfold Oper.wp;rw[AW ho hs hx hr];exact hK _ _ (h v' w' h2 h3)
end
end Go.Proofs.YtemfjdedjcjegaaGreatDoor
