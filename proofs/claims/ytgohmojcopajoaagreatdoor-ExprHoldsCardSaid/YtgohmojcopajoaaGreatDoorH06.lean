/- Texts of one seat, put together: LexReg LexReg2 BoxD LexSame. -/
import Derived.Test.YtgohmojcopajoaaGreatDoorH03
import Derived.Deep.RegionHeld3
import Derived.Test.YtgohmojcopajoaaGreatDoorH05
import Derived.Deep.DeepCutAuto
set_option linter.unusedVariables false
set_option linter.unusedSimpArgs false
set_option maxRecDepth 100000
set_option maxHeartbeats 16000000
namespace Go.Proofs.YtgohmojcopajoaaGreatDoor
open Go.RowKit
section
variable {P:Program} {ops:Array Oper} {Q:Exit->Act->World->Prop} {md:Region.Mode} {S:World->Prop} {late:List Nat}
def Wn (P:Program) (md:Region.Mode) (ops:Array Oper) (Q:Exit->Act->World->Prop) (S:World->Prop) (late:List Nat):Nat->Array Bool->Act->World->Prop
 |0,listed,a,w=>Region.ready md ops listed=[]/\Q .normal a w
 |fuel+1,listed,a,w=>(Region.ready md ops listed=[]->Q .normal a w) /\
  ∀i∈Region.ready md ops listed,wpOp P ops Q i (fun a' w'=>(i ∉ late->S w')/\Wn P md ops Q S late fuel (listed.setIfInBounds i true) a' w') a w
def AQ (md:Region.Mode) (ops:Array Oper) (listed:Array Bool):Prop:=
 ∀k o,ops[k]?=some o->listed.getD k false=true->∀e∈o.after,Region.binds md e=true->listed.getD e.on false=true
def UN (md:Region.Mode) (ops:Array Oper) (late:List Nat) (i:Nat):Bool:=
 late.all fun j=>match ops[j]? with
  |none=>true
  |some oj=>oj.after.any fun e=>Region.binds md e&&(e.on==i || match ops[e.on]? with
   |none=>false
   |some ok=>ok.after.any fun e2=>Region.binds md e2&&e2.on==i)
theorem Dz {listed:Array Bool} {k:Nat} (h1:listed.getD k false=true) (h0:listed.getD k true=false):False:=by
 rcases Nat.lt_or_ge k listed.size with h|h
 · simp[h]at h0 h1;rw[h0]at h1;cases h1
 · simp[Array.getElem?_eq_none h]at h1
theorem AQ.next {listed:Array Bool} {j:Nat} (hc:AQ md ops listed) (hr:j∈Region.ready md ops listed):AQ md ops (listed.setIfInBounds j true):=by
 intro k o ho hk e he hb;obtain ⟨-,oj,hoj,hall⟩:=mem_ready.1 hr;by_cases hjk:j=k
 · subst hjk;rw[hoj]at ho;injection ho with ho
   subst ho;exact getD_set_true (hall e he hb)
 · rw[getD_set_ne false hjk]at hk;exact getD_set_true (hc k o ho hk e he hb)
theorem AQ.zero (n:Nat):AQ md ops (Array.replicate n false):=by
 intro k o _ hk;rcases Nat.lt_or_ge k n with h|h
 · simp[h]at hk
 · simp[Nat.not_lt.2 h]at hk
end
end Go.Proofs.YtgohmojcopajoaaGreatDoor
namespace Go.Proofs.YtgohmojcopajoaaGreatDoor
open Go.RowKit
section
variable {P:Program} {ops:Array Oper} {Q:Exit->Act->World->Prop}
def FS (ops:Array Oper):Bool:=(List.range ops.size).all fun i=>match ops[i]? with
 |none=>true
 |some o=>o.after.all fun e=>!Region.binds .any e || decide (e.on<i)
theorem Em (h:FS ops=true) {i:Nat} {o:Oper} (ho:ops[i]?=some o):∀e∈o.after,Region.binds .any e=true->e.on<i:=by intro e he hbd;have hlt:i<ops.size:=(Array.getElem?_eq_some_iff.1 ho).1;have h1:=List.all_eq_true.1 h i (List.mem_range.2 hlt);simp only[ho]at h1;have h2:=Array.all_eq_true_iff_forall_mem.1 h1 e he;rw[hbd]at h2;simpa using h2
def En (n:Nat) (listed:Array Bool):Prop:=∀j,j<n->listed.getD j false=true
theorem ready_nil {listed:Array Bool} (hb:FS ops=true) (hs:listed.size=ops.size) (h:Region.ready .any ops listed=[]):En ops.size listed:=by
 intro j;induction j using Nat.strongRecOn with
 |_ j ih=>
  intro hj;by_cases hl:listed.getD j false=true
  · exact hl
  · have hm:j∈Region.ready .any ops listed:=mem_ready.2 ⟨by
     have h1:j<listed.size:=(by omega);simp[h1]at hl ⊢;exact hl,ops[j],Array.getElem?_eq_getElem hj,fun e he hbd=>ih e.on (Em hb (Array.getElem?_eq_getElem hj) e he hbd) (by have:=Em hb (Array.getElem?_eq_getElem hj) e he hbd;omega)⟩
    rw[h]at hm;cases hm
theorem Ip {md:Region.Mode} {listed:Array Bool} (h:En ops.size listed):Region.ready md ops listed=[]:=by
 rcases hr:Region.ready md ops listed with _|⟨i,is⟩
 · rfl
 · have hm:i∈Region.ready md ops listed:=(by rw[hr];exact List.mem_cons_self ..);obtain ⟨h1,o,ho,_⟩:=mem_ready.1 hm;have h2:=h i (Array.getElem?_eq_some_iff.1 ho).1;exact (Dz h2 h1).elim
def FT (listed:Array Bool):Nat:=listed.toList.countP (fun b=>!b)
theorem Jr {listed:Array Bool} {i:Nat} (h:listed.getD i true=false):FT (listed.setIfInBounds i true)+1=FT listed:=by
 have hi:i<listed.size:=by
  rcases Nat.lt_or_ge i listed.size with h1|h1
  · exact h1
  · simp[Array.getElem?_eq_none h1]at h
 have h1:listed.toList[i]?=some false:=by simp[hi]at h;simp[hi,h]
 unfold FT;rw[Array.toList_setIfInBounds];generalize listed.toList=l at *;clear h hi;induction l generalizing i with
 |nil=>simp at h1
 |cons b l ih=>
  cases i with
  |zero=>simp at h1;subst h1;simp
  |succ i=> simp at h1;have:=ih h1;simp only[List.set_cons_succ,List.countP_cons];omega
theorem Iq {listed:Array Bool} (h:FT listed=0):En listed.size listed:=by intro j hj;unfold FT at h;rw[List.countP_eq_zero]at h;have:=h listed[j] (by simp);simp at this;simp[hj,this]
theorem GH (n:Nat):FT (Array.replicate n false)=n:=by unfold FT;simp[List.countP_replicate]
theorem CP {id:Nat} {a:Act} {w:World} (hm:P.follows .mixedOrders=true) (hb:FS ops=true) (I:Array Bool->Act->World->Prop)
  (h0:I (Array.replicate ops.size false) a w.drew)
  (hstep:∀(i:Nat) (o:Oper) (listed:Array Bool) (a:Act) (w:World),ops[i]?=some o->listed.size=ops.size->listed.getD i true=false->AQ .any ops listed->(∀e∈o.after,Region.binds .any e=true->listed.getD e.on false=true)->I listed a w ->
   wpOp P ops Q i (I (listed.setIfInBounds i true)) a w)
  (hend:∀(listed:Array Bool) (a:Act) (w:World),listed.size=ops.size->En ops.size listed->I listed a w->Q .normal a w):(Code.region id ops true).wp P Q a w:=by
 have main:∀(fuel:Nat) (listed:Array Bool) (a:Act) (w:World),listed.size=ops.size->FT listed<=fuel->AQ .any ops listed->I listed a w->wpAny P .any ops Q fuel listed a w:=by
  intro fuel;induction fuel with
  |zero=>
   intro listed a w hs hf hc hI;have hall:En ops.size listed:=(by rw[<-hs];exact Iq (by omega));exact ⟨Ip hall,hend listed a w hs hall hI⟩
  |succ fuel ih=> intro listed a w hs hf hc hI;refine ⟨fun h=>hend listed a w hs (ready_nil hb hs h) hI,fun i hi=>?_⟩;obtain ⟨h1,o,ho,h2⟩:=mem_ready.1 hi;refine wpOp_mono (fun a' w' hI'=>?_) (hstep i o listed a w ho hs h1 hc h2 hI);exact ih _ a' w' (by simp[hs]) (by have:=Jr h1;omega) (hc.next hi) hI'
 refine wp_region_any hm (main ops.size _ a _ (by simp) (by rw[GH];exact Nat.le_refl _) (AQ.zero _) h0)
def An (ops:Array Oper) (j:Nat):Option Tmp:=(ops[j]?).bind (·.dst)
def upd (σ:Nat->Value) (i:Nat) (v:Value):Nat->Value:=fun j=>if j=i then v else σ j
theorem C8 (σ:Nat->Value) (i:Nat) (v:Value):upd σ i v i=v:=by unfold upd;rw[if_pos rfl]
theorem upd_ne (σ:Nat->Value) {i j:Nat} (v:Value) (h:j≠i):upd σ i v j=σ j:=by unfold upd;rw[if_neg h]
def fill (ops:Array Oper) (σ:Nat->Value) (listed:Array Bool):List Nat->Act->Act
 |[],a=>a
 |j::js,a=>fill ops σ listed js (if listed.getD j false then a.put (An ops j) (σ j) else a)
def CV:Option Tmp->Option Tmp->Bool
 |some d,some e=>d != e
 |_,_=>true
theorem Ir (a:Act) (d e:Option Tmp) (u v:Value) (h:CV d e=true):(a.put d u).put e v=(a.put e v).put d u:=by
 cases d with
 |none=>rfl
 |some d=>cases e with
  |none=>rfl
  |some e=>
   have:d≠e:=by simpa[CV] using h
   simp only[Act.put,Act.mk.injEq,and_true];exact Array.setIfInBounds_comm _ _ this
def ownB (ops:Array Oper) (size:Nat):Bool:=(List.range ops.size).all fun i=>(match An ops i with|none=>true|some d=>decide (d<size))&&(List.range ops.size).all fun j=>i==j || CV (An ops i) (An ops j)
theorem Eo {size i j:Nat} (h:ownB ops size=true) (hi:i<ops.size) (hj:j<ops.size) (hne:i≠j):CV (An ops i) (An ops j)=true:=by have h1:=List.all_eq_true.1 h i (List.mem_range.2 hi);simp only[Bool.and_eq_true]at h1;have h2:=List.all_eq_true.1 h1.2 j (List.mem_range.2 hj);simpa[hne] using h2
theorem LP {size i d:Nat} (h:ownB ops size=true) (hi:i<ops.size) (hd:An ops i=some d):d<size:=by have h1:=List.all_eq_true.1 h i (List.mem_range.2 hi);simp only[Bool.and_eq_true,hd]at h1;exact of_decide_eq_true h1.1
theorem Ep {σ:Nat->Value} {listed:Array Bool} {d:Option Tmp} {v:Value}:∀(js:List Nat) (a:Act),(∀j∈js,CV d (An ops j)=true)->fill ops σ listed js (a.put d v)=(fill ops σ listed js a).put d v
 |[],_,_=>rfl
 |j::js,a,h=>by
  have hj:=h j (List.mem_cons_self ..);have hjs:∀x∈js,CV d (An ops x)=true:=fun x hx=>h x (List.mem_cons_of_mem _ hx)
  unfold fill;split
  · rw[Ir _ _ _ _ _ hj];exact Ep js _ hjs
  · exact Ep js _ hjs
theorem ET {σ:Nat->Value} {listed:Array Bool} {i:Nat} {v:Value}:∀(js:List Nat) (a:Act),i ∉ js->fill ops (upd σ i v) (listed.setIfInBounds i true) js a=fill ops σ listed js a
 |[],_,_=>rfl
 |j::js,a,h=>by
  have hji:j≠i:=fun e=>h (e▸List.mem_cons_self ..)
  unfold fill;rw[getD_set_ne false (Ne.symm hji),upd_ne σ v hji];exact ET js _ (fun hh=>h (List.mem_cons_of_mem _ hh))
theorem Dk {size:Nat} {σ:Nat->Value} {listed:Array Bool} {i:Nat} {v:Value} (ho:ownB ops size=true) (hi:i<ops.size) (hl:listed.getD i true=false) :
  ∀(js:List Nat) (a:Act),js.Nodup->(∀j∈js,j<ops.size)->i∈js->fill ops (upd σ i v) (listed.setIfInBounds i true) js a=(fill ops σ listed js a).put (An ops i) v
 |[],_,_,_,h=>by cases h
 |j::js,a,hn,hlt,h=>by
  obtain ⟨hn1,hn2⟩:=List.nodup_cons.1 hn;by_cases hji:j=i
  · subst hji;have hls:j<listed.size:=by
     rcases Nat.lt_or_ge j listed.size with h1|h1
     · exact h1
     · simp[Array.getElem?_eq_none h1]at hl
    have h1:(listed.setIfInBounds j true).getD j false=true:=(by simp[hls]);have h2:listed.getD j false=false:=(by simp[hls]at hl ⊢;exact hl);unfold fill;rw[h1,h2,C8];simp only[if_true,Bool.false_eq_true,if_false];rw[ET js _ hn1];exact Ep js a (fun x hx=>Eo ho hi (hlt x (List.mem_cons_of_mem _ hx)) (fun e=>hn1 (e▸hx)))
  · have hjs:i∈js:=(List.mem_cons.1 h).resolve_left (fun e=>hji e.symm);unfold fill;rw[getD_set_ne false (Ne.symm hji),upd_ne σ v hji];exact Dk ho hi hl js _ hn2 (fun x hx=>hlt x (List.mem_cons_of_mem _ hx)) hjs
theorem Js (a:Act) (d:Option Tmp) (v:Value):(a.put d v).tmps.size=a.tmps.size:=by cases d<;>simp[Act.put]
theorem eval_put_ne (a:Act) (d:Option Tmp) (t:Tmp) (v:Value) (h:d≠some t):(a.put d v).eval (.tmp t)=a.eval (.tmp t):=by
 cases d with
 |none=>rfl
 |some d=>
  have:d≠t:=fun e=>h (by rw[e])
  simp[Act.put,Act.eval,Array.getElem?_setIfInBounds_ne this]
theorem FU (a:Act) (t:Tmp) (v:Value) (h:t<a.tmps.size):(a.put (some t) v).eval (.tmp t)=v:=by simp[Act.put,Act.eval,h]
theorem FV {σ:Nat->Value} {listed:Array Bool} {t:Tmp}:∀(js:List Nat) (a:Act),(∀j∈js,An ops j≠some t)->(fill ops σ listed js a).eval (.tmp t)=a.eval (.tmp t)
 |[],_,_=>rfl
 |j::js,a,h=>by
  unfold fill;rw[FV js _ (fun x hx=>h x (List.mem_cons_of_mem _ hx))];split
  · exact eval_put_ne _ _ _ _ (h j (List.mem_cons_self ..))
  · rfl
theorem Hl {size:Nat} {σ:Nat->Value} {listed:Array Bool} {t:Tmp} {i:Nat} (ho:ownB ops size=true) (hi:i<ops.size) (hd:An ops i=some t) (hl:listed.getD i false=true) :
    ∀(js:List Nat) (a:Act),a.tmps.size=size->js.Nodup->(∀j∈js,j<ops.size)->i∈js->(fill ops σ listed js a).eval (.tmp t)=σ i
  |[],_,_,_,_,h=>by cases h
  |j::js,a,hs,hn,hlt,h=>by
    obtain ⟨hn1,hn2⟩:=List.nodup_cons.1 hn;by_cases hji:j=i
    · subst hji;unfold fill;rw[hl];simp only[if_true];rw[FV js _ (fun x hx e=>by
        have h1:=Eo ho hi (hlt x (List.mem_cons_of_mem _ hx)) (fun e=>hn1 (e▸hx));rw[hd,e]at h1;simp[CV]at h1),hd]
      exact FU _ _ _ (by rw[hs];exact LP ho hi hd)
    · have hjs:i∈js:=(List.mem_cons.1 h).resolve_left (fun e=>hji e.symm);unfold fill;exact Hl ho hi hd hl js _ (by
                                         split;· rw[Js];exact hs
                                         · exact hs) hn2 (fun x hx=>hlt x (List.mem_cons_of_mem _ hx)) hjs
def mid (ops:Array Oper) (σ:Nat->Value) (listed:Array Bool) (a:Act):Act:=fill ops σ listed (List.range ops.size) a
theorem GI {a:Act} {σ:Nat->Value} {listed:Array Bool} {t:Tmp} {i:Nat} (ho:ownB ops a.tmps.size=true) (hd:An ops i=some t) (hl:listed.getD i false=true):(mid ops σ listed a).eval (.tmp t)=σ i:=by
 have hi:i<ops.size:=by
  rcases Nat.lt_or_ge i ops.size with h|h
  · exact h
  · simp[An,Array.getElem?_eq_none h]at hd
 exact Hl ho hi hd hl _ a rfl List.nodup_range (fun j hj=>List.mem_range.1 hj) (List.mem_range.2 hi)
def Oo (ops:Array Oper) (t:Tmp):Bool:=(List.range ops.size).all fun j=>An ops j != some t
def Each (R:Nat->Oper->Prop):Nat->List Oper->Prop
 |_,[]=>True
 |i,o::os=>R i o/\Each R (i+1) os
theorem Each.get {R:Nat->Oper->Prop}:∀(os:List Oper) (k:Nat),Each R k os->∀i o,os[i]?=some o->R (k+i) o
 |[],_,_,i,o,h=>by simp at h
 |x::os,k,h,i,o,ho=>by
  cases i with
  |zero=>simp at ho;subst ho;exact h.1
  |succ i=> have:=Each.get os (k+1) h.2 i o (by simpa using ho);rw[show k+(i+1)=k+1+i by omega];exact this
def Does (P:Program) (a:Act) (o:Oper) (w:World) (R:Value->World->Prop):Prop:=
 (∃v w',(execOp a.eval o).run P w=.ok (.value v) w'/\R v w')\/(∃w',(execOp a.eval o).run P w=.ok .skip w'/\R undef w') \/
 ∃(f:FuncId) (args:Array Value) (R':Ending->World->Prop),(execOp a.eval o).run P w=.ok (.enter f args) w/\Calls P f args w R'/\∀e w',R' e w'->∃v,e=.returned v/\R v w'
theorem Does.val {a:Act} {o:Oper} {w w':World} {R:Value->World->Prop} (v:Value) (h:(execOp a.eval o).run P w=.ok (.value v) w') (hR:R v w'):Does P a o w R:=Or.inl ⟨v,w',h,hR⟩
theorem Does.skip {a:Act} {o:Oper} {w w':World} {R:Value->World->Prop} (h:(execOp a.eval o).run P w=.ok .skip w') (hR:R undef w'):Does P a o w R:=Or.inr (Or.inl ⟨w',h,hR⟩)
theorem Does.call {a:Act} {o:Oper} {w:World} {R:Value->World->Prop} {f:FuncId} {args:Array Value} {R':Ending->World->Prop} (h:(execOp a.eval o).run P w=.ok (.enter f args) w) (hc:Calls P f args w R') (hR:∀e w',R' e w'->∃v,e=.returned v/\R v w'):Does P a o w R:=Or.inr (Or.inr ⟨f,args,R',h,hc,hR⟩)
theorem Does.step {i:Nat} {o:Oper} {K:Act->World->Prop} {a:Act} {w:World} {R:Value->World->Prop} (ho:ops[i]?=some o) (hg:Region.wanted o (yielded ops a.tmps)=true) (h:Does P a o w R) (hK:∀v w',R v w'->K (a.put o.dst v) w'):wpOp P ops Q i K a w:=
 wpOp_step ho fun K' hK'=>by
  rw[if_pos hg];unfold Oper.wp;rcases h with ⟨v,w',hr,hR⟩|⟨w',hr,hR⟩|⟨f,args,R',hr,hc,hR⟩
  · rw[hr];exact hK' _ _ (hK _ _ hR)
  · rw[hr];exact hK' _ _ (hK _ _ hR)
  · rw[hr];refine hc.mono fun e w' he=>?_
    obtain ⟨v,rfl,hv⟩:=hR e w' he;exact hK' _ _ (hK _ _ hv)
def Ac (ops:Array Oper) (a:Act) (o:Oper) (w:World) (R:Value->World->Prop) (D:Prop):Prop:=
 match o.guard with
 |none=>D
 |some (g,want)=>∃(d:Tmp) (b:Bool),An ops g=some d/\a.tmps.getD d undef=.bool b/\(b=want->D)/\(b≠want->R undef w)
theorem Ac.step {i:Nat} {o:Oper} {K:Act->World->Prop} {a:Act} {w:World} {R:Value->World->Prop} (ho:ops[i]?=some o) (h:Ac ops a o w R (Does P a o w R)) (hK:∀v w',R v w'->K (a.put o.dst v) w'):wpOp P ops Q i K a w:=by
 unfold Ac at h;cases hg:o.guard with
 |none=>
  rw[hg]at h;exact Does.step ho (by simp[Region.wanted,hg]) h hK
 |some gw=>
  obtain ⟨g,want⟩:=gw;rw[hg]at h;obtain ⟨d,b,hd,hv,h1,h2⟩:=h;have hy:yielded ops a.tmps g=some b:=by
    have h3:a.tmps[d]?=some (.bool b):=by
     rcases hx:a.tmps[d]? with _|x
     · simp[hx]at hv;exact absurd hv (by unfold undef;simp)
     · simp[hx]at hv;rw[hv]
    unfold An at hd;unfold yielded;rw[hd];show (match a.tmps[d]? with|some (.bool b)=>some b|_=>none)=_;rw[h3]
  by_cases hb:b=want
  · exact Does.step ho (by simp[Region.wanted,hg,hy,hb]) (h1 hb) hK
  · refine wpOp_step ho fun K' hK'=>?_
    rw[if_neg (by simp[Region.wanted,hg,hy,hb])];exact hK' _ _ (hK _ _ (h2 hb))
def Wo (P:Program) (ops:Array Oper) (a0:Act) (T:World->World->Prop) (F:Nat->Value->World->Prop) (G:Array Bool->(Nat->Value)->World->Prop) (i:Nat) (o:Oper):Prop:=
 ∀(listed:Array Bool) (σ:Nat->Value) (w:World) (a:Act),(∀j t,An ops j=some t->listed.getD j false=true->a.tmps.getD t undef=σ j)->(∀t,Oo ops t=true->a.tmps.getD t undef=a0.tmps.getD t undef) ->
  listed.getD i true=false->AQ .any ops listed->(∀e∈o.after,Region.binds .any e=true->listed.getD e.on false=true)->G listed σ w->(∀j,listed.getD j false=true->F j (σ j) w) ->
  Ac ops a o w (fun v w'=>T w w'/\F i v w'/\G (listed.setIfInBounds i true) (upd σ i v) w') (Does P a o w (fun v w'=>T w w'/\F i v w'/\G (listed.setIfInBounds i true) (upd σ i v) w'))
theorem BH (n j:Nat):(Array.replicate n false).getD j false=false:=by
 rcases Nat.lt_or_ge j n with h|h
 · simp[h]
 · simp[Nat.not_lt.2 h]
theorem Ca {listed:Array Bool} {σ:Nat->Value} {a:Act} (h:En ops.size listed):mid ops σ listed a=(List.range ops.size).foldl (fun a j=>a.put (An ops j) (σ j)) a:=by
 unfold mid;have:∀(js:List Nat) (a:Act),(∀j∈js,j<ops.size)->fill ops σ listed js a=js.foldl (fun a j=>a.put (An ops j) (σ j)) a:=by
  intro js;induction js with
  |nil=>intro a _;rfl
  |cons j js ih=> intro a hlt;unfold fill;rw[if_pos (h j (hlt j (List.mem_cons_self ..))),List.foldl_cons];exact ih _ (fun x hx=>hlt x (List.mem_cons_of_mem _ hx))
 exact this _ a (fun j hj=>List.mem_range.1 hj)
def G1 (W0:World) (b s:Nat) (Fr Fu:World->Nat->Prop) (listed:Array Bool) (σ:Nat->Value) (w:World):Prop:=
 Below W0.heap.size W0 w/\(listed.getD b false=true->∃g,σ b=.pointer (some ⟨g,0,none⟩)/\W0.heap.size<=g/\(listed.getD s false=false->Fr w g)/\(listed.getD s false=true->Fu w g))
theorem Ac.none {a:Act} {o:Oper} {w:World} {R:Value->World->Prop} {D:Prop} (h:o.guard=none) (hD:D):Ac ops a o w R D:=by unfold Ac;rw[h];exact hD
theorem FW {listed:Array Bool} {i:Nat} (h:listed.getD i true=false):i<listed.size:=by
 rcases Nat.lt_or_ge i listed.size with h1|h1
 · exact h1
 · simp[Array.getElem?_eq_none h1]at h
theorem FX {listed:Array Bool} {i:Nat} (h:listed.getD i true=false):listed.getD i false=false:=by have:=FW h;simp[this]at h ⊢;exact h
end
end Go.Proofs.YtgohmojcopajoaaGreatDoor
namespace Go.Proofs.YtgohmojcopajoaaGreatDoor
section
open Go.RowKit
section
variable {P:Program} {ops:Array Oper} {Q:Exit->Act->World->Prop}
theorem Hm {σ:Nat->Value} {listed:Array Bool} {t:Tmp}:∀(js:List Nat) (a:Act),(∀j∈js,An ops j=some t->listed.getD j false=false)->(fill ops σ listed js a).eval (.tmp t)=a.eval (.tmp t)
 |[],_,_=>rfl
 |j::js,a,h=>by
  unfold fill;rw[Hm js _ (fun x hx=>h x (List.mem_cons_of_mem _ hx))];split
  · rename_i hl
    exact eval_put_ne _ _ _ _ (fun e=>by rw[h j (List.mem_cons_self ..) e]at hl;cases hl)
  · rfl
theorem GJ {a:Act} {σ:Nat->Value} {listed:Array Bool} {t:Tmp} (h:∀j,An ops j=some t->listed.getD j false=false):(mid ops σ listed a).eval (.tmp t)=a.eval (.tmp t):=
 Hm _ a (fun j _=>h j)
theorem Ag {t:Tmp} {listed:Array Bool} (h:Oo ops t=true):∀j,An ops j=some t->listed.getD j false=false:=by
 intro j hj;rcases Nat.lt_or_ge j ops.size with hlt|hge
 · have:=List.all_eq_true.1 h j (List.mem_range.2 hlt);rw[hj]at this;simp at this
 · simp[An,Array.getElem?_eq_none hge]at hj
def SH (ops:Array Oper) (t:Tmp) (j:Nat):Bool:=(List.range ops.size).all fun i=>i==j || An ops i != some t
theorem D6 {t:Tmp} {j:Nat} {listed:Array Bool} (h:SH ops t j=true) (hl:listed.getD j false=false):∀i,An ops i=some t->listed.getD i false=false:=by
 intro i hi;rcases Nat.lt_or_ge i ops.size with hlt|hge
 · have:=List.all_eq_true.1 h i (List.mem_range.2 hlt);rw[hi]at this;simp at this;rw[this];exact hl
 · simp[An,Array.getElem?_eq_none hge]at hi
theorem Cd {md:Region.Mode} {listed:Array Bool} {i k:Nat} (hc:AQ md ops listed) (hi:listed.getD i false=false) (hw:((ops[k]?).map fun o=>o.after.any fun e=>e.on==i&&Region.binds md e)=some true):listed.getD k false=false:=by
 cases hk:listed.getD k false with
 |false=>rfl
 |true=>
  cases ho:ops[k]? with
  |none=>rw[ho]at hw;cases hw
  |some o=> rw[ho]at hw;simp only[Option.map_some,Option.some.injEq]at hw;obtain ⟨x,hx,h1⟩:=Array.any_eq_true.1 hw;simp only[Bool.and_eq_true,beq_iff_eq]at h1;have h2:=hc k o ho hk _ (Array.getElem_mem hx) h1.2;rw[h1.1,hi]at h2;cases h2
def KW (P:Program) (ops:Array Oper) (a0:Act) (T:World->World->Prop) (F:Nat->Value->World->Prop) (G:Array Bool->(Nat->Value)->World->Prop) (i:Nat) (o:Oper):Prop:=
 ∀(listed:Array Bool) (σ:Nat->Value) (w:World) (a:Act),(∀j t,An ops j=some t->listed.getD j false=true->a.tmps.getD t undef=σ j)->(∀t,(∀j,An ops j=some t->listed.getD j false=false)->a.tmps.getD t undef=a0.tmps.getD t undef) ->
  listed.getD i false=false->AQ .any ops listed->(∀e∈o.after,Region.binds .any e=true->listed.getD e.on false=true)->G listed σ w->(∀j,listed.getD j false=true->F j (σ j) w) ->
  Ac ops a o w (fun v w'=>T w w'/\F i v w'/\G (listed.setIfInBounds i true) (upd σ i v) w') (Does P a o w (fun v w'=>T w w'/\F i v w'/\G (listed.setIfInBounds i true) (upd σ i v) w'))
theorem GK {a0:Act} {T:World->World->Prop} {F:Nat->Value->World->Prop} {G:Array Bool->(Nat->Value)->World->Prop} (ho:ownB ops a0.tmps.size=true) (hF:∀j v w w',T w w'->F j v w->F j v w')
   (hstep:Each (KW P ops a0 T F G) 0 ops.toList) {K:Act->World->Prop} {i:Nat} {o:Oper} {listed:Array Bool} {σ:Nat->Value} {w:World} (hio:ops[i]?=some o) (hl:listed.getD i true=false) (hc:AQ .any ops listed)
   (hp:∀e∈o.after,Region.binds .any e=true->listed.getD e.on false=true) (hG:G listed σ w) (hF1:∀j,listed.getD j false=true->F j (σ j) w)
   (hK:∀σ' w',G (listed.setIfInBounds i true) σ' w'->(∀j,(listed.setIfInBounds i true).getD j false=true->F j (σ' j) w')->K (mid ops σ' (listed.setIfInBounds i true) a0) w'):wpOp P ops Q i K (mid ops σ listed a0) w:=by
 have hlt:i<ops.size:=(Array.getElem?_eq_some_iff.1 hio).1;have h1:=Each.get ops.toList 0 hstep i o (by simpa using hio);rw[Nat.zero_add]at h1;refine Ac.step hio (h1 listed σ w (mid ops σ listed a0) (fun j t hd hj=>GI ho hd hj) (fun t ht=>GJ ht) (FX hl) hc hp hG hF1) ?_;rintro v w' ⟨hT,hFi,hG'⟩;have hd:o.dst=An ops i:=by simp[An,hio]
 rw[hd,show (mid ops σ listed a0).put (An ops i) v=mid ops (upd σ i v) (listed.setIfInBounds i true) a0 from (Dk ho hlt hl _ _ List.nodup_range (fun j hj=>List.mem_range.1 hj) (List.mem_range.2 hlt)).symm];refine hK _ _ hG' (fun j hj=>?_);by_cases hji:j=i
 · subst hji;rw[C8];exact hFi
 · rw[upd_ne σ v hji];rw[getD_set_ne false (Ne.symm hji)]at hj;exact hF j _ _ _ hT (hF1 j hj)
theorem FY {σ:Nat->Value} {n:Nat} (a:Act):mid ops σ (Array.replicate n false) a=a:=by
 unfold mid;have:∀(js:List Nat) (a:Act),fill ops σ (Array.replicate n false) js a=a:=by
  intro js;induction js with
  |nil=>intro a;rfl
  |cons j js ih=> intro a;unfold fill;rw[if_neg (by rw[BH];exact Bool.false_ne_true),ih]
 exact this _ _
theorem BJ {id:Nat} {a0:Act} {w:World} (hm:P.follows .mixedOrders=true) (hb:FS ops=true) (ho:ownB ops a0.tmps.size=true) (T:World->World->Prop) (F:Nat->Value->World->Prop) (G:Array Bool->(Nat->Value)->World->Prop)
   (hF:∀j v w w',T w w'->F j v w->F j v w') (h0:∀σ,G (Array.replicate ops.size false) σ w.drew)
   (hstep:Each (KW P ops a0 T F G) 0 ops.toList)
   (hend:∀(listed:Array Bool) (σ:Nat->Value) (w:World),En ops.size listed->G listed σ w->(∀j,j<ops.size->F j (σ j) w)->Q .normal (mid ops σ listed a0) w):(Code.region id ops true).wp P Q a0 w:=by
 refine CP hm hb (fun listed a w=>∃σ,a=mid ops σ listed a0/\G listed σ w/\∀j,listed.getD j false=true->F j (σ j) w) ?_ ?_ ?_
 · exact ⟨fun _=>undef,(FY a0).symm,h0 _,fun j hj=>by rw[BH]at hj;cases hj⟩
 · rintro i o listed a w hio hs hl hc hp ⟨σ,rfl,hG,hF1⟩;exact GK ho hF hstep hio hl hc hp hG hF1 (fun σ' w' hG' hF'=>⟨σ',rfl,hG',hF'⟩)
 · rintro listed a w hs hall ⟨σ,rfl,hG,hF1⟩;exact hend listed σ w hall hG (fun j hj=>hF1 j (hall j hj))
def Wp (n k:Nat):Array Bool:=Array.ofFn (n:=n) fun i=>decide (i.val<k)
def FZ (ops:Array Oper):Bool:=match ops[ops.size-1]? with
 |none=>false
 |some o=>(List.range (ops.size-1)).all fun j=>o.after.any fun e=>Region.binds .any e&&(e.on==j || match ops[e.on]? with
  |none=>false
  |some o2=>o2.after.any fun e2=>e2.on==j&&Region.binds .any e2)
theorem Er (h:FZ ops=true) {listed:Array Bool} {o:Oper} (ho:ops[ops.size-1]?=some o) (hc:AQ .any ops listed) (hp:∀e∈o.after,Region.binds .any e=true->listed.getD e.on false=true):∀j,j<ops.size-1->listed.getD j false=true:=by
 intro j hj;unfold FZ at h;rw[ho]at h;have h1:=List.all_eq_true.1 h j (List.mem_range.2 hj);obtain ⟨x,hx,h2⟩:=Array.any_eq_true.1 h1;simp only[Bool.and_eq_true,Bool.or_eq_true,beq_iff_eq]at h2;have h3:=hp _ (Array.getElem_mem hx) h2.1;rcases h2.2 with h4|h4
 · rw[h4]at h3;exact h3
 · cases ho2:ops[(o.after[x]).on]? with
   |none=>rw[ho2]at h4;cases h4
   |some o2=> rw[ho2]at h4;obtain ⟨y,hy,h5⟩:=Array.any_eq_true.1 h4;simp only[Bool.and_eq_true,beq_iff_eq]at h5;have h6:=hc _ _ ho2 h3 _ (Array.getElem_mem hy) h5.2;rw[h5.1]at h6;exact h6
def IW (ops:Array Oper) (σ:Nat->Value) (v:Value) (a:Act):Act:=((List.range (ops.size-1)).foldl (fun a j=>a.put (An ops j) (σ j)) a).put (An ops (ops.size-1)) v
theorem CL {listed:Array Bool} {σ:Nat->Value} {v:Value} {a:Act} (_h:∀j,j<ops.size-1->listed.getD j false=true):IW ops σ v a=((List.range (ops.size-1)).foldl (fun a j=>a.put (An ops j) (σ j)) a).put (An ops (ops.size-1)) v:=rfl
theorem EU {σ:Nat->Value} {n:Nat} {v:Value}:∀(js:List Nat) (a:Act),(∀j∈js,j≠n)->js.foldl (fun a j=>a.put (An ops j) (upd σ n v j)) a=js.foldl (fun a j=>a.put (An ops j) (σ j)) a
 |[],_,_=>rfl
 |j::js,a,h=>by
  rw[List.foldl_cons,List.foldl_cons,upd_ne σ v (h j (List.mem_cons_self ..))];exact EU js _ (fun x hx=>h x (List.mem_cons_of_mem _ hx))
theorem Oq {σ:Nat->Value} {v:Value} {a:Act} (h:0<ops.size):(List.range ops.size).foldl (fun a j=>a.put (An ops j) (upd σ (ops.size-1) v j)) a=IW ops σ v a:=by obtain ⟨m,hm⟩:∃m,ops.size=m+1:=⟨ops.size-1,by omega⟩;unfold IW;have hf:=EU (ops:=ops) (σ:=σ) (n:=m) (v:=v) (List.range m) a (fun j hj=>by have:=List.mem_range.1 hj;omega);rw[hm,List.range_succ,List.foldl_append,Nat.add_sub_cancel,hf];show Act.put _ _ (upd σ m v m)=_;rw[C8]
def MG (P:Program) (ops:Array Oper) (a0:Act) (F:Nat->Value->World->Prop) (G:Array Bool->(Nat->Value)->World->Prop) (R:Act->World->Prop) (o:Oper):Prop:=
 ∀(listed:Array Bool) (σ:Nat->Value) (w:World) (a:Act),(∀j,j<ops.size-1->listed.getD j false=true)->(∀j t,An ops j=some t->j<ops.size-1->a.tmps.getD t undef=σ j)->(∀t,(∀j,An ops j=some t->j=ops.size-1)->a.tmps.getD t undef=a0.tmps.getD t undef) ->
  G listed σ w->(∀j,j<ops.size-1->F j (σ j) w)->Ac ops a o w (fun v w'=>R (IW ops σ v a0) w') (Does P a o w (fun v w'=>R (IW ops σ v a0) w'))
def Es (R:Nat->Oper->Prop):Nat->List Oper->Prop
 |_,[]=>True
 |_,[_]=>True
 |i,o::p::os=>R i o/\Es R (i+1) (p::os)
theorem Es.get {R:Nat->Oper->Prop}:∀(os:List Oper) (k:Nat),Es R k os->∀i o,i<os.length-1->os[i]?=some o->R (k+i) o
 |[],_,_,i,o,hi,h=>by simp at h
 |[x],_,_,i,o,hi,h=>by simp at hi
 |x::y::os,k,h,i,o,hi,ho=>by
  cases i with
  |zero=>simp at ho;subst ho;exact h.1
  |succ i=> have:=Es.get (y::os) (k+1) h.2 i o (by simp at hi ⊢;omega) (by simpa using ho);rw[show k+(i+1)=k+1+i by omega];exact this
def MH (P:Program) (ops:Array Oper) (a0:Act) (T:World->World->Prop) (F:Nat->Value->World->Prop) (G:Array Bool->(Nat->Value)->World->Prop) (i:Nat) (o:Oper):Prop:=
 ∀(listed:Array Bool) (σ:Nat->Value) (w:World) (a:Act),(∀j t,An ops j=some t->listed.getD j false=true->a.tmps.getD t undef=σ j)->(∀t,(∀j,An ops j=some t->listed.getD j false=false)->a.tmps.getD t undef=a0.tmps.getD t undef) ->
  listed.getD i false=false->listed.getD (ops.size-1) false=false->listed.size=ops.size->AQ .any ops listed->(∀e∈o.after,Region.binds .any e=true->listed.getD e.on false=true)->G listed σ w->(∀j,listed.getD j false=true->F j (σ j) w) ->
  Ac ops a o w (fun v w'=>T w w'/\F i v w'/\G (listed.setIfInBounds i true) (upd σ i v) w') (Does P a o w (fun v w'=>T w w'/\F i v w'/\G (listed.setIfInBounds i true) (upd σ i v) w'))
theorem GL {a0:Act} {T:World->World->Prop} {F:Nat->Value->World->Prop} {G:Array Bool->(Nat->Value)->World->Prop} {R:Act->World->Prop} (ho:ownB ops a0.tmps.size=true) (hla:FZ ops=true) (hF:∀j v w w',T w w'->F j v w->F j v w')
   (hstep:Es (MH P ops a0 T F G) 0 ops.toList) (hlast:∀o,ops[ops.size-1]?=some o->MG P ops a0 F G R o) {K:Act->World->Prop} {i:Nat} {o:Oper} {listed:Array Bool} {σ:Nat->Value} {w:World} (hio:ops[i]?=some o) (hs:listed.size=ops.size) (hl:listed.getD i true=false) (hc:AQ .any ops listed)
   (hp:∀e∈o.after,Region.binds .any e=true->listed.getD e.on false=true) (hun:listed.getD (ops.size-1) false=false) (hG:G listed σ w) (hF1:∀j,listed.getD j false=true->F j (σ j) w)
   (hK:∀σ' w',i≠ops.size-1->G (listed.setIfInBounds i true) σ' w'->(∀j,(listed.setIfInBounds i true).getD j false=true->F j (σ' j) w')->K (mid ops σ' (listed.setIfInBounds i true) a0) w')
   (hR:∀a w',i=ops.size-1->R a w'->K a w'):wpOp P ops Q i K (mid ops σ listed a0) w:=by
 have hlt:i<ops.size:=(Array.getElem?_eq_some_iff.1 hio).1;have hd:o.dst=An ops i:=by simp[An,hio]
 by_cases hi:i=ops.size-1
 · subst hi;have hall:=Er hla hio hc hp;refine Ac.step hio (hlast o hio listed σ w (mid ops σ listed a0) hall (fun j t hd hj=>GI ho hd (hall j hj)) (fun t ht=>GJ (fun j hj=>by rw[ht j hj];exact hun)) hG (fun j hj=>hF1 j (hall j hj))) ?_;intro v w' h
   rw[hd,show (mid ops σ listed a0).put (An ops (ops.size-1)) v=mid ops (upd σ (ops.size-1) v) (listed.setIfInBounds (ops.size-1) true) a0 from (Dk ho hlt hl _ _ List.nodup_range (fun j hj=>List.mem_range.1 hj) (List.mem_range.2 hlt)).symm];refine hR _ _ rfl ?_;rw[Ca (fun j hj=>by
     by_cases he:j=ops.size-1
     · subst he;simp[hs,hlt]
     · rw[getD_set_ne false (Ne.symm he)];exact hall j (by omega)),Oq (by omega)]
   exact h
 · have h1:=Es.get ops.toList 0 hstep i o (by simp;omega) (by simpa using hio);rw[Nat.zero_add]at h1;refine Ac.step hio (h1 listed σ w (mid ops σ listed a0) (fun j t hd hj=>GI ho hd hj) (fun t ht=>GJ ht) (FX hl) hun hs hc hp hG hF1) ?_;rintro v w' ⟨hT,hFi,hG'⟩;rw[hd,show (mid ops σ listed a0).put (An ops i) v=mid ops (upd σ i v) (listed.setIfInBounds i true) a0 from (Dk ho hlt hl _ _ List.nodup_range (fun j hj=>List.mem_range.1 hj) (List.mem_range.2 hlt)).symm]
   refine hK _ _ hi hG' (fun j hj=>?_);by_cases hji:j=i
   · subst hji;rw[C8];exact hFi
   · rw[upd_ne σ v hji];rw[getD_set_ne false (Ne.symm hji)]at hj;exact hF j _ _ _ hT (hF1 j hj)
theorem BI {id:Nat} {a0:Act} {w:World} (hm:P.follows .mixedOrders=true) (hb:FS ops=true) (ho:ownB ops a0.tmps.size=true) (hla:FZ ops=true) (T:World->World->Prop) (F:Nat->Value->World->Prop) (G:Array Bool->(Nat->Value)->World->Prop)
   (hF:∀j v w w',T w w'->F j v w->F j v w') (h0:∀σ,G (Array.replicate ops.size false) σ w.drew) (hstep:Es (MH P ops a0 T F G) 0 ops.toList) (hlast:∀o,ops[ops.size-1]?=some o->MG P ops a0 F G (Q .normal) o):(Code.region id ops true).wp P Q a0 w:=by
 have hpos:0<ops.size:=by
   rcases Nat.eq_zero_or_pos ops.size with h|h
   · unfold FZ at hla;rw[Array.getElem?_eq_none (by omega)]at hla;cases hla
   · exact h
 refine CP hm hb (fun listed a w=>(listed.getD (ops.size-1) false=false/\∃σ,a=mid ops σ listed a0/\G listed σ w/\∀j,listed.getD j false=true->F j (σ j) w)\/(listed.getD (ops.size-1) false=true/\Q .normal a w)) ?_ ?_ ?_
 · exact .inl ⟨BH _ _,fun _=>undef,(FY a0).symm,h0 _,fun j hj=>by rw[BH]at hj;cases hj⟩
 · rintro i o listed a w hio hs hl hc hp (⟨hun,σ,rfl,hG,hF1⟩|⟨hon,hQ⟩)
   · refine GL ho hla hF hstep hlast hio hs hl hc hp hun hG hF1 (fun σ' w' hne hG' hF'=>.inl ⟨?_,σ',rfl,hG',hF'⟩) (fun a w' he h=>.inr ⟨?_,h⟩)
     · rw[getD_set_ne false hne];exact hun
     · subst he;have hq:ops.size-1<ops.size:=(by omega);simp[hs,hq]
   · exfalso;have hlt:i<ops.size:=(Array.getElem?_eq_some_iff.1 hio).1;have hlo:ops[ops.size-1]?=some ops[ops.size-1]:=Array.getElem?_eq_getElem (by omega);by_cases hi:i=ops.size-1
     · subst hi;exact (Dz hon hl).elim
     · have:=Er hla hlo hc (hc _ _ hlo hon) i (by omega);exact (Dz this hl).elim
 · rintro listed a w hs hall (⟨hun,-⟩|⟨-,hQ⟩)
   · rw[hall _ (by omega)]at hun;cases hun
   · exact hQ
end
section
variable {ops:Array Oper}
theorem MI {t:Tmp} (h:Oo ops t=true):∀j,An ops j=some t->j=ops.size-1:=by
 intro j hj;have h1:=Ag (listed:=Array.replicate ops.size true) h j hj;have hlt:j<ops.size:=by
  rcases Nat.lt_or_ge j ops.size with h2|h2
  · exact h2
  · simp[An,Array.getElem?_eq_none h2]at hj
 simp[hlt]at h1
theorem Ac.some {a:Act} {o:Oper} {w:World} {R:Value->World->Prop} {D:Prop} {g:Nat} {want b:Bool} {d:Tmp} (h:o.guard=Option.some (g,want)) (hd:An ops g=Option.some d) (hv:a.tmps.getD d undef=.bool b) (hD:(b=want/\D)\/(b≠want/\R undef w)):Ac ops a o w R D:=by unfold Ac;rw[h];exact ⟨d,b,hd,hv,fun he=>hD.elim (·.2) (fun k=>absurd he k.1),fun he=>hD.elim (fun k=>absurd k.1 he) (·.2)⟩
end
def GA (app:Nat) (W0:World) (R:Value->World->Prop) (listed:Array Bool) (σ:Nat->Value) (w:World):Prop:=
 (listed.getD app false=false->Below W0.heap.size W0 w)/\(listed.getD app false=true->R (σ app) w)
section
variable {app i:Nat} {W0 w w':World} {R:Value->World->Prop} {listed:Array Bool} {σ:Nat->Value} {v:Value}
theorem GA.start (n:Nat) (h:Below W0.heap.size W0 w):GA app W0 R (Array.replicate n false) σ w:=⟨fun _=>h,fun h=>by rw[BH]at h;cases h⟩
theorem GA.same (h:GA app W0 R listed σ w) (hi:i≠app):GA app W0 R (listed.setIfInBounds i true) (upd σ i v) w:=by unfold GA;rw[getD_set_ne false hi,upd_ne σ v (Ne.symm hi)];exact h
theorem GA.call (h:GA app W0 R listed σ w) (hi:i≠app) (hun:listed.getD app false=false) (hb:Below w.heap.size w w'):GA app W0 R (listed.setIfInBounds i true) (upd σ i v) w':=by unfold GA;rw[getD_set_ne false hi,hun];exact ⟨fun _=>(h.1 hun).next hb,fun h=>by cases h⟩
theorem GA.on_ (_hl:listed.getD app false=false) (hs:app<listed.size) (hR:R v w'):GA app W0 R (listed.setIfInBounds app true) (upd σ app v) w':=by unfold GA;rw[C8];exact ⟨fun h=>by simp[hs]at h,fun _=>hR⟩
end
def Tg (row:Option Nat) (w w':World):Prop:=w.grownBy w' row/\Kp w w'
theorem Tg.refl (row:Option Nat) (w:World):Tg row w w:=⟨⟨rfl,rfl,rfl,Nat.le_refl _,fun _ _ _=>rfl⟩,Kp.refl w⟩
theorem Tg.of_below {row:Option Nat} {w w':World} (h:Below w.heap.size w w'):Tg row w w':=⟨⟨h.os,h.tape,h.output,h.size,fun k hk _=>h.block k hk⟩,Kp.of_below h⟩
end
section
open Go.RowKit
theorem Et {P:Program} {w:World} {o:Oper} {a:Act} {T:TypeId} {x y:Operand} {g:Nat} {cells old:Array Value} (ho:o.op=.store T x y) (hx:a.eval x=.pointer (some ⟨g,0,none⟩)) (hy:a.eval y=.agg cells) (hb:Am T w g old)
  (hi:(P.info? T).map (·.size)=some cells.size) (hold:old.size=cells.size) (h1:cells.all (·.oneCell')=true):∃w',(execOp a.eval o).run P w=.ok .skip w'/\Am T w' g cells/\Ai g w w':=by
 refine ⟨w.setRow g cells,?_,setRow_heap w g old cells _ _ hb,Ft w g _⟩;unfold execOp;simp only[ho,hx,hy,Instr.storeAt,Instr.sureAddr,Sem.run_bind,Sem.run_pure,Result.andThen_ok,run_storeVar_row w g T T old cells hb hi hold h1]
theorem Does.store_box {P:Program} {w:World} {o:Oper} {a:Act} {T:TypeId} {x y g:Nat} {cells old:Array Value} {R:Value->World->Prop} (ho:o.op=.store T (.tmp x) (.tmp y)) (hx:a.tmps.getD x undef=.pointer (some ⟨g,0,none⟩)) (hy:a.tmps.getD y undef=.agg cells) (hb:Am T w g old)
  (hi:(P.info? T).map (·.size)=some cells.size) (hold:old.size=cells.size) (h1:cells.all (·.oneCell')=true) (hR:∀w',Am T w' g cells->Ai g w w'->R undef w'):Does P a o w R:=by
 obtain ⟨w',h2,h3,h4⟩:=Et (P:=P) (a:=a) ho hx hy hb hi hold h1;exact Does.skip h2 (hR w' h3 h4)
end
section
open Go.RowKit
open Lx
def Fv (w:World) (e:Ending) (w':World):Prop:=e=.returned (.bool true)/\Below w.heap.size w w'
theorem Af {w w':World} {b o:Nat} (h:Below w.heap.size w w') (hlt:b<w.heap.size):w'.cell? ⟨b,o,none⟩=w.cell? ⟨b,o,none⟩:=
 World.cell?_of_block (w:=w) (a:=⟨b,o,none⟩) (h.block b hlt)
end
end Go.Proofs.YtgohmojcopajoaaGreatDoor
