/- Texts of one seat, put together: Region RegionZ. -/
import Derived.Test.YtmedjkhmadfjlaaGreatR09
set_option linter.unusedVariables false
set_option linter.unusedSimpArgs false
set_option maxRecDepth 100000
set_option maxHeartbeats 16000000
namespace Go.Proofs.YtmedjkhmadfjlaaGreat
section
open Go.RowKit
section
variable {P:Program} {ops:Array Oper} {Q:Exit->Act->World->Prop}
def Lk (ops:Array Oper):Bool:=(List.range ops.size).all fun i=>match ops[i]? with
 |none=>true
 |some o=>o.after.all fun e=>!Region.binds .any e || decide (e.on<i)
theorem J6 (h:Lk ops=true) {i:Nat} {o:Oper} (ho:ops[i]?=some o):∀e∈o.after,Region.binds .any e=true->e.on<i:=by intro e he hbd;have hlt:i<ops.size:=(Array.getElem?_eq_some_iff.1 ho).1;have h1:=List.all_eq_true.1 h i (List.mem_range.2 hlt);simp only[ho]at h1;have h2:=Array.all_eq_true_iff_forall_mem.1 h1 e he;rw[hbd]at h2;simpa using h2
def Iv (n:Nat) (l9:Array Bool):Prop:=∀j,j<n->l9.getD j false=true
theorem ready_nil {l9:Array Bool} (hb:Lk ops=true) (hs:l9.size=ops.size) (h:Region.ready .any ops l9=[]):Iv ops.size l9:=by
 intro j;induction j using Nat.strongRecOn with
 |_ j ih=>
  intro hj;by_cases hl:l9.getD j false=true
  · exact hl
  · have hm:j∈Region.ready .any ops l9:=mem_ready.2 ⟨by
     have h1:j<l9.size:=(by omega);simp[h1]at hl ⊢;exact hl,ops[j],Array.getElem?_eq_getElem hj,fun e he hbd=>ih e.on (J6 hb (Array.getElem?_eq_getElem hj) e he hbd) (by have:=J6 hb (Array.getElem?_eq_getElem hj) e he hbd;omega)⟩
    rw[h]at hm;cases hm
theorem Qf {md:Region.Mode} {l9:Array Bool} (h:Iv ops.size l9):Region.ready md ops l9=[]:=by
 rcases hr:Region.ready md ops l9 with _|⟨i,is⟩
 · rfl
 · have hm:i∈Region.ready md ops l9:=(by rw[hr];exact List.mem_cons_self ..);obtain ⟨h1,o,ho,_⟩:=mem_ready.1 hm;have h2:=h i (Array.getElem?_eq_some_iff.1 ho).1;exact (DG h2 h1).elim
def MM (l9:Array Bool):Nat:=l9.toList.countP (fun b=>!b)
theorem RJ {l9:Array Bool} {i:Nat} (h:l9.getD i true=false):MM (l9.setIfInBounds i true)+1=MM l9:=by
 have hi:i<l9.size:=by
  rcases Nat.lt_or_ge i l9.size with h1|h1
  · exact h1
  · simp[Array.getElem?_eq_none h1]at h
 have h1:l9.toList[i]?=some false:=by simp[hi]at h;simp[hi,h]
 unfold MM;rw[Array.toList_setIfInBounds];generalize l9.toList=l at *;clear h hi;induction l generalizing i with
 |nil=>simp at h1
 |cons b l ih=>
  cases i with
  |zero=>simp at h1;subst h1;simp
  |succ i=> simp at h1;have:=ih h1;simp only[List.set_cons_succ,List.countP_cons];omega
theorem Qg {l9:Array Bool} (h:MM l9=0):Iv l9.size l9:=by intro j hj;unfold MM at h;rw[List.countP_eq_zero]at h;have:=h l9[j] (by simp);simp at this;simp[hj,this]
theorem Ob (n:Nat):MM (Array.replicate n false)=n:=by unfold MM;simp[List.countP_replicate]
theorem ET {id:Nat} {a:Act} {w:World} (hm:P.follows .mixedOrders=true) (hb:Lk ops=true) (I:Array Bool->Act->World->Prop)
  (h0:I (Array.replicate ops.size false) a w.drew)
  (hstep:∀(i:Nat) (o:Oper) (l9:Array Bool) (a:Act) (w:World),ops[i]?=some o->l9.size=ops.size->l9.getD i true=false->Bp .any ops l9->(∀e∈o.after,Region.binds .any e=true->l9.getD e.on false=true)->I l9 a w ->
   wpOp P ops Q i (I (l9.setIfInBounds i true)) a w)
  (hend:∀(l9:Array Bool) (a:Act) (w:World),l9.size=ops.size->Iv ops.size l9->I l9 a w->Q .normal a w):(Code.region id ops true).wp P Q a w:=by
 have main:∀(fuel:Nat) (l9:Array Bool) (a:Act) (w:World),l9.size=ops.size->MM l9<=fuel->Bp .any ops l9->I l9 a w->wpAny P .any ops Q fuel l9 a w:=by
  intro fuel;induction fuel with
  |zero=>
   intro l9 a w hs hf hc hI;have hall:Iv ops.size l9:=(by rw[<-hs];exact Qg (by omega));exact ⟨Qf hall,hend l9 a w hs hall hI⟩
  |succ fuel ih=> intro l9 a w hs hf hc hI;refine ⟨fun h=>hend l9 a w hs (ready_nil hb hs h) hI,fun i hi=>?_⟩;obtain ⟨h1,o,ho,h2⟩:=mem_ready.1 hi;refine wpOp_mono (fun a' w' hI'=>?_) (hstep i o l9 a w ho hs h1 hc h2 hI);exact ih _ a' w' (by simp[hs]) (by have:=RJ h1;omega) (hc.next hi) hI'
 refine wp_region_any hm (main ops.size _ a _ (by simp) (by rw[Ob];exact Nat.le_refl _) (Bp.zero _) h0)
def AY (ops:Array Oper) (j:Nat):Option Tmp:=(ops[j]?).bind (·.dst)
def upd (σ:Nat->Value) (i:Nat) (v:Value):Nat->Value:=fun j=>if j=i then v else σ j
theorem Cz (σ:Nat->Value) (i:Nat) (v:Value):upd σ i v i=v:=by unfold upd;rw[if_pos rfl]
theorem upd_ne (σ:Nat->Value) {i j:Nat} (v:Value) (h:j≠i):upd σ i v j=σ j:=by unfold upd;rw[if_neg h]
def fill (ops:Array Oper) (σ:Nat->Value) (l9:Array Bool):List Nat->Act->Act
 |[],a=>a
 |j::js,a=>fill ops σ l9 js (if l9.getD j false then a.put (AY ops j) (σ j) else a)
def GG:Option Tmp->Option Tmp->Bool
 |some d,some e=>d != e
 |_,_=>true
theorem Qh (a:Act) (d e:Option Tmp) (u v:Value) (h:GG d e=true):(a.put d u).put e v=(a.put e v).put d u:=by
 cases d with
 |none=>rfl
 |some d=>cases e with
  |none=>rfl
  |some e=>
   have:d≠e:=by simpa[GG] using h
   simp only[Act.put,Act.mk.injEq,and_true];exact Array.setIfInBounds_comm _ _ this
def ownB (ops:Array Oper) (size:Nat):Bool:=(List.range ops.size).all fun i=>(match AY ops i with|none=>true|some d=>decide (d<size))&&(List.range ops.size).all fun j=>i==j || GG (AY ops i) (AY ops j)
theorem J7 {size i j:Nat} (h:ownB ops size=true) (hi:i<ops.size) (hj:j<ops.size) (hne:i≠j):GG (AY ops i) (AY ops j)=true:=by have h1:=List.all_eq_true.1 h i (List.mem_range.2 hi);simp only[Bool.and_eq_true]at h1;have h2:=List.all_eq_true.1 h1.2 j (List.mem_range.2 hj);simpa[hne] using h2
theorem TC {size i d:Nat} (h:ownB ops size=true) (hi:i<ops.size) (hd:AY ops i=some d):d<size:=by have h1:=List.all_eq_true.1 h i (List.mem_range.2 hi);simp only[Bool.and_eq_true,hd]at h1;exact of_decide_eq_true h1.1
theorem J8 {σ:Nat->Value} {l9:Array Bool} {d:Option Tmp} {v:Value}:∀(js:List Nat) (a:Act),(∀j∈js,GG d (AY ops j)=true)->fill ops σ l9 js (a.put d v)=(fill ops σ l9 js a).put d v
 |[],_,_=>rfl
 |j::js,a,h=>by
  have hj:=h j (List.mem_cons_self ..);have hjs:∀x∈js,GG d (AY ops x)=true:=fun x hx=>h x (List.mem_cons_of_mem _ hx)
  unfold fill;split
  · rw[Qh _ _ _ _ _ hj];exact J8 js _ hjs
  · exact J8 js _ hjs
theorem Ll {σ:Nat->Value} {l9:Array Bool} {i:Nat} {v:Value}:∀(js:List Nat) (a:Act),i ∉ js->fill ops (upd σ i v) (l9.setIfInBounds i true) js a=fill ops σ l9 js a
 |[],_,_=>rfl
 |j::js,a,h=>by
  have hji:j≠i:=fun e=>h (e▸List.mem_cons_self ..)
  unfold fill;rw[getD_set_ne false (Ne.symm hji),upd_ne σ v hji];exact Ll js _ (fun hh=>h (List.mem_cons_of_mem _ hh))
theorem FO {size:Nat} {σ:Nat->Value} {l9:Array Bool} {i:Nat} {v:Value} (ho:ownB ops size=true) (hi:i<ops.size) (hl:l9.getD i true=false) :
  ∀(js:List Nat) (a:Act),js.Nodup->(∀j∈js,j<ops.size)->i∈js->fill ops (upd σ i v) (l9.setIfInBounds i true) js a=(fill ops σ l9 js a).put (AY ops i) v
 |[],_,_,_,h=>by cases h
 |j::js,a,hn,hlt,h=>by
  obtain ⟨hn1,hn2⟩:=List.nodup_cons.1 hn;by_cases hji:j=i
  · subst hji;have hls:j<l9.size:=by
     rcases Nat.lt_or_ge j l9.size with h1|h1
     · exact h1
     · simp[Array.getElem?_eq_none h1]at hl
    have h1:(l9.setIfInBounds j true).getD j false=true:=(by simp[hls]);have h2:l9.getD j false=false:=(by simp[hls]at hl ⊢;exact hl);unfold fill;rw[h1,h2,Cz];simp only[if_true,Bool.false_eq_true,if_false];rw[Ll js _ hn1];exact J8 js a (fun x hx=>J7 ho hi (hlt x (List.mem_cons_of_mem _ hx)) (fun e=>hn1 (e▸hx)))
  · have hjs:i∈js:=(List.mem_cons.1 h).resolve_left (fun e=>hji e.symm);unfold fill;rw[getD_set_ne false (Ne.symm hji),upd_ne σ v hji];exact FO ho hi hl js _ hn2 (fun x hx=>hlt x (List.mem_cons_of_mem _ hx)) hjs
theorem RL (a:Act) (d:Option Tmp) (v:Value):(a.put d v).tmps.size=a.tmps.size:=by cases d<;>simp[Act.put]
theorem eval_put_ne (a:Act) (d:Option Tmp) (t:Tmp) (v:Value) (h:d≠some t):(a.put d v).eval (.tmp t)=a.eval (.tmp t):=by
 cases d with
 |none=>rfl
 |some d=>
  have:d≠t:=fun e=>h (by rw[e])
  simp[Act.put,Act.eval,Array.getElem?_setIfInBounds_ne this]
theorem MN (a:Act) (t:Tmp) (v:Value) (h:t<a.tmps.size):(a.put (some t) v).eval (.tmp t)=v:=by simp[Act.put,Act.eval,h]
theorem J9 {σ:Nat->Value} {l9:Array Bool} {t:Tmp}:∀(js:List Nat) (a:Act),(∀j∈js,AY ops j≠some t)->(fill ops σ l9 js a).eval (.tmp t)=a.eval (.tmp t)
 |[],_,_=>rfl
 |j::js,a,h=>by
  unfold fill;rw[J9 js _ (fun x hx=>h x (List.mem_cons_of_mem _ hx))];split
  · exact eval_put_ne _ _ _ _ (h j (List.mem_cons_self ..))
  · rfl
theorem Pm {size:Nat} {σ:Nat->Value} {l9:Array Bool} {t:Tmp} {i:Nat} (ho:ownB ops size=true) (hi:i<ops.size) (hd:AY ops i=some t) (hl:l9.getD i false=true) :
    ∀(js:List Nat) (a:Act),a.tmps.size=size->js.Nodup->(∀j∈js,j<ops.size)->i∈js->(fill ops σ l9 js a).eval (.tmp t)=σ i
  |[],_,_,_,_,h=>by cases h
  |j::js,a,hs,hn,hlt,h=>by
    obtain ⟨hn1,hn2⟩:=List.nodup_cons.1 hn;by_cases hji:j=i
    · subst hji;unfold fill;rw[hl];simp only[if_true];rw[J9 js _ (fun x hx e=>by
        have h1:=J7 ho hi (hlt x (List.mem_cons_of_mem _ hx)) (fun e=>hn1 (e▸hx));rw[hd,e]at h1;simp[GG]at h1),hd]
      exact MN _ _ _ (by rw[hs];exact TC ho hi hd)
    · have hjs:i∈js:=(List.mem_cons.1 h).resolve_left (fun e=>hji e.symm);unfold fill;exact Pm ho hi hd hl js _ (by
                                         split;· rw[RL];exact hs
                                         · exact hs) hn2 (fun x hx=>hlt x (List.mem_cons_of_mem _ hx)) hjs
def mid (ops:Array Oper) (σ:Nat->Value) (l9:Array Bool) (a:Act):Act:=fill ops σ l9 (List.range ops.size) a
theorem LQ {a:Act} {σ:Nat->Value} {l9:Array Bool} {t:Tmp} {i:Nat} (ho:ownB ops a.tmps.size=true) (hd:AY ops i=some t) (hl:l9.getD i false=true):(mid ops σ l9 a).eval (.tmp t)=σ i:=by
 have hi:i<ops.size:=by
  rcases Nat.lt_or_ge i ops.size with h|h
  · exact h
  · simp[AY,Array.getElem?_eq_none h]at hd
 exact Pm ho hi hd hl _ a rfl List.nodup_range (fun j hj=>List.mem_range.1 hj) (List.mem_range.2 hi)
def TD (ops:Array Oper) (t:Tmp):Bool:=(List.range ops.size).all fun j=>AY ops j != some t
theorem TE {a:Act} {σ:Nat->Value} {l9:Array Bool} {t:Tmp} (h:TD ops t=true):(mid ops σ l9 a).eval (.tmp t)=a.eval (.tmp t):=
 J9 _ a (fun j hj=>by simpa using List.all_eq_true.1 h j hj)
def LR (R:Nat->Oper->Prop):Nat->List Oper->Prop
 |_,[]=>True
 |i,o::os=>R i o/\LR R (i+1) os
theorem LR.get {R:Nat->Oper->Prop}:∀(os:List Oper) (k:Nat),LR R k os->∀i o,os[i]?=some o->R (k+i) o
 |[],_,_,i,o,h=>by simp at h
 |x::os,k,h,i,o,ho=>by
  cases i with
  |zero=>simp at ho;subst ho;exact h.1
  |succ i=> have:=LR.get os (k+1) h.2 i o (by simpa using ho);rw[show k+(i+1)=k+1+i by omega];exact this
def Does (P:Program) (a:Act) (o:Oper) (w:World) (R:Value->World->Prop):Prop:=
 (∃v w',(execOp a.eval o).run P w=.ok (.value v) w'/\R v w')\/(∃w',(execOp a.eval o).run P w=.ok .skip w'/\R undef w') \/
 ∃(f:FuncId) (args:Array Value) (R':Ending->World->Prop),(execOp a.eval o).run P w=.ok (.enter f args) w/\Calls P f args w R'/\∀e w',R' e w'->∃v,e=.returned v/\R v w'
theorem Does.val {a:Act} {o:Oper} {w w':World} {R:Value->World->Prop} (v:Value) (h:(execOp a.eval o).run P w=.ok (.value v) w') (hR:R v w'):Does P a o w R:=Or.inl ⟨v,w',h,hR⟩
theorem Does.skip {a:Act} {o:Oper} {w w':World} {R:Value->World->Prop} (h:(execOp a.eval o).run P w=.ok .skip w') (hR:R undef w'):Does P a o w R:=Or.inr (Or.inl ⟨w',h,hR⟩)
theorem Does.call {a:Act} {o:Oper} {w:World} {R:Value->World->Prop} {f:FuncId} {args:Array Value} {R':Ending->World->Prop} (h:(execOp a.eval o).run P w=.ok (.enter f args) w) (hc:Calls P f args w R') (hR:∀e w',R' e w'->∃v,e=.returned v/\R v w'):Does P a o w R:=Or.inr (Or.inr ⟨f,args,R',h,hc,hR⟩)
theorem Does.step {i:Nat} {o:Oper} {K:Act->World->Prop} {a:Act} {w:World} {R:Value->World->Prop} (ho:ops[i]?=some o) (hg:Region.wanted o (yielded ops a.tmps)=true) (h:Does P a o w R) (hK:∀v w',R v w'->K (a.put o.dst v) w'):wpOp P ops Q i K a w:=
 wpOp_step ho fun K' hK'=>by
  rw[if_pos hg];unfold Oper.wp;rcases h with ⟨v,w',hr,hR⟩|⟨w',hr,hR⟩|⟨f,args,R',hr,hc,hR⟩
  · rw[hr];exact hK' _ _ (hK _ _ hR)
  · rw[hr];exact hK' _ _ (hK _ _ hR)
  · rw[hr];refine hc.mono fun e w' he=>?_
    obtain ⟨v,rfl,hv⟩:=hR e w' he;exact hK' _ _ (hK _ _ hv)
def Ad (ops:Array Oper) (a:Act) (o:Oper) (w:World) (R:Value->World->Prop) (D:Prop):Prop:=
 match o.guard with
 |none=>D
 |some (g,want)=>∃(d:Tmp) (b:Bool),AY ops g=some d/\a.tmps.getD d undef=.bool b/\(b=want->D)/\(b≠want->R undef w)
theorem Ad.step {i:Nat} {o:Oper} {K:Act->World->Prop} {a:Act} {w:World} {R:Value->World->Prop} (ho:ops[i]?=some o) (h:Ad ops a o w R (Does P a o w R)) (hK:∀v w',R v w'->K (a.put o.dst v) w'):wpOp P ops Q i K a w:=by
 unfold Ad at h;cases hg:o.guard with
 |none=>
  rw[hg]at h;exact Does.step ho (by simp[Region.wanted,hg]) h hK
 |some gw=>
  obtain ⟨g,want⟩:=gw;rw[hg]at h;obtain ⟨d,b,hd,hv,h1,h2⟩:=h;have hy:yielded ops a.tmps g=some b:=by
    have h3:a.tmps[d]?=some (.bool b):=by
     rcases hx:a.tmps[d]? with _|x
     · simp[hx]at hv;exact absurd hv (by unfold undef;simp)
     · simp[hx]at hv;rw[hv]
    unfold AY at hd;unfold yielded;rw[hd];show (match a.tmps[d]? with|some (.bool b)=>some b|_=>none)=_;rw[h3]
  by_cases hb:b=want
  · exact Does.step ho (by simp[Region.wanted,hg,hy,hb]) (h1 hb) hK
  · refine wpOp_step ho fun K' hK'=>?_
    rw[if_neg (by simp[Region.wanted,hg,hy,hb])];exact hK' _ _ (hK _ _ (h2 hb))
def UV (P:Program) (ops:Array Oper) (a0:Act) (T:World->World->Prop) (F:Nat->Value->World->Prop) (G:Array Bool->(Nat->Value)->World->Prop) (i:Nat) (o:Oper):Prop:=
 ∀(l9:Array Bool) (σ:Nat->Value) (w:World) (a:Act),(∀j t,AY ops j=some t->l9.getD j false=true->a.tmps.getD t undef=σ j)->(∀t,TD ops t=true->a.tmps.getD t undef=a0.tmps.getD t undef) ->
  l9.getD i true=false->Bp .any ops l9->(∀e∈o.after,Region.binds .any e=true->l9.getD e.on false=true)->G l9 σ w->(∀j,l9.getD j false=true->F j (σ j) w) ->
  Ad ops a o w (fun v w'=>T w w'/\F i v w'/\G (l9.setIfInBounds i true) (upd σ i v) w') (Does P a o w (fun v w'=>T w w'/\F i v w'/\G (l9.setIfInBounds i true) (upd σ i v) w'))
theorem BZ (n j:Nat):(Array.replicate n false).getD j false=false:=by
 rcases Nat.lt_or_ge j n with h|h
 · simp[h]
 · simp[Nat.not_lt.2 h]
theorem II {id:Nat} {a0:Act} {w:World} (hm:P.follows .mixedOrders=true) (hb:Lk ops=true) (ho:ownB ops a0.tmps.size=true) (T:World->World->Prop) (F:Nat->Value->World->Prop) (G:Array Bool->(Nat->Value)->World->Prop)
   (hF:∀j v w w',T w w'->F j v w->F j v w') (h0:∀σ,G (Array.replicate ops.size false) σ w.drew)
   (hstep:LR (UV P ops a0 T F G) 0 ops.toList)
   (hend:∀(l9:Array Bool) (σ:Nat->Value) (w:World),Iv ops.size l9->G l9 σ w->(∀j,j<ops.size->F j (σ j) w)->Q .normal (mid ops σ l9 a0) w):(Code.region id ops true).wp P Q a0 w:=by
 refine ET hm hb (fun l9 a w=>∃σ,a=mid ops σ l9 a0/\G l9 σ w/\∀j,l9.getD j false=true->F j (σ j) w) ?_ ?_ ?_
 · refine ⟨fun _=>undef,?_,h0 _,fun j hj=>?_⟩
   · unfold mid;have:∀(js:List Nat) (a:Act),fill ops (fun _=>undef) (Array.replicate ops.size false) js a=a:=by
       intro js;induction js with
       |nil=>intro a;rfl
       |cons j js ih=> intro a;unfold fill;rw[if_neg (by rw[BZ];exact Bool.false_ne_true),ih]
     exact (this _ _).symm
   · rw[BZ]at hj;cases hj
 · rintro i o l9 a w hio hs hl hc hp ⟨σ,rfl,hG,hF1⟩;have hlt:i<ops.size:=(Array.getElem?_eq_some_iff.1 hio).1;have h1:=LR.get ops.toList 0 hstep i o (by simpa using hio);rw[Nat.zero_add]at h1;refine Ad.step hio (h1 l9 σ w (mid ops σ l9 a0) (fun j t hd hj=>LQ ho hd hj) (fun t ht=>TE ht) hl hc hp hG hF1) ?_;rintro v w' ⟨hT,hFi,hG'⟩;refine ⟨upd σ i v,?_,hG',fun j hj=>?_⟩
   · have hd:o.dst=AY ops i:=(by simp[AY,hio]);rw[hd];exact (FO ho hlt hl _ _ List.nodup_range (fun j hj=>List.mem_range.1 hj) (List.mem_range.2 hlt)).symm
   · by_cases hji:j=i
     · subst hji;rw[Cz];exact hFi
     · rw[upd_ne σ v hji];rw[getD_set_ne false (Ne.symm hji)]at hj;exact hF j _ _ _ hT (hF1 j hj)
 · rintro l9 a w hs hall ⟨σ,rfl,hG,hF1⟩;exact hend l9 σ w hall hG (fun j hj=>hF1 j (hall j hj))
theorem AU {l9:Array Bool} {σ:Nat->Value} {a:Act} (h:Iv ops.size l9):mid ops σ l9 a=(List.range ops.size).foldl (fun a j=>a.put (AY ops j) (σ j)) a:=by
 unfold mid;have:∀(js:List Nat) (a:Act),(∀j∈js,j<ops.size)->fill ops σ l9 js a=js.foldl (fun a j=>a.put (AY ops j) (σ j)) a:=by
  intro js;induction js with
  |nil=>intro a _;rfl
  |cons j js ih=> intro a hlt;unfold fill;rw[if_pos (h j (hlt j (List.mem_cons_self ..))),List.foldl_cons];exact ih _ (fun x hx=>hlt x (List.mem_cons_of_mem _ hx))
 exact this _ a (fun j hj=>List.mem_range.1 hj)
def G1 (W0:World) (b s:Nat) (Fr Fu:World->Nat->Prop) (l9:Array Bool) (σ:Nat->Value) (w:World):Prop:=
 Below W0.heap.size W0 w/\(l9.getD b false=true->∃g,σ b=.pointer (some ⟨g,0,none⟩)/\W0.heap.size<=g/\(l9.getD s false=false->Fr w g)/\(l9.getD s false=true->Fu w g))
theorem Ad.none {a:Act} {o:Oper} {w:World} {R:Value->World->Prop} {D:Prop} (h:o.guard=none) (hD:D):Ad ops a o w R D:=by unfold Ad;rw[h];exact hD
theorem Iw {l9:Array Bool} {i:Nat} (h:l9.getD i true=false):i<l9.size:=by
 rcases Nat.lt_or_ge i l9.size with h1|h1
 · exact h1
 · simp[Array.getElem?_eq_none h1]at h
theorem JA {l9:Array Bool} {i:Nat} (h:l9.getD i true=false):l9.getD i false=false:=by have:=Iw h;simp[this]at h ⊢;exact h
theorem Lm {md:Region.Mode} {l9:Array Bool} {i k:Nat} (hc:Bp md ops l9) (hi:l9.getD i true=false) (hw:((ops[k]?).map fun o=>o.after.any fun e=>e.on==i&&Region.binds md e)=some true):l9.getD k false=false:=by
 cases hk:l9.getD k false with
 |false=>rfl
 |true=>
  cases ho:ops[k]? with
  |none=>rw[ho]at hw;cases hw
  |some o=> rw[ho]at hw;simp only[Option.map_some,Option.some.injEq]at hw;obtain ⟨x,hx,h1⟩:=Array.any_eq_true.1 hw;simp only[Bool.and_eq_true,beq_iff_eq]at h1;have h2:=hc k o ho hk _ (Array.getElem_mem hx) h1.2;rw[h1.1]at h2;exact (DG h2 hi).elim
end
end
section
open Go.RowKit
def Ic (w:World) (g:Nat) (Z:Int) (k:Nat):Prop:=∃s A n c,AH w g #[.bool s,.slice A n c]/\Au w (.agg #[.bool s,.slice A n c]) Z k
theorem Ic.lt {w:World} {g k:Nat} {Z:Int} (h:Ic w g Z k):g<w.heap.size:=by obtain ⟨s,A,n,c,h1,-⟩:=h;exact h1.lt
theorem Ic.next {w w':World} {g k:Nat} {Z:Int} (h:Ic w g Z k) (hb:Below w.heap.size w w'):Ic w' g Z k:=by obtain ⟨s,A,n,c,h1,h2⟩:=h;exact ⟨s,A,n,c,h1.next hb,h2.below hb⟩
theorem Ic.other {w w':World} {g g' k m d:Nat} {Z:Int} {s:Bool} {B:Option Addr} (h:Ic w g Z k) (hb:AH w g' #[.bool s,.slice B m d]) (ho:AA g' w w') (hne:g≠g'):Ic w' g Z k:=by obtain ⟨s,A,n,c,h1,h2⟩:=h;exact ⟨s,A,n,c,h1.other ho hne,h2.only hb ho⟩
theorem Ic.put {w:World} {g k m d n c:Nat} {Z:Int} {s t:Bool} {A B:Option Addr} (hb:AH w g #[.bool s,.slice B m d]) (h:Au w (.agg #[.bool t,.slice A n c]) Z k):Ic (st2 w g (.bool t) (.slice A n c)) g Z k:=
 ⟨t,A,n,c,hb.set2 _ _,h.only hb (AD w g _ _)⟩
structure Em where
 made:Nat
 filled:Nat
 num:Int
 lim:Nat
def GZ (W0:World) (Bs:List Em) (l9:Array Bool) (σ:Nat->Value) (w:World):Prop:=
 Below W0.heap.size W0 w/\(∀p∈Bs,l9.getD p.made false=true->∃g,σ p.made=.pointer (some ⟨g,0,none⟩)/\W0.heap.size<=g/\(l9.getD p.filled false=false->AH w g #[.bool false,.slice none 0 0])/\(l9.getD p.filled false=true->Ic w g p.num p.lim)) /\
 (∀p∈Bs,∀q∈Bs,p.made≠q.made->l9.getD p.made false=true->l9.getD q.made false=true->σ p.made≠σ q.made)
variable {W0:World} {Bs:List Em} {l9:Array Bool} {σ:Nat->Value} {w w':World} {i:Nat} {v:Value}
theorem GZ.old (h:GZ W0 Bs l9 σ w):Below W0.heap.size W0 w:=h.1
theorem GZ.start {n:Nat}:GZ W0 Bs (Array.replicate n false) σ W0.drew:=
 ⟨Ap W0 1,(fun p _ h=>by rw[BZ]at h;cases h),(fun p _ q _ _ h=>by rw[BZ]at h;cases h)⟩
def UW (Bs:List Em) (i:Nat):Bool:=Bs.all fun p=>p.made != i&&p.filled != i
theorem Ie (h:UW Bs i=true) {p:Em} (hp:p∈Bs):p.made≠i/\p.filled≠i:=by have:=List.all_eq_true.1 h p hp;simpa using this
theorem GZ.keep (h:GZ W0 Bs l9 σ w) (hi:UW Bs i=true) (hw:Below w.heap.size w w'):GZ W0 Bs (l9.setIfInBounds i true) (upd σ i v) w':=by
 refine ⟨h.1.next hw,fun p hp hl=>?_,fun p hp q hq hne hl1 hl2=>?_⟩
 · obtain ⟨h1,h2⟩:=Ie hi hp;rw[getD_set_ne false (Ne.symm h1)]at hl;obtain ⟨g,e,hg,ha,hb⟩:=h.2.1 p hp hl;rw[upd_ne σ v h1,getD_set_ne false (Ne.symm h2)];exact ⟨g,e,hg,fun hh=>(ha hh).next hw,fun hh=>(hb hh).next hw⟩
 · obtain ⟨h1,-⟩:=Ie hi hp;obtain ⟨h2,-⟩:=Ie hi hq;rw[getD_set_ne false (Ne.symm h1)]at hl1;rw[getD_set_ne false (Ne.symm h2)]at hl2;rw[upd_ne σ v h1,upd_ne σ v h2];exact h.2.2 p hp q hq hne hl1 hl2
theorem GZ.same (h:GZ W0 Bs l9 σ w) (hi:UW Bs i=true):GZ W0 Bs (l9.setIfInBounds i true) (upd σ i v) w:=h.keep hi (Below.refl _ _)
theorem GZ.at_ (h:GZ W0 Bs l9 σ w) {p:Em} (hp:p∈Bs) (hl:l9.getD p.made false=true):∃g,σ p.made=.pointer (some ⟨g,0,none⟩)/\W0.heap.size<=g/\g<w.heap.size/\(l9.getD p.filled false=false->AH w g #[.bool false,.slice none 0 0])/\(l9.getD p.filled false=true->Ic w g p.num p.lim):=by
 obtain ⟨g,e,hg,ha,hb⟩:=h.2.1 p hp hl;refine ⟨g,e,hg,?_,ha,hb⟩;cases hf:l9.getD p.filled false with
 |false=>exact (ha hf).lt
 |true=>exact (hb hf).lt
def RN (Bs:List Em):Bool:=Bs.all fun p=>Bs.all fun q=>(p.made != q.filled)&&(p.made==q.made || p.filled != q.filled)
theorem DI (h:RN Bs=true) {p q:Em} (hp:p∈Bs) (hq:q∈Bs):p.made≠q.filled/\(p.made=q.made\/p.filled≠q.filled):=by have h1:=List.all_eq_true.1 h p hp;have h2:=List.all_eq_true.1 h1 q hq;simpa using h2
theorem GZ.made (h:GZ W0 Bs l9 σ w) (hs:RN Bs=true) {p:Em} (hp:p∈Bs) (hi:i=p.made) (hun:∀q∈Bs,q.made=p.made->l9.getD q.filled false=false) :
   GZ W0 Bs (l9.setIfInBounds i true) (upd σ i (.pointer (some ⟨w.heap.size,0,none⟩))) (w.alloc (.cells #[.bool false,.slice none 0 0] 38)):=by
 subst hi;refine ⟨h.1.next (Af w _),fun q hq hl=>?_,fun q hq r hr hne hl1 hl2=>?_⟩
 · by_cases hqp:q.made=p.made
   · rw[hqp,Cz,getD_set_ne false (DI hs hp hq).1,hun q hq hqp];exact ⟨_,rfl,h.1.size,fun _=>AH.new _ _,fun hh=>by cases hh⟩
   · rw[getD_set_ne false (Ne.symm hqp)]at hl;obtain ⟨g,e,hg,ha,hb⟩:=h.2.1 q hq hl;rw[upd_ne σ _ hqp,getD_set_ne false (DI hs hp hq).1];exact ⟨g,e,hg,fun hh=>(ha hh).alloc _,fun hh=>(hb hh).next (Af w _)⟩
 · by_cases hqp:q.made=p.made
   · have hrp:r.made≠p.made:=fun e=>hne (hqp.trans e.symm)
     rw[getD_set_ne false (Ne.symm hrp)]at hl2;obtain ⟨g,e,-,hlt,-⟩:=h.at_ hr hl2;rw[hqp,Cz,upd_ne σ _ hrp,e];intro hh;injection hh with hh
     injection hh with hh
     injection hh with hh
     omega
   · rw[getD_set_ne false (Ne.symm hqp)]at hl1;rw[upd_ne σ _ hqp];by_cases hrp:r.made=p.made
     · obtain ⟨g,e,-,hlt,-⟩:=h.at_ hq hl1;rw[hrp,Cz,e];intro hh;injection hh with hh
       injection hh with hh
       injection hh with hh
       omega
     · rw[getD_set_ne false (Ne.symm hrp)]at hl2;rw[upd_ne σ _ hrp];exact h.2.2 q hq r hr hne hl1 hl2
theorem GZ.filled (h:GZ W0 Bs l9 σ w) (hs:RN Bs=true) {p:Em} (hp:p∈Bs) (hi:i=p.filled) (hl0:l9.getD p.made false=true) (hun:l9.getD i true=false) {g n c:Nat} {t:Bool} {A:Option Addr}
   (hg:σ p.made=.pointer (some ⟨g,0,none⟩)) (hz:Au w (.agg #[.bool t,.slice A n c]) p.num p.lim) (hsame:∀q∈Bs,q.made=p.made->q=p) :
   AH w g #[.bool false,.slice none 0 0]/\GZ W0 Bs (l9.setIfInBounds i true) (upd σ i v) (st2 w g (.bool t) (.slice A n c)):=by
 subst hi;have hfalse:l9.getD p.filled false=false:=JA hun;obtain ⟨g',e',hg',ha',-⟩:=h.2.1 p hp hl0;have hgg:g=g':=by rw[hg]at e';injection e' with e';injection e' with e';injection e'
 subst hgg;have hB:=ha' hfalse;refine ⟨hB,AE h.1 hg' (AD _ _ _ _),fun q hq hl=>?_,fun q hq r hr hne hl1 hl2=>?_⟩
 · have h1:=(DI hs hq hp).1;rw[getD_set_ne false (Ne.symm h1)]at hl;rw[upd_ne σ v h1];by_cases hqp:q.made=p.made
   · obtain rfl:=hsame q hq hqp;have hlt:=Iw hun;exact ⟨g,hg,hg',fun hh=>by simp[hlt]at hh,fun _=>Ic.put hB hz⟩
   · obtain ⟨g2,e2,hg2,ha2,hb2⟩:=h.2.1 q hq hl;have hne2:g2≠g:=by
      intro e;have:=h.2.2 q hq p hp hqp hl hl0;rw[e2,hg,e]at this;exact this rfl
     rw[getD_set_ne false (Ne.symm ((DI hs hq hp).2.resolve_left hqp))];exact ⟨g2,e2,hg2,fun hh=>(ha2 hh).other (AD _ _ _ _) hne2,fun hh=>(hb2 hh).other hB (AD _ _ _ _) hne2⟩
 · have h1:=(DI hs hq hp).1;have h2:=(DI hs hr hp).1;rw[getD_set_ne false (Ne.symm h1)]at hl1;rw[getD_set_ne false (Ne.symm h2)]at hl2;rw[upd_ne σ v h1,upd_ne σ v h2];exact h.2.2 q hq r hr hne hl1 hl2
end
end Go.Proofs.YtmedjkhmadfjlaaGreat
