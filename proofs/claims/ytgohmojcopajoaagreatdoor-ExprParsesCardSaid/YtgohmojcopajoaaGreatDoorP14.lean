/- Texts of one seat, put together: Region2 TermMath PartMem TermMathB. -/
import Derived.Test.YtgohmojcopajoaaGreatDoorP13
import Derived.Test.YtgohmojcopajoaaGreatDoorP01
import Derived.Test.YtgohmojcopajoaaGreatDoorP12
set_option linter.unusedVariables false
set_option linter.unusedSimpArgs false
set_option maxRecDepth 100000
set_option maxHeartbeats 16000000
namespace Go.Proofs.YtgohmojcopajoaaGreatDoor.Nu
section
open Go.RowKit
section
variable {P:Program} {ops:Array Oper} {Q:Exit->Act->World->Prop}
theorem Hl {σ:Nat->Value} {listed:Array Bool} {t:Tmp}:∀(js:List Nat) (a:Act),(∀j∈js,Aq ops j=some t->listed.getD j false=false)->(fill ops σ listed js a).eval (.tmp t)=a.eval (.tmp t)
 |[],_,_=>rfl
 |j::js,a,h=>by
  unfold fill;rw[Hl js _ (fun x hx=>h x (List.mem_cons_of_mem _ hx))];split
  · rename_i hl
    exact eval_put_ne _ _ _ _ (fun e=>by rw[h j (List.mem_cons_self ..) e]at hl;cases hl)
  · rfl
theorem GJ {a:Act} {σ:Nat->Value} {listed:Array Bool} {t:Tmp} (h:∀j,Aq ops j=some t->listed.getD j false=false):(mid ops σ listed a).eval (.tmp t)=a.eval (.tmp t):=
 Hl _ a (fun j _=>h j)
theorem Af {t:Tmp} {listed:Array Bool} (h:NB ops t=true):∀j,Aq ops j=some t->listed.getD j false=false:=by
 intro j hj;rcases Nat.lt_or_ge j ops.size with hlt|hge
 · have:=List.all_eq_true.1 h j (List.mem_range.2 hlt);rw[hj]at this;simp at this
 · simp[Aq,Array.getElem?_eq_none hge]at hj
def Rc (ops:Array Oper) (t:Tmp) (j:Nat):Bool:=(List.range ops.size).all fun i=>i==j || Aq ops i != some t
theorem Da {t:Tmp} {j:Nat} {listed:Array Bool} (h:Rc ops t j=true) (hl:listed.getD j false=false):∀i,Aq ops i=some t->listed.getD i false=false:=by
 intro i hi;rcases Nat.lt_or_ge i ops.size with hlt|hge
 · have:=List.all_eq_true.1 h i (List.mem_range.2 hlt);rw[hi]at this;simp at this;rw[this];exact hl
 · simp[Aq,Array.getElem?_eq_none hge]at hi
theorem BH {md:Region.Mode} {listed:Array Bool} {i k:Nat} (hc:AY md ops listed) (hi:listed.getD i false=false) (hw:((ops[k]?).map fun o=>o.after.any fun e=>e.on==i&&Region.binds md e)=some true):listed.getD k false=false:=by
 cases hk:listed.getD k false with
 |false=>rfl
 |true=>
  cases ho:ops[k]? with
  |none=>rw[ho]at hw;cases hw
  |some o=> rw[ho]at hw;simp only[Option.map_some,Option.some.injEq]at hw;obtain ⟨x,hx,h1⟩:=Array.any_eq_true.1 hw;simp only[Bool.and_eq_true,beq_iff_eq]at h1;have h2:=hc k o ho hk _ (Array.getElem_mem hx) h1.2;rw[h1.1,hi]at h2;cases h2
def Mg (P:Program) (ops:Array Oper) (a0:Act) (T:World->World->Prop) (F:Nat->Value->World->Prop) (G:Array Bool->(Nat->Value)->World->Prop) (i:Nat) (o:Oper):Prop:=
 ∀(listed:Array Bool) (σ:Nat->Value) (w:World) (a:Act),(∀j t,Aq ops j=some t->listed.getD j false=true->a.tmps.getD t undef=σ j)->(∀t,(∀j,Aq ops j=some t->listed.getD j false=false)->a.tmps.getD t undef=a0.tmps.getD t undef) ->
  listed.getD i false=false->AY .any ops listed->(∀e∈o.after,Region.binds .any e=true->listed.getD e.on false=true)->G listed σ w->(∀j,listed.getD j false=true->F j (σ j) w) ->
  Ac ops a o w (fun v w'=>T w w'/\F i v w'/\G (listed.setIfInBounds i true) (upd σ i v) w') (Does P a o w (fun v w'=>T w w'/\F i v w'/\G (listed.setIfInBounds i true) (upd σ i v) w'))
theorem GK {a0:Act} {T:World->World->Prop} {F:Nat->Value->World->Prop} {G:Array Bool->(Nat->Value)->World->Prop} (ho:ownB ops a0.tmps.size=true) (hF:∀j v w w',T w w'->F j v w->F j v w')
   (hstep:Each (Mg P ops a0 T F G) 0 ops.toList) {K:Act->World->Prop} {i:Nat} {o:Oper} {listed:Array Bool} {σ:Nat->Value} {w:World} (hio:ops[i]?=some o) (hl:listed.getD i true=false) (hc:AY .any ops listed)
   (hp:∀e∈o.after,Region.binds .any e=true->listed.getD e.on false=true) (hG:G listed σ w) (hF1:∀j,listed.getD j false=true->F j (σ j) w)
   (hK:∀σ' w',G (listed.setIfInBounds i true) σ' w'->(∀j,(listed.setIfInBounds i true).getD j false=true->F j (σ' j) w')->K (mid ops σ' (listed.setIfInBounds i true) a0) w'):wpOp P ops Q i K (mid ops σ listed a0) w:=by
 have hlt:i<ops.size:=(Array.getElem?_eq_some_iff.1 hio).1;have h1:=Each.get ops.toList 0 hstep i o (by simpa using hio);rw[Nat.zero_add]at h1;refine Ac.step hio (h1 listed σ w (mid ops σ listed a0) (fun j t hd hj=>GI ho hd hj) (fun t ht=>GJ ht) (Ga hl) hc hp hG hF1) ?_;rintro v w' ⟨hT,hFi,hG'⟩;have hd:o.dst=Aq ops i:=by simp[Aq,hio]
 rw[hd,show (mid ops σ listed a0).put (Aq ops i) v=mid ops (upd σ i v) (listed.setIfInBounds i true) a0 from (Dr ho hlt hl _ _ List.nodup_range (fun j hj=>List.mem_range.1 hj) (List.mem_range.2 hlt)).symm];refine hK _ _ hG' (fun j hj=>?_);by_cases hji:j=i
 · subst hji;rw[CE];exact hFi
 · rw[upd_ne σ v hji];rw[getD_set_ne false (Ne.symm hji)]at hj;exact hF j _ _ _ hT (hF1 j hj)
theorem Gb {σ:Nat->Value} {n:Nat} (a:Act):mid ops σ (Array.replicate n false) a=a:=by
 unfold mid;have:∀(js:List Nat) (a:Act),fill ops σ (Array.replicate n false) js a=a:=by
  intro js;induction js with
  |nil=>intro a;rfl
  |cons j js ih=> intro a;unfold fill;rw[if_neg (by rw[BO];exact Bool.false_ne_true),ih]
 exact this _ _
theorem AJ {id:Nat} {a0:Act} {w:World} (hm:P.follows .mixedOrders=true) (hb:FV ops=true) (ho:ownB ops a0.tmps.size=true) (T:World->World->Prop) (F:Nat->Value->World->Prop) (G:Array Bool->(Nat->Value)->World->Prop)
   (hF:∀j v w w',T w w'->F j v w->F j v w') (h0:∀σ,G (Array.replicate ops.size false) σ w.drew)
   (hstep:Each (Mg P ops a0 T F G) 0 ops.toList)
   (hend:∀(listed:Array Bool) (σ:Nat->Value) (w:World),En ops.size listed->G listed σ w->(∀j,j<ops.size->F j (σ j) w)->Q .normal (mid ops σ listed a0) w):(Code.region id ops true).wp P Q a0 w:=by
 refine CU hm hb (fun listed a w=>∃σ,a=mid ops σ listed a0/\G listed σ w/\∀j,listed.getD j false=true->F j (σ j) w) ?_ ?_ ?_
 · exact ⟨fun _=>undef,(Gb a0).symm,h0 _,fun j hj=>by rw[BO]at hj;cases hj⟩
 · rintro i o listed a w hio hs hl hc hp ⟨σ,rfl,hG,hF1⟩;exact GK ho hF hstep hio hl hc hp hG hF1 (fun σ' w' hG' hF'=>⟨σ',rfl,hG',hF'⟩)
 · rintro listed a w hs hall ⟨σ,rfl,hG,hF1⟩;exact hend listed σ w hall hG (fun j hj=>hF1 j (hall j hj))
def UL (n k:Nat):Array Bool:=Array.ofFn (n:=n) fun i=>decide (i.val<k)
def Gc (ops:Array Oper):Bool:=match ops[ops.size-1]? with
 |none=>false
 |some o=>(List.range (ops.size-1)).all fun j=>o.after.any fun e=>Region.binds .any e&&(e.on==j || match ops[e.on]? with
  |none=>false
  |some o2=>o2.after.any fun e2=>e2.on==j&&Region.binds .any e2)
theorem Er (h:Gc ops=true) {listed:Array Bool} {o:Oper} (ho:ops[ops.size-1]?=some o) (hc:AY .any ops listed) (hp:∀e∈o.after,Region.binds .any e=true->listed.getD e.on false=true):∀j,j<ops.size-1->listed.getD j false=true:=by
 intro j hj;unfold Gc at h;rw[ho]at h;have h1:=List.all_eq_true.1 h j (List.mem_range.2 hj);obtain ⟨x,hx,h2⟩:=Array.any_eq_true.1 h1;simp only[Bool.and_eq_true,Bool.or_eq_true,beq_iff_eq]at h2;have h3:=hp _ (Array.getElem_mem hx) h2.1;rcases h2.2 with h4|h4
 · rw[h4]at h3;exact h3
 · cases ho2:ops[(o.after[x]).on]? with
   |none=>rw[ho2]at h4;cases h4
   |some o2=> rw[ho2]at h4;obtain ⟨y,hy,h5⟩:=Array.any_eq_true.1 h4;simp only[Bool.and_eq_true,beq_iff_eq]at h5;have h6:=hc _ _ ho2 h3 _ (Array.getElem_mem hy) h5.2;rw[h5.1]at h6;exact h6
def JS (ops:Array Oper) (σ:Nat->Value) (v:Value) (a:Act):Act:=((List.range (ops.size-1)).foldl (fun a j=>a.put (Aq ops j) (σ j)) a).put (Aq ops (ops.size-1)) v
theorem DL {listed:Array Bool} {σ:Nat->Value} {v:Value} {a:Act} (_h:∀j,j<ops.size-1->listed.getD j false=true):JS ops σ v a=((List.range (ops.size-1)).foldl (fun a j=>a.put (Aq ops j) (σ j)) a).put (Aq ops (ops.size-1)) v:=rfl
theorem Fj {σ:Nat->Value} {n:Nat} {v:Value}:∀(js:List Nat) (a:Act),(∀j∈js,j≠n)->js.foldl (fun a j=>a.put (Aq ops j) (upd σ n v j)) a=js.foldl (fun a j=>a.put (Aq ops j) (σ j)) a
 |[],_,_=>rfl
 |j::js,a,h=>by
  rw[List.foldl_cons,List.foldl_cons,upd_ne σ v (h j (List.mem_cons_self ..))];exact Fj js _ (fun x hx=>h x (List.mem_cons_of_mem _ hx))
theorem NC {σ:Nat->Value} {v:Value} {a:Act} (h:0<ops.size):(List.range ops.size).foldl (fun a j=>a.put (Aq ops j) (upd σ (ops.size-1) v j)) a=JS ops σ v a:=by obtain ⟨m,hm⟩:∃m,ops.size=m+1:=⟨ops.size-1,by omega⟩;unfold JS;have hf:=Fj (ops:=ops) (σ:=σ) (n:=m) (v:=v) (List.range m) a (fun j hj=>by have:=List.mem_range.1 hj;omega);rw[hm,List.range_succ,List.foldl_append,Nat.add_sub_cancel,hf];show Act.put _ _ (upd σ m v m)=_;rw[CE]
def Mh (P:Program) (ops:Array Oper) (a0:Act) (F:Nat->Value->World->Prop) (G:Array Bool->(Nat->Value)->World->Prop) (R:Act->World->Prop) (o:Oper):Prop:=
 ∀(listed:Array Bool) (σ:Nat->Value) (w:World) (a:Act),(∀j,j<ops.size-1->listed.getD j false=true)->(∀j t,Aq ops j=some t->j<ops.size-1->a.tmps.getD t undef=σ j)->(∀t,(∀j,Aq ops j=some t->j=ops.size-1)->a.tmps.getD t undef=a0.tmps.getD t undef) ->
  G listed σ w->(∀j,j<ops.size-1->F j (σ j) w)->Ac ops a o w (fun v w'=>R (JS ops σ v a0) w') (Does P a o w (fun v w'=>R (JS ops σ v a0) w'))
def Es (R:Nat->Oper->Prop):Nat->List Oper->Prop
 |_,[]=>True
 |_,[_]=>True
 |i,o::p::os=>R i o/\Es R (i+1) (p::os)
theorem Es.get {R:Nat->Oper->Prop}:∀(os:List Oper) (k:Nat),Es R k os->∀i o,i<os.length-1->os[i]?=some o->R (k+i) o
 |[],_,_,i,o,hi,h=>by simp at h
 |[x],_,_,i,o,hi,h=>by simp at hi
 |x::y::os,k,h,i,o,hi,ho=>by
  cases i with
  |zero=>simp at ho;subst ho;exact h.1
  |succ i=> have:=Es.get (y::os) (k+1) h.2 i o (by simp at hi ⊢;omega) (by simpa using ho);rw[show k+(i+1)=k+1+i by omega];exact this
def Mi (P:Program) (ops:Array Oper) (a0:Act) (T:World->World->Prop) (F:Nat->Value->World->Prop) (G:Array Bool->(Nat->Value)->World->Prop) (i:Nat) (o:Oper):Prop:=
 ∀(listed:Array Bool) (σ:Nat->Value) (w:World) (a:Act),(∀j t,Aq ops j=some t->listed.getD j false=true->a.tmps.getD t undef=σ j)->(∀t,(∀j,Aq ops j=some t->listed.getD j false=false)->a.tmps.getD t undef=a0.tmps.getD t undef) ->
  listed.getD i false=false->listed.getD (ops.size-1) false=false->listed.size=ops.size->AY .any ops listed->(∀e∈o.after,Region.binds .any e=true->listed.getD e.on false=true)->G listed σ w->(∀j,listed.getD j false=true->F j (σ j) w) ->
  Ac ops a o w (fun v w'=>T w w'/\F i v w'/\G (listed.setIfInBounds i true) (upd σ i v) w') (Does P a o w (fun v w'=>T w w'/\F i v w'/\G (listed.setIfInBounds i true) (upd σ i v) w'))
theorem GL {a0:Act} {T:World->World->Prop} {F:Nat->Value->World->Prop} {G:Array Bool->(Nat->Value)->World->Prop} {R:Act->World->Prop} (ho:ownB ops a0.tmps.size=true) (hla:Gc ops=true) (hF:∀j v w w',T w w'->F j v w->F j v w')
   (hstep:Es (Mi P ops a0 T F G) 0 ops.toList) (hlast:∀o,ops[ops.size-1]?=some o->Mh P ops a0 F G R o) {K:Act->World->Prop} {i:Nat} {o:Oper} {listed:Array Bool} {σ:Nat->Value} {w:World} (hio:ops[i]?=some o) (hs:listed.size=ops.size) (hl:listed.getD i true=false) (hc:AY .any ops listed)
   (hp:∀e∈o.after,Region.binds .any e=true->listed.getD e.on false=true) (hun:listed.getD (ops.size-1) false=false) (hG:G listed σ w) (hF1:∀j,listed.getD j false=true->F j (σ j) w)
   (hK:∀σ' w',i≠ops.size-1->G (listed.setIfInBounds i true) σ' w'->(∀j,(listed.setIfInBounds i true).getD j false=true->F j (σ' j) w')->K (mid ops σ' (listed.setIfInBounds i true) a0) w')
   (hR:∀a w',i=ops.size-1->R a w'->K a w'):wpOp P ops Q i K (mid ops σ listed a0) w:=by
 have hlt:i<ops.size:=(Array.getElem?_eq_some_iff.1 hio).1;have hd:o.dst=Aq ops i:=by simp[Aq,hio]
 by_cases hi:i=ops.size-1
 · subst hi;have hall:=Er hla hio hc hp;refine Ac.step hio (hlast o hio listed σ w (mid ops σ listed a0) hall (fun j t hd hj=>GI ho hd (hall j hj)) (fun t ht=>GJ (fun j hj=>by rw[ht j hj];exact hun)) hG (fun j hj=>hF1 j (hall j hj))) ?_;intro v w' h
   rw[hd,show (mid ops σ listed a0).put (Aq ops (ops.size-1)) v=mid ops (upd σ (ops.size-1) v) (listed.setIfInBounds (ops.size-1) true) a0 from (Dr ho hlt hl _ _ List.nodup_range (fun j hj=>List.mem_range.1 hj) (List.mem_range.2 hlt)).symm];refine hR _ _ rfl ?_;rw[AZ (fun j hj=>by
     by_cases he:j=ops.size-1
     · subst he;simp[hs,hlt]
     · rw[getD_set_ne false (Ne.symm he)];exact hall j (by omega)),NC (by omega)]
   exact h
 · have h1:=Es.get ops.toList 0 hstep i o (by simp;omega) (by simpa using hio);rw[Nat.zero_add]at h1;refine Ac.step hio (h1 listed σ w (mid ops σ listed a0) (fun j t hd hj=>GI ho hd hj) (fun t ht=>GJ ht) (Ga hl) hun hs hc hp hG hF1) ?_;rintro v w' ⟨hT,hFi,hG'⟩;rw[hd,show (mid ops σ listed a0).put (Aq ops i) v=mid ops (upd σ i v) (listed.setIfInBounds i true) a0 from (Dr ho hlt hl _ _ List.nodup_range (fun j hj=>List.mem_range.1 hj) (List.mem_range.2 hlt)).symm]
   refine hK _ _ hi hG' (fun j hj=>?_);by_cases hji:j=i
   · subst hji;rw[CE];exact hFi
   · rw[upd_ne σ v hji];rw[getD_set_ne false (Ne.symm hji)]at hj;exact hF j _ _ _ hT (hF1 j hj)
theorem Cx {id:Nat} {a0:Act} {w:World} (hm:P.follows .mixedOrders=true) (hb:FV ops=true) (ho:ownB ops a0.tmps.size=true) (hla:Gc ops=true) (T:World->World->Prop) (F:Nat->Value->World->Prop) (G:Array Bool->(Nat->Value)->World->Prop)
   (hF:∀j v w w',T w w'->F j v w->F j v w') (h0:∀σ,G (Array.replicate ops.size false) σ w.drew) (hstep:Es (Mi P ops a0 T F G) 0 ops.toList) (hlast:∀o,ops[ops.size-1]?=some o->Mh P ops a0 F G (Q .normal) o):(Code.region id ops true).wp P Q a0 w:=by
 have hpos:0<ops.size:=by
   rcases Nat.eq_zero_or_pos ops.size with h|h
   · unfold Gc at hla;rw[Array.getElem?_eq_none (by omega)]at hla;cases hla
   · exact h
 refine CU hm hb (fun listed a w=>(listed.getD (ops.size-1) false=false/\∃σ,a=mid ops σ listed a0/\G listed σ w/\∀j,listed.getD j false=true->F j (σ j) w)\/(listed.getD (ops.size-1) false=true/\Q .normal a w)) ?_ ?_ ?_
 · exact .inl ⟨BO _ _,fun _=>undef,(Gb a0).symm,h0 _,fun j hj=>by rw[BO]at hj;cases hj⟩
 · rintro i o listed a w hio hs hl hc hp (⟨hun,σ,rfl,hG,hF1⟩|⟨hon,hQ⟩)
   · refine GL ho hla hF hstep hlast hio hs hl hc hp hun hG hF1 (fun σ' w' hne hG' hF'=>.inl ⟨?_,σ',rfl,hG',hF'⟩) (fun a w' he h=>.inr ⟨?_,h⟩)
     · rw[getD_set_ne false hne];exact hun
     · subst he;have hq:ops.size-1<ops.size:=(by omega);simp[hs,hq]
   · exfalso;have hlt:i<ops.size:=(Array.getElem?_eq_some_iff.1 hio).1;have hlo:ops[ops.size-1]?=some ops[ops.size-1]:=Array.getElem?_eq_getElem (by omega);by_cases hi:i=ops.size-1
     · subst hi;exact (DF hon hl).elim
     · have:=Er hla hlo hc (hc _ _ hlo hon) i (by omega);exact (DF this hl).elim
 · rintro listed a w hs hall (⟨hun,-⟩|⟨-,hQ⟩)
   · rw[hall _ (by omega)]at hun;cases hun
   · exact hQ
end
section
variable {ops:Array Oper}
theorem Re {t:Tmp} (h:NB ops t=true):∀j,Aq ops j=some t->j=ops.size-1:=by
 intro j hj;have h1:=Af (listed:=Array.replicate ops.size true) h j hj;have hlt:j<ops.size:=by
  rcases Nat.lt_or_ge j ops.size with h2|h2
  · exact h2
  · simp[Aq,Array.getElem?_eq_none h2]at hj
 simp[hlt]at h1
theorem Ac.some {a:Act} {o:Oper} {w:World} {R:Value->World->Prop} {D:Prop} {g:Nat} {want b:Bool} {d:Tmp} (h:o.guard=Option.some (g,want)) (hd:Aq ops g=Option.some d) (hv:a.tmps.getD d undef=.bool b) (hD:(b=want/\D)\/(b≠want/\R undef w)):Ac ops a o w R D:=by unfold Ac;rw[h];exact ⟨d,b,hd,hv,fun he=>hD.elim (·.2) (fun k=>absurd he k.1),fun he=>hD.elim (fun k=>absurd k.1 he) (·.2)⟩
end
def GA (app:Nat) (W0:World) (R:Value->World->Prop) (listed:Array Bool) (σ:Nat->Value) (w:World):Prop:=
 (listed.getD app false=false->Below W0.heap.size W0 w)/\(listed.getD app false=true->R (σ app) w)
section
variable {app i:Nat} {W0 w w':World} {R:Value->World->Prop} {listed:Array Bool} {σ:Nat->Value} {v:Value}
theorem GA.start (n:Nat) (h:Below W0.heap.size W0 w):GA app W0 R (Array.replicate n false) σ w:=⟨fun _=>h,fun h=>by rw[BO]at h;cases h⟩
theorem GA.same (h:GA app W0 R listed σ w) (hi:i≠app):GA app W0 R (listed.setIfInBounds i true) (upd σ i v) w:=by unfold GA;rw[getD_set_ne false hi,upd_ne σ v (Ne.symm hi)];exact h
theorem GA.call (h:GA app W0 R listed σ w) (hi:i≠app) (hun:listed.getD app false=false) (hb:Below w.heap.size w w'):GA app W0 R (listed.setIfInBounds i true) (upd σ i v) w':=by unfold GA;rw[getD_set_ne false hi,hun];exact ⟨fun _=>(h.1 hun).next hb,fun h=>by cases h⟩
theorem GA.on_ (hl:listed.getD app false=false) (hs:app<listed.size) (hR:R v w'):GA app W0 R (listed.setIfInBounds app true) (upd σ app v) w':=by unfold GA;rw[CE];exact ⟨fun h=>by simp[hs]at h,fun _=>hR⟩
end
def Tg (row:Option Nat) (w w':World):Prop:=w.grownBy w' row/\Kp w w'
theorem Tg.refl (row:Option Nat) (w:World):Tg row w w:=⟨⟨rfl,rfl,rfl,Nat.le_refl _,fun _ _ _=>rfl⟩,Kp.refl w⟩
theorem Tg.of_below {row:Option Nat} {w w':World} (h:Below w.heap.size w w'):Tg row w w':=⟨⟨h.os,h.tape,h.output,h.size,fun k hk _=>h.block k hk⟩,Kp.of_below h⟩
end
end Go.Proofs.YtgohmojcopajoaaGreatDoor.Nu
namespace Go.Proofs.YtgohmojcopajoaaGreatDoor.Tm
section
def Bo:List (Int×Int)->Int->Int
 |[],_=>0
 |(u,c)::ps,v=>(if u=v/\0<=v then c else 0)+Bo ps v
theorem Ge (v:Int):Bo [] v=0:=rfl
theorem Df (ps qs:List (Int×Int)) (v:Int):Bo (ps++qs) v=Bo ps v+Bo qs v:=by
 induction ps with
 |nil=>rw[List.nil_append,Ge,Int.zero_add]
 |cons p ps ih=> obtain ⟨u,c⟩:=p;rw[List.cons_append,Bo,Bo,ih,Int.add_assoc]
theorem PU {ps qs:List (Int×Int)} (h:ps.Perm qs) (v:Int):Bo ps v=Bo qs v:=by
 induction h with
 |nil=>rfl
 |cons p _ ih=>obtain ⟨u,c⟩:=p;rw[Bo,Bo,ih]
 |swap p q l=>
  obtain ⟨u,c⟩:=p;obtain ⟨u',c'⟩:=q;simp only[Bo];omega
 |trans _ _ ih1 ih2=>rw[ih1,ih2]
theorem GN (n:Int) (ps:List (Int×Int)) (v:Int):Bo (ps.map fun p=>(p.1,n*p.2)) v=n*Bo ps v:=by
 induction ps with
 |nil=>simp[Bo]
 |cons p ps ih=> obtain ⟨u,c⟩:=p;simp only[List.map_cons,Bo,ih,Int.mul_add];split<;>simp
def Co:Int->List (Int×Int)->Prop
 |_,[]=>True
 |b,(u,c)::ps=>b<u/\c≠0/\Co u ps
def Hq (ps:List (Int×Int)):Prop:=Co (-1) ps
theorem Co.mono {b b':Int} {ps:List (Int×Int)} (h:Co b ps) (hb:b'<=b):Co b' ps:=by
 cases ps with
 |nil=>trivial
 |cons p ps=> obtain ⟨u,c⟩:=p;exact ⟨by have:=h.1;omega,h.2⟩
theorem Co.low {b:Int} {ps:List (Int×Int)} (h:Co b ps) (v:Int) (hv:v<=b):Bo ps v=0:=by
 induction ps generalizing b with
 |nil=>rfl
 |cons p ps ih=> obtain ⟨u,c⟩:=p;obtain ⟨h1,h2,h3⟩:=h;rw[Bo,if_neg (by omega),ih h3 (by omega)];rfl
theorem Co.head {b u c:Int} {ps:List (Int×Int)} (h:Co b ((u,c)::ps)) (hu:0<=u):Bo ((u,c)::ps) u=c:=by rw[Bo,if_pos ⟨rfl,hu⟩,h.2.2.low u (Int.le_refl _),Int.add_zero]
theorem MH {b b':Int} {ps qs:List (Int×Int)} (hb:-1<=b) (hb':-1<=b') (h:Co b ps) (h':Co b' qs) (he:∀v,Bo ps v=Bo qs v):ps=qs:=by
 induction ps generalizing b b' qs with
 |nil=>
  cases qs with
  |nil=>rfl
  |cons q qs=>
   obtain ⟨u,c⟩:=q;have h1:=he u;rw[h'.head (by have:=h'.1;omega),Ge]at h1;exact absurd h1.symm h'.2.1
 |cons p ps ih=>
  obtain ⟨u,c⟩:=p;have hu:0<=u:=by have:=h.1;omega
  cases qs with
  |nil=>
   have h1:=he u;rw[h.head hu,Ge]at h1;exact absurd h1 h.2.1
  |cons q qs=>
   obtain ⟨u',c'⟩:=q;have hu':0<=u':=(by have:=h'.1;omega);have huu:u=u':=by
    rcases Int.lt_trichotomy u u' with h1|h1|h1
    · have h2:=he u;rw[h.head hu,Bo,if_neg (by omega),h'.2.2.low u (by omega)]at h2;exact absurd h2 h.2.1
    · exact h1
    · have h2:=he u';rw[h'.head hu',Bo,if_neg (by omega),h.2.2.low u' (by omega)]at h2;exact absurd h2.symm h'.2.1
   subst huu;have hcc:c=c':=by have h2:=he u;rw[h.head hu,h'.head hu]at h2;exact h2
   subst hcc;rw[ih (by omega) (by omega) h.2.2 h'.2.2 (fun v=>by
    have h2:=he v;rw[Bo,Bo]at h2;omega)]
theorem NP {ps qs:List (Int×Int)} (h:Hq ps) (h':Hq qs) (he:∀v,Bo ps v=Bo qs v):ps=qs:=MH (Int.le_refl _) (Int.le_refl _) h h' he
def RE (u c:Int):List (Int×Int)->List (Int×Int)
 |[]=>if c=0 then [] else [(u,c)]
 |(v,d)::ps=>if u<v then (if c=0 then (v,d)::ps else (u,c)::(v,d)::ps) else if u=v then (if c+d=0 then ps else (v,c+d)::ps) else (v,d)::RE u c ps
theorem NQ {b u c:Int} {ps:List (Int×Int)} (h:Co b ps) (hu:b<u):Co b (RE u c ps):=by
 induction ps generalizing b with
 |nil=>
  unfold RE;split
  · trivial
  · exact ⟨hu,by assumption,trivial⟩
 |cons p ps ih=>
  obtain ⟨v,d⟩:=p;obtain ⟨h1,h2,h3⟩:=h;unfold RE;split
  · rename_i hlt
    split
    · exact ⟨h1,h2,h3⟩
    · exact ⟨hu,by assumption,hlt,h2,h3⟩
  · split
    · split
      · exact h3.mono (by omega)
      · exact ⟨h1,by assumption,h3⟩
    · exact ⟨h1,h2,ih h3 (by omega)⟩
theorem RF (u c:Int) (ps:List (Int×Int)) (hu:0<=u) (w:Int):Bo (RE u c ps) w=(if u=w/\0<=w then c else 0)+Bo ps w:=by
 induction ps with
 |nil=>
  unfold RE;split
  · rename_i h;rw[h];simp[Bo]
  · rfl
 |cons p ps ih=>
  obtain ⟨v,d⟩:=p;unfold RE;split
  · split
    · rename_i h;rw[h];simp
    · rfl
  · split
    · rename_i h;subst h
      split
      · rename_i h0
        rw[Bo];split
        · omega
        · omega
      · rw[Bo,Bo];split<;>omega
    · rw[Bo,Bo,ih];omega
def norm:List (Int×Int)->List (Int×Int)
 |[]=>[]
 |(u,c)::ps=>if u<0 then norm ps else RE u c (norm ps)
theorem GO (ps:List (Int×Int)):Hq (norm ps):=by
 induction ps with
 |nil=>trivial
 |cons p ps ih=>
  obtain ⟨u,c⟩:=p;unfold norm;split
  · exact ih
  · exact NQ ih (by omega)
theorem Gu (ps:List (Int×Int)) (v:Int):Bo (norm ps) v=Bo ps v:=by
 induction ps with
 |nil=>rfl
 |cons p ps ih=>
  obtain ⟨u,c⟩:=p;unfold norm;split
  · rw[Bo,ih,if_neg (by omega),Int.zero_add]
  · rw[RF _ _ _ (by omega),Bo,ih]
theorem Hr {ps qs:List (Int×Int)} (h:Hq qs) (he:∀v,Bo qs v=Bo ps v):qs=norm ps:=
 NP h (GO ps) (fun v=>by rw[he,Gu])
theorem PW {ps qs:List (Int×Int)} (he:∀v,Bo ps v=Bo qs v):norm ps=norm qs:=Hr (GO ps) (fun v=>by rw[Gu,he])
theorem Tz {ps:List (Int×Int)} (h:Hq ps):norm ps=ps:=(Hr h (fun _=>rfl)).symm
def val (vals:List Int):List (Int×Int)->Int
 |[]=>0
 |(u,c)::ps=>(if 0<=u then c*vals.getD u.toNat 0 else 0)+val vals ps
theorem val_append (vals:List Int) (ps qs:List (Int×Int)):val vals (ps++qs)=val vals ps+val vals qs:=by
 induction ps with
 |nil=>simp[val]
 |cons p ps ih=>obtain ⟨u,c⟩:=p;rw[List.cons_append,val,val,ih,Int.add_assoc]
end
end Go.Proofs.YtgohmojcopajoaaGreatDoor.Tm
namespace Go.Proofs.YtgohmojcopajoaaGreatDoor.Nu
section
open Go.RowKit
structure PV where
 v:Int
 s:Bool
 B:Option Addr
 m:Nat
 d:Nat
 Z:Int
def PV.num (p:PV):Value:=.agg #[.bool p.s,.slice p.B p.m p.d]
def PV.cells (p:PV):List Value:=[.int .i64 p.v,.bool p.s,.slice p.B p.m p.d]
def PV.agg (p:PV):Value:=.agg #[.int .i64 p.v,.bool p.s,.slice p.B p.m p.d]
def PV.part (p:PV):Int×Int:=(p.v,p.Z)
def flat (ps:List PV):List Value:=(ps.map PV.cells).flatten
theorem DI (p:PV) (ps:List PV):flat (p::ps)=p.cells++flat ps:=rfl
theorem ID (ps qs:List PV):flat (ps++qs)=flat ps++flat qs:=by simp[flat]
theorem Dg (ps:List PV):(flat ps).length=3*ps.length:=by
 induction ps with
 |nil=>rfl
 |cons p ps ih=>rw[DI,List.length_append,ih,List.length_cons];show 3+_=_;omega
theorem flat_get (ps:List PV) (i:Nat) (p:PV) (h:ps[i]?=some p):(flat ps)[3*i]?=some (.int .i64 p.v)/\(flat ps)[3*i+1]?=some (.bool p.s)/\(flat ps)[3*i+2]?=some (.slice p.B p.m p.d):=by
 induction ps generalizing i with
 |nil=>simp at h
 |cons q ps ih=>
  rw[DI];cases i with
  |zero=>
   simp at h;subst h;exact ⟨rfl,rfl,rfl⟩
  |succ i=>
   have h2:=ih i (by simpa using h);have hl:q.cells.length=3:=rfl;have e0:3*(i+1)=q.cells.length+3*i:=(by rw[hl];omega);have e1:3*(i+1)+1=q.cells.length+(3*i+1):=(by rw[hl];omega);have e2:3*(i+1)+2=q.cells.length+(3*i+2):=(by rw[hl];omega);rw[e0,show q.cells.length+3*i+1=q.cells.length+(3*i+1) by omega,show q.cells.length+3*i+2=q.cells.length+(3*i+2) by omega,List.getElem?_append_right (by omega),List.getElem?_append_right (by omega),List.getElem?_append_right (by omega)]
   simpa using h2
theorem PX (ps:List PV) (k:Nat):flat (ps.take k)=(flat ps).take (3*k):=by
 induction ps generalizing k with
 |nil=>simp[flat]
 |cons p ps ih=>
  cases k with
  |zero=>simp[flat]
  |succ k=> rw[List.take_succ_cons,DI,DI,ih];have hl:p.cells.length=3:=rfl;rw[show 3*(k+1)=p.cells.length+3*k by rw[hl];omega,List.take_length_add_append]
def Ba (w:World) (A:Option Addr) (n:Nat) (ps:List PV) (k:Nat):Prop:=
 ps.length=n/\(0<n->∃b o,A=some ⟨b,o,none⟩/\∀j u,(flat ps)[j]?=some u->w.cell? ⟨b,o+j,none⟩=some u)/\∀p∈ps,EP w p.num p.Z k
section
variable {w w':World} {A:Option Addr} {n k:Nat} {ps:List PV}
theorem Ba.nil (w:World) (A:Option Addr) (k:Nat):Ba w A 0 [] k:=⟨rfl,fun h=>absurd h (by omega),fun p hp=>by cases hp⟩
theorem Ba.below (h:Ba w A n ps k) (hb:Below w.heap.size w w'):Ba w' A n ps k:=by refine ⟨h.1,fun hn=>?_,fun p hp=>(h.2.2 p hp).below hb⟩;obtain ⟨b,o,e,hc⟩:=h.2.1 hn;refine ⟨b,o,e,fun j u hu=>?_⟩;have h1:=hc j u hu;have hlt:=World.block_lt_of_cell? w _ h1;exact (World.cell?_of_block (w:=w) (a:=⟨b,o+j,none⟩) (hb.block b hlt)).trans h1
theorem Ba.mono {j:Nat} (h:Ba w A n ps k) (hj:k<=j):Ba w A n ps j:=⟨h.1,h.2.1,fun p hp=>(h.2.2 p hp).mono hj⟩
theorem Ba.at_ {i:Nat} (h:Ba w A n ps k) (hi:i<n):∃b o p,A=some ⟨b,o,none⟩/\ps[i]?=some p/\w.cell? ⟨b,o+3*i,none⟩=some (.int .i64 p.v)/\w.cell? ⟨b,o+(3*i+1),none⟩=some (.bool p.s)/\w.cell? ⟨b,o+(3*i+2),none⟩=some (.slice p.B p.m p.d)/\EP w p.num p.Z k:=by
 obtain ⟨b,o,e,hc⟩:=h.2.1 (by omega);have hl:i<ps.length:=by rw[h.1];exact hi
 obtain ⟨g0,g1,g2⟩:=flat_get ps i ps[i] (List.getElem?_eq_getElem hl);exact ⟨b,o,ps[i],e,List.getElem?_eq_getElem hl,hc _ _ g0,hc _ _ g1,hc _ _ g2,h.2.2 _ (List.getElem_mem hl)⟩
end
def DO (ps:List PV):List (Int×Int):=ps.map PV.part
theorem Cp (ps qs:List PV):DO (ps++qs)=DO ps++DO qs:=by simp[DO]
theorem JW (ps:List PV) (i:Nat) (p:PV) (h:ps[i]?=some p):DO (ps.take (i+1))=DO (ps.take i)++[p.part]:=by unfold DO;rw[List.take_add_one,h,List.map_append];rfl
def WT (w:World) (v:Value) (ps:List PV) (K:Int) (k:Nat):Prop:=∃A n c s B m d,v=.agg #[.slice A n c,.bool s,.slice B m d]/\Ba w A n ps k/\n<=c/\c<=9223372036854775807/\EP w (.agg #[.bool s,.slice B m d]) K k
structure IV where
 s:Bool
 B:Option Addr
 m:Nat
 d:Nat
 Z:Int
def IV.num (p:IV):Value:=.agg #[.bool p.s,.slice p.B p.m p.d]
def IV.cells (p:IV):List Value:=[.bool p.s,.slice p.B p.m p.d]
def VW (ps:List IV):List Value:=(ps.map IV.cells).flatten
def WU (w:World) (A:Option Addr) (n:Nat) (vs:List IV) (k:Nat):Prop:=
 vs.length=n/\(0<n->∃b o,A=some ⟨b,o,none⟩/\∀j u,(VW vs)[j]?=some u->w.cell? ⟨b,o+j,none⟩=some u)/\∀p∈vs,EP w p.num p.Z k
def nums (vs:List IV):List Int:=vs.map IV.Z
def XL (T:TypeId) (w:World) (base:Nat) (v:Value) (ps:List PV) (k:Nat):Prop:=w.ownsRow base T 3 v ps.length (flat ps)/\∀p∈ps,EP w p.num p.Z k
section
variable {T:TypeId} {w w':World} {base k:Nat} {v:Value} {ps:List PV}
end
end
end Go.Proofs.YtgohmojcopajoaaGreatDoor.Nu
namespace Go.Proofs.YtgohmojcopajoaaGreatDoor.Tm
section
def vars (ps:List (Int×Int)):List Int:=(norm ps).map Prod.fst
def Up:Int->List Int->Prop
 |_,[]=>True
 |b,v::vs=>b<v/\Up v vs
theorem Up.gt {b:Int} {vs:List Int} (h:Up b vs):∀v∈vs,b<v:=by
 induction vs generalizing b with
 |nil=>intro v hv;cases hv
 |cons u vs ih=>
  intro v hv;rcases List.mem_cons.1 hv with rfl|hv
  · exact h.1
  · have:=ih h.2 v hv;have:=h.1;omega
def VX (v:Int):List Int->List Int
 |[]=>[v]
 |u::us=>if v<u then v::u::us else if v=u then u::us else u::VX v us
def XM (ps:List (Int×Int)):List (Int×Int)->List Int->List Int
 |[],acc=>acc
 |(u,_)::qs,acc=>XM ps qs (if Bo ps u=0 then acc else VX u acc)
def push (r:List (Int×Int)) (v c:Int):List (Int×Int):=
 if v<0 then r else match r.getLast? with
  |none=>[(v,c)]
  |some (u,d)=>if u=v then r.dropLast++[(u,d+c)] else r++[(v,c)]
def DV:List (Int×Int)->List (Int×Int)->List (Int×Int)
 |r,[]=>r
 |r,(v,c)::ps=>DV (push r v c) ps
theorem NR (r ps:List (Int×Int)) (v c:Int):DV r (ps++[(v,c)])=push (DV r ps) v c:=by
 induction ps generalizing r with
 |nil=>rfl
 |cons p ps ih=>obtain ⟨u,d⟩:=p;exact ih _
theorem PY (r:List (Int×Int)) (v c w:Int):Bo (push r v c) w=Bo r w+Bo [(v,c)] w:=by
 unfold push;split
 · rename_i h
   rw[show Bo [(v,c)] w=0 by simp[Bo];omega,Int.add_zero]
 · split
   · rename_i h
     rw[List.getLast?_eq_none_iff.1 h,Ge,Int.zero_add]
   · rename_i u d h
     obtain ⟨t,rfl⟩:∃t,r=t++[(u,d)]:=List.getLast?_eq_some_iff.1 h;split
     · rename_i hu;subst hu
       rw[List.dropLast_concat,Df,Df];simp only[Bo];split<;>omega
     · rw[Df]
theorem NS (r ps:List (Int×Int)) (w:Int):Bo (DV r ps) w=Bo r w+Bo ps w:=by
 induction ps generalizing r with
 |nil=>simp[DV,Bo]
 |cons p ps ih=> obtain ⟨v,c⟩:=p;rw[DV,ih,PY,show ((v,c)::ps)=[(v,c)]++ps from rfl,Df];omega
def Vh:List (Int×Int)->Int->Prop
 |r,b=>Up (-1) (r.map Prod.fst)/\∀p∈r,p.1<=b
theorem Pj {b v:Int}:∀{us:List Int},Up b us->(∀u∈us,u<v)->b<v->Up b (us++[v])
 |[],_,_,hb=>⟨hb,trivial⟩
 |u::us,h,hv,_=>⟨h.1,Pj h.2 (fun x hx=>hv x (List.mem_cons_of_mem _ hx)) (hv u (List.mem_cons_self ..))⟩
theorem PZ {r:List (Int×Int)} {b v c:Int} (h:Vh r b) (hv:b<=v):Vh (push r v c) v:=by
 unfold push;split
 · exact ⟨h.1,fun p hp=>by have:=h.2 p hp;omega⟩
 · split
   · exact ⟨⟨by omega,trivial⟩,fun p hp=>by simp at hp;subst hp;exact Int.le_refl _⟩
   · rename_i u d hl
     obtain ⟨t,rfl⟩:∃t,r=t++[(u,d)]:=List.getLast?_eq_some_iff.1 hl;split
     · rename_i hu;subst hu
       refine ⟨?_,fun p hp=>?_⟩
       · have:=h.1;simpa using this
       · rw[List.dropLast_concat]at hp;rcases List.mem_append.1 hp with hp|hp
         · have:=h.2 p (List.mem_append_left _ hp);omega
         · simp at hp;subst hp;exact Int.le_refl _
     · rename_i hu
       refine ⟨?_,fun p hp=>?_⟩
       · rw[List.map_append];refine Pj h.1 (fun x hx=>?_) (by omega);obtain ⟨p,hp,rfl⟩:=List.mem_map.1 hx;have h1:=h.2 p hp;have h2:=h.2 (u,d) (by simp);show p.1<v;rcases Int.lt_or_le p.1 v with h3|h3
         · exact h3
         · exfalso;have h4:p.1=v:=(by omega);have h6:b=v:=(by omega);have h7:u<v:=(by have:u<=b:=h2;omega);have h8:=h.1;rw[List.map_append]at h8;have h9:∀(us:List Int) (b0:Int),Up b0 (us++[u])->∀x∈us,x<u:=by
             intro us;induction us with
             |nil=>intro _ _ x hx;cases hx
             |cons y us ih=>
              intro b0 hU x hx;rcases List.mem_cons.1 hx with rfl|hx
              · exact hU.2.gt u (by simp)
              · exact ih y hU.2 x hx
           rcases List.mem_append.1 hp with hp|hp
           · have:=h9 _ _ h8 p.1 (List.mem_map_of_mem hp);omega
           · simp at hp;subst hp;omega
       · rcases List.mem_append.1 hp with hp|hp
         · have:=h.2 p hp;omega
         · simp at hp;subst hp;exact Int.le_refl _
def Jx:Int->List (Int×Int)->Prop
 |_,[]=>True
 |b,(v,_)::ps=>b<=v/\Jx v ps
theorem Jy {r:List (Int×Int)} {b:Int}:∀{ps:List (Int×Int)},Vh r b->Jx b ps->Up (-1) ((DV r ps).map Prod.fst)
 |[],h,_=>h.1
 |(v,c)::ps,h,hs=>by
  rw[DV];exact Jy (PZ h hs.1) hs.2
def GP (ps:List (Int×Int)):List (Int×Int):=ps.filter fun p=>decide (p.2≠0)
theorem MI (ps:List (Int×Int)) (v:Int):Bo (GP ps) v=Bo ps v:=by
 induction ps with
 |nil=>rfl
 |cons p ps ih=>
  obtain ⟨u,c⟩:=p;unfold GP at *;rw[List.filter_cons];split
  · rw[Bo,Bo,ih]
  · rename_i h
    have h0:c=0:=(by simpa using h);rw[Bo,ih,h0];simp
theorem JX {b:Int} {ps:List (Int×Int)} (h:Up b (ps.map Prod.fst)):Co b (GP ps):=by
 induction ps generalizing b with
 |nil=>trivial
 |cons p ps ih=>
  obtain ⟨u,c⟩:=p;unfold GP at *;rw[List.filter_cons];split
  · rename_i h0
    exact ⟨h.1,by simpa using h0,ih h.2⟩
  · exact (ih h.2).mono (by have:=h.1;omega)
theorem Vi {ps qs:List (Int×Int)} {b:Int} (hp:qs.Perm ps) (hs:Jx b qs):GP (DV [] qs)=norm ps:=by refine Hr (JX (Jy (b:=b) ⟨trivial,fun p hp=>by cases hp⟩ hs)) (fun v=>?_);rw[MI,NS,Ge,Int.zero_add,PU hp]
def WV (f:Nat->Int):Nat->Int
 |0=>0
 |n+1=>WV f n+f n
def FP (a b:Int):Int:=if a<b then -1 else if b<a then 1 else 0
def cmpL:List (Int×Int)->List (Int×Int)->Int
 |[],[]=>0
 |[],_::_=>-1
 |_::_,[]=>1
 |(u,c)::ps,(v,d)::qs=>if FP u v≠0 then FP u v else if FP c d≠0 then FP c d else cmpL ps qs
def XO (a b:Int):Int:=if a≠0 then a else b
def XS (ps qs:List (Int×Int)) (K M:Int):Int:=XO (cmpL (norm ps) (norm qs)) (FP K M)
theorem Lo {n:Int} (hn:n≠0) {b:Int} {ps:List (Int×Int)} (h:Co b ps):Co b (ps.map fun p=>(p.1,n*p.2)):=by
 induction ps generalizing b with
 |nil=>trivial
 |cons p ps ih=> obtain ⟨u,c⟩:=p;exact ⟨h.1,Int.mul_ne_zero hn h.2.1,ih h.2.2⟩
theorem GQ {n:Int} (hn:n≠0) (ps:List (Int×Int)):norm (ps.map fun p=>(p.1,n*p.2))=(norm ps).map fun p=>(p.1,n*p.2):=
 (Hr (Lo hn (GO ps)) (fun v=>by rw[GN,GN,Gu])).symm
theorem Qa (ps:List (Int×Int)) (h:∀v,Bo ps v=0):norm ps=[]:=(Hr (qs:=[]) trivial (fun v=>(h v).symm)).symm
theorem Hs {ps ps' qs qs':List (Int×Int)} (h:∀v,Bo ps v=Bo ps' v) (h':∀v,Bo qs v=Bo qs' v):norm (ps++qs)=norm (ps'++qs'):=
 PW (fun v=>by rw[Df,Df,h,h'])
end
end Go.Proofs.YtgohmojcopajoaaGreatDoor.Tm
