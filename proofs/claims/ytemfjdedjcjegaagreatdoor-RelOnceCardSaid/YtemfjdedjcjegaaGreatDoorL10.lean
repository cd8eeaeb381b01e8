/- Texts of one seat, put together: Region2 RefM RefZ TermMath PartMem. -/
import Derived.Test.YtemfjdedjcjegaaGreatDoorL09
import Derived.Test.YtemfjdedjcjegaaGreatDoorL04
import Derived.Test.YtemfjdedjcjegaaGreatDoorL08
import Derived.Test.YtemfjdedjcjegaaGreatDoorL03
import Derived.Test.YtemfjdedjcjegaaGreatDoorL01
set_option linter.unusedVariables false
set_option linter.unusedSimpArgs false
set_option maxRecDepth 100000
set_option maxHeartbeats 16000000
namespace Go.Proofs.YtemfjdedjcjegaaGreatDoor
section
open Go.RowKit
section
variable {P:Program} {ops:Array Oper} {Q:Exit->Act->World->Prop}
theorem Ob {σ:Nat->Value} {listed:Array Bool} {t:Tmp}:∀(js:List Nat) (a:Act),(∀j∈js,AG ops j=some t->listed.getD j false=false)->(fill ops σ listed js a).eval (.tmp t)=a.eval (.tmp t)
 |[],_,_=>rfl
 |j::js,a,h=>by
  unfold fill;rw[Ob js _ (fun x hx=>h x (List.mem_cons_of_mem _ hx))];split
  · rename_i hl
    exact eval_put_ne _ _ _ _ (fun e=>by rw[h j (List.mem_cons_self ..) e]at hl;cases hl)
  · rfl
theorem MP {a:Act} {σ:Nat->Value} {listed:Array Bool} {t:Tmp} (h:∀j,AG ops j=some t->listed.getD j false=false):(mid ops σ listed a).eval (.tmp t)=a.eval (.tmp t):=
 Ob _ a (fun j _=>h j)
theorem Af {t:Tmp} {listed:Array Bool} (h:Ta ops t=true):∀j,AG ops j=some t->listed.getD j false=false:=by
 intro j hj;rcases Nat.lt_or_ge j ops.size with hlt|hge
 · have:=List.all_eq_true.1 h j (List.mem_range.2 hlt);rw[hj]at this;simp at this
 · simp[AG,Array.getElem?_eq_none hge]at hj
def TN (ops:Array Oper) (t:Tmp) (j:Nat):Bool:=(List.range ops.size).all fun i=>i==j || AG ops i != some t
theorem EF {t:Tmp} {j:Nat} {listed:Array Bool} (h:TN ops t j=true) (hl:listed.getD j false=false):∀i,AG ops i=some t->listed.getD i false=false:=by
 intro i hi;rcases Nat.lt_or_ge i ops.size with hlt|hge
 · have:=List.all_eq_true.1 h i (List.mem_range.2 hlt);rw[hi]at this;simp at this;rw[this];exact hl
 · simp[AG,Array.getElem?_eq_none hge]at hi
theorem Ah {md:Region.Mode} {listed:Array Bool} {i k:Nat} (hc:Bg md ops listed) (hi:listed.getD i false=false) (hw:((ops[k]?).map fun o=>o.after.any fun e=>e.on==i&&Region.binds md e)=some true):listed.getD k false=false:=by
 cases hk:listed.getD k false with
 |false=>rfl
 |true=>
  cases ho:ops[k]? with
  |none=>rw[ho]at hw;cases hw
  |some o=> rw[ho]at hw;simp only[Option.map_some,Option.some.injEq]at hw;obtain ⟨x,hx,h1⟩:=Array.any_eq_true.1 hw;simp only[Bool.and_eq_true,beq_iff_eq]at h1;have h2:=hc k o ho hk _ (Array.getElem_mem hx) h1.2;rw[h1.1,hi]at h2;cases h2
def Q4 (P:Program) (ops:Array Oper) (a0:Act) (T:World->World->Prop) (F:Nat->Value->World->Prop) (G:Array Bool->(Nat->Value)->World->Prop) (i:Nat) (o:Oper):Prop:=
 ∀(listed:Array Bool) (σ:Nat->Value) (w:World) (a:Act),(∀j t,AG ops j=some t->listed.getD j false=true->a.tmps.getD t undef=σ j)->(∀t,(∀j,AG ops j=some t->listed.getD j false=false)->a.tmps.getD t undef=a0.tmps.getD t undef) ->
  listed.getD i false=false->Bg .any ops listed->(∀e∈o.after,Region.binds .any e=true->listed.getD e.on false=true)->G listed σ w->(∀j,listed.getD j false=true->F j (σ j) w) ->
  Ac ops a o w (fun v w'=>T w w'/\F i v w'/\G (listed.setIfInBounds i true) (upd σ i v) w') (Does P a o w (fun v w'=>T w w'/\F i v w'/\G (listed.setIfInBounds i true) (upd σ i v) w'))
theorem MQ {a0:Act} {T:World->World->Prop} {F:Nat->Value->World->Prop} {G:Array Bool->(Nat->Value)->World->Prop} (ho:ownB ops a0.tmps.size=true) (hF:∀j v w w',T w w'->F j v w->F j v w')
   (hstep:Each (Q4 P ops a0 T F G) 0 ops.toList) {K:Act->World->Prop} {i:Nat} {o:Oper} {listed:Array Bool} {σ:Nat->Value} {w:World} (hio:ops[i]?=some o) (hl:listed.getD i true=false) (hc:Bg .any ops listed)
   (hp:∀e∈o.after,Region.binds .any e=true->listed.getD e.on false=true) (hG:G listed σ w) (hF1:∀j,listed.getD j false=true->F j (σ j) w)
   (hK:∀σ' w',G (listed.setIfInBounds i true) σ' w'->(∀j,(listed.setIfInBounds i true).getD j false=true->F j (σ' j) w')->K (mid ops σ' (listed.setIfInBounds i true) a0) w'):wpOp P ops Q i K (mid ops σ listed a0) w:=by
 have hlt:i<ops.size:=(Array.getElem?_eq_some_iff.1 hio).1;have h1:=Each.get ops.toList 0 hstep i o (by simpa using hio);rw[Nat.zero_add]at h1;refine Ac.step hio (h1 listed σ w (mid ops σ listed a0) (fun j t hd hj=>MO ho hd hj) (fun t ht=>MP ht) (L8 hl) hc hp hG hF1) ?_;rintro v w' ⟨hT,hFi,hG'⟩;have hd:o.dst=AG ops i:=by simp[AG,hio]
 rw[hd,show (mid ops σ listed a0).put (AG ops i) v=mid ops (upd σ i v) (listed.setIfInBounds i true) a0 from (Gk ho hlt hl _ _ List.nodup_range (fun j hj=>List.mem_range.1 hj) (List.mem_range.2 hlt)).symm];refine hK _ _ hG' (fun j hj=>?_);by_cases hji:j=i
 · subst hji;rw[CX];exact hFi
 · rw[upd_ne σ v hji];rw[getD_set_ne false (Ne.symm hji)]at hj;exact hF j _ _ _ hT (hF1 j hj)
theorem L9 {σ:Nat->Value} {n:Nat} (a:Act):mid ops σ (Array.replicate n false) a=a:=by
 unfold mid;have:∀(js:List Nat) (a:Act),fill ops σ (Array.replicate n false) js a=a:=by
  intro js;induction js with
  |nil=>intro a;rfl
  |cons j js ih=> intro a;unfold fill;rw[if_neg (by rw[BS];exact Bool.false_ne_true),ih]
 exact this _ _
theorem BC {id:Nat} {a0:Act} {w:World} (hm:P.follows .mixedOrders=true) (hb:L2 ops=true) (ho:ownB ops a0.tmps.size=true) (T:World->World->Prop) (F:Nat->Value->World->Prop) (G:Array Bool->(Nat->Value)->World->Prop)
   (hF:∀j v w w',T w w'->F j v w->F j v w') (h0:∀σ,G (Array.replicate ops.size false) σ w.drew)
   (hstep:Each (Q4 P ops a0 T F G) 0 ops.toList)
   (hend:∀(listed:Array Bool) (σ:Nat->Value) (w:World),Iu ops.size listed->G listed σ w->(∀j,j<ops.size->F j (σ j) w)->Q .normal (mid ops σ listed a0) w):(Code.region id ops true).wp P Q a0 w:=by
 refine FH hm hb (fun listed a w=>∃σ,a=mid ops σ listed a0/\G listed σ w/\∀j,listed.getD j false=true->F j (σ j) w) ?_ ?_ ?_
 · exact ⟨fun _=>undef,(L9 a0).symm,h0 _,fun j hj=>by rw[BS]at hj;cases hj⟩
 · rintro i o listed a w hio hs hl hc hp ⟨σ,rfl,hG,hF1⟩;exact MQ ho hF hstep hio hl hc hp hG hF1 (fun σ' w' hG' hF'=>⟨σ',rfl,hG',hF'⟩)
 · rintro listed a w hs hall ⟨σ,rfl,hG,hF1⟩;exact hend listed σ w hall hG (fun j hj=>hF1 j (hall j hj))
def Ux (n k:Nat):Array Bool:=Array.ofFn (n:=n) fun i=>decide (i.val<k)
def LA (ops:Array Oper):Bool:=match ops[ops.size-1]? with
 |none=>false
 |some o=>(List.range (ops.size-1)).all fun j=>o.after.any fun e=>Region.binds .any e&&(e.on==j || match ops[e.on]? with
  |none=>false
  |some o2=>o2.after.any fun e2=>e2.on==j&&Region.binds .any e2)
theorem Ix (h:LA ops=true) {listed:Array Bool} {o:Oper} (ho:ops[ops.size-1]?=some o) (hc:Bg .any ops listed) (hp:∀e∈o.after,Region.binds .any e=true->listed.getD e.on false=true):∀j,j<ops.size-1->listed.getD j false=true:=by
 intro j hj;unfold LA at h;rw[ho]at h;have h1:=List.all_eq_true.1 h j (List.mem_range.2 hj);obtain ⟨x,hx,h2⟩:=Array.any_eq_true.1 h1;simp only[Bool.and_eq_true,Bool.or_eq_true,beq_iff_eq]at h2;have h3:=hp _ (Array.getElem_mem hx) h2.1;rcases h2.2 with h4|h4
 · rw[h4]at h3;exact h3
 · cases ho2:ops[(o.after[x]).on]? with
   |none=>rw[ho2]at h4;cases h4
   |some o2=> rw[ho2]at h4;obtain ⟨y,hy,h5⟩:=Array.any_eq_true.1 h4;simp only[Bool.and_eq_true,beq_iff_eq]at h5;have h6:=hc _ _ ho2 h3 _ (Array.getElem_mem hy) h5.2;rw[h5.1]at h6;exact h6
def fin (ops:Array Oper) (σ:Nat->Value) (v:Value) (a:Act):Act:=((List.range (ops.size-1)).foldl (fun a j=>a.put (AG ops j) (σ j)) a).put (AG ops (ops.size-1)) v
theorem Bn {listed:Array Bool} {σ:Nat->Value} {v:Value} {a:Act} (_h:∀j,j<ops.size-1->listed.getD j false=true):fin ops σ v a=((List.range (ops.size-1)).foldl (fun a j=>a.put (AG ops j) (σ j)) a).put (AG ops (ops.size-1)) v:=rfl
theorem JN {σ:Nat->Value} {n:Nat} {v:Value}:∀(js:List Nat) (a:Act),(∀j∈js,j≠n)->js.foldl (fun a j=>a.put (AG ops j) (upd σ n v j)) a=js.foldl (fun a j=>a.put (AG ops j) (σ j)) a
 |[],_,_=>rfl
 |j::js,a,h=>by
  rw[List.foldl_cons,List.foldl_cons,upd_ne σ v (h j (List.mem_cons_self ..))];exact JN js _ (fun x hx=>h x (List.mem_cons_of_mem _ hx))
theorem Tb {σ:Nat->Value} {v:Value} {a:Act} (h:0<ops.size):(List.range ops.size).foldl (fun a j=>a.put (AG ops j) (upd σ (ops.size-1) v j)) a=fin ops σ v a:=by obtain ⟨m,hm⟩:∃m,ops.size=m+1:=⟨ops.size-1,by omega⟩;unfold fin;have hf:=JN (ops:=ops) (σ:=σ) (n:=m) (v:=v) (List.range m) a (fun j hj=>by have:=List.mem_range.1 hj;omega);rw[hm,List.range_succ,List.foldl_append,Nat.add_sub_cancel,hf];show Act.put _ _ (upd σ m v m)=_;rw[CX]
def Sz (P:Program) (ops:Array Oper) (a0:Act) (F:Nat->Value->World->Prop) (G:Array Bool->(Nat->Value)->World->Prop) (R:Act->World->Prop) (o:Oper):Prop:=
 ∀(listed:Array Bool) (σ:Nat->Value) (w:World) (a:Act),(∀j,j<ops.size-1->listed.getD j false=true)->(∀j t,AG ops j=some t->j<ops.size-1->a.tmps.getD t undef=σ j)->(∀t,(∀j,AG ops j=some t->j=ops.size-1)->a.tmps.getD t undef=a0.tmps.getD t undef) ->
  G listed σ w->(∀j,j<ops.size-1->F j (σ j) w)->Ac ops a o w (fun v w'=>R (fin ops σ v a0) w') (Does P a o w (fun v w'=>R (fin ops σ v a0) w'))
def Iy (R:Nat->Oper->Prop):Nat->List Oper->Prop
 |_,[]=>True
 |_,[_]=>True
 |i,o::p::os=>R i o/\Iy R (i+1) (p::os)
theorem Iy.get {R:Nat->Oper->Prop}:∀(os:List Oper) (k:Nat),Iy R k os->∀i o,i<os.length-1->os[i]?=some o->R (k+i) o
 |[],_,_,i,o,hi,h=>by simp at h
 |[x],_,_,i,o,hi,h=>by simp at hi
 |x::y::os,k,h,i,o,hi,ho=>by
  cases i with
  |zero=>simp at ho;subst ho;exact h.1
  |succ i=> have:=Iy.get (y::os) (k+1) h.2 i o (by simp at hi ⊢;omega) (by simpa using ho);rw[show k+(i+1)=k+1+i by omega];exact this
def S0 (P:Program) (ops:Array Oper) (a0:Act) (T:World->World->Prop) (F:Nat->Value->World->Prop) (G:Array Bool->(Nat->Value)->World->Prop) (i:Nat) (o:Oper):Prop:=
 ∀(listed:Array Bool) (σ:Nat->Value) (w:World) (a:Act),(∀j t,AG ops j=some t->listed.getD j false=true->a.tmps.getD t undef=σ j)->(∀t,(∀j,AG ops j=some t->listed.getD j false=false)->a.tmps.getD t undef=a0.tmps.getD t undef) ->
  listed.getD i false=false->listed.getD (ops.size-1) false=false->listed.size=ops.size->Bg .any ops listed->(∀e∈o.after,Region.binds .any e=true->listed.getD e.on false=true)->G listed σ w->(∀j,listed.getD j false=true->F j (σ j) w) ->
  Ac ops a o w (fun v w'=>T w w'/\F i v w'/\G (listed.setIfInBounds i true) (upd σ i v) w') (Does P a o w (fun v w'=>T w w'/\F i v w'/\G (listed.setIfInBounds i true) (upd σ i v) w'))
theorem MR {a0:Act} {T:World->World->Prop} {F:Nat->Value->World->Prop} {G:Array Bool->(Nat->Value)->World->Prop} {R:Act->World->Prop} (ho:ownB ops a0.tmps.size=true) (hla:LA ops=true) (hF:∀j v w w',T w w'->F j v w->F j v w')
   (hstep:Iy (S0 P ops a0 T F G) 0 ops.toList) (hlast:∀o,ops[ops.size-1]?=some o->Sz P ops a0 F G R o) {K:Act->World->Prop} {i:Nat} {o:Oper} {listed:Array Bool} {σ:Nat->Value} {w:World} (hio:ops[i]?=some o) (hs:listed.size=ops.size) (hl:listed.getD i true=false) (hc:Bg .any ops listed)
   (hp:∀e∈o.after,Region.binds .any e=true->listed.getD e.on false=true) (hun:listed.getD (ops.size-1) false=false) (hG:G listed σ w) (hF1:∀j,listed.getD j false=true->F j (σ j) w)
   (hK:∀σ' w',i≠ops.size-1->G (listed.setIfInBounds i true) σ' w'->(∀j,(listed.setIfInBounds i true).getD j false=true->F j (σ' j) w')->K (mid ops σ' (listed.setIfInBounds i true) a0) w')
   (hR:∀a w',i=ops.size-1->R a w'->K a w'):wpOp P ops Q i K (mid ops σ listed a0) w:=by
 have hlt:i<ops.size:=(Array.getElem?_eq_some_iff.1 hio).1;have hd:o.dst=AG ops i:=by simp[AG,hio]
 by_cases hi:i=ops.size-1
 · subst hi;have hall:=Ix hla hio hc hp;refine Ac.step hio (hlast o hio listed σ w (mid ops σ listed a0) hall (fun j t hd hj=>MO ho hd (hall j hj)) (fun t ht=>MP (fun j hj=>by rw[ht j hj];exact hun)) hG (fun j hj=>hF1 j (hall j hj))) ?_;intro v w' h
   rw[hd,show (mid ops σ listed a0).put (AG ops (ops.size-1)) v=mid ops (upd σ (ops.size-1) v) (listed.setIfInBounds (ops.size-1) true) a0 from (Gk ho hlt hl _ _ List.nodup_range (fun j hj=>List.mem_range.1 hj) (List.mem_range.2 hlt)).symm];refine hR _ _ rfl ?_;rw[BP (fun j hj=>by
     by_cases he:j=ops.size-1
     · subst he;simp[hs,hlt]
     · rw[getD_set_ne false (Ne.symm he)];exact hall j (by omega)),Tb (by omega)]
   exact h
 · have h1:=Iy.get ops.toList 0 hstep i o (by simp;omega) (by simpa using hio);rw[Nat.zero_add]at h1;refine Ac.step hio (h1 listed σ w (mid ops σ listed a0) (fun j t hd hj=>MO ho hd hj) (fun t ht=>MP ht) (L8 hl) hun hs hc hp hG hF1) ?_;rintro v w' ⟨hT,hFi,hG'⟩;rw[hd,show (mid ops σ listed a0).put (AG ops i) v=mid ops (upd σ i v) (listed.setIfInBounds i true) a0 from (Gk ho hlt hl _ _ List.nodup_range (fun j hj=>List.mem_range.1 hj) (List.mem_range.2 hlt)).symm]
   refine hK _ _ hi hG' (fun j hj=>?_);by_cases hji:j=i
   · subst hji;rw[CX];exact hFi
   · rw[upd_ne σ v hji];rw[getD_set_ne false (Ne.symm hji)]at hj;exact hF j _ _ _ hT (hF1 j hj)
theorem AJ {id:Nat} {a0:Act} {w:World} (hm:P.follows .mixedOrders=true) (hb:L2 ops=true) (ho:ownB ops a0.tmps.size=true) (hla:LA ops=true) (T:World->World->Prop) (F:Nat->Value->World->Prop) (G:Array Bool->(Nat->Value)->World->Prop)
   (hF:∀j v w w',T w w'->F j v w->F j v w') (h0:∀σ,G (Array.replicate ops.size false) σ w.drew) (hstep:Iy (S0 P ops a0 T F G) 0 ops.toList) (hlast:∀o,ops[ops.size-1]?=some o->Sz P ops a0 F G (Q .normal) o):(Code.region id ops true).wp P Q a0 w:=by
 have hpos:0<ops.size:=by
   rcases Nat.eq_zero_or_pos ops.size with h|h
   · unfold LA at hla;rw[Array.getElem?_eq_none (by omega)]at hla;cases hla
   · exact h
 refine FH hm hb (fun listed a w=>(listed.getD (ops.size-1) false=false/\∃σ,a=mid ops σ listed a0/\G listed σ w/\∀j,listed.getD j false=true->F j (σ j) w)\/(listed.getD (ops.size-1) false=true/\Q .normal a w)) ?_ ?_ ?_
 · exact .inl ⟨BS _ _,fun _=>undef,(L9 a0).symm,h0 _,fun j hj=>by rw[BS]at hj;cases hj⟩
 · rintro i o listed a w hio hs hl hc hp (⟨hun,σ,rfl,hG,hF1⟩|⟨hon,hQ⟩)
   · refine MR ho hla hF hstep hlast hio hs hl hc hp hun hG hF1 (fun σ' w' hne hG' hF'=>.inl ⟨?_,σ',rfl,hG',hF'⟩) (fun a w' he h=>.inr ⟨?_,h⟩)
     · rw[getD_set_ne false hne];exact hun
     · subst he;have hq:ops.size-1<ops.size:=(by omega);simp[hs,hq]
   · exfalso;have hlt:i<ops.size:=(Array.getElem?_eq_some_iff.1 hio).1;have hlo:ops[ops.size-1]?=some ops[ops.size-1]:=Array.getElem?_eq_getElem (by omega);by_cases hi:i=ops.size-1
     · subst hi;exact (DG hon hl).elim
     · have:=Ix hla hlo hc (hc _ _ hlo hon) i (by omega);exact (DG this hl).elim
 · rintro listed a w hs hall (⟨hun,-⟩|⟨-,hQ⟩)
   · rw[hall _ (by omega)]at hun;cases hun
   · exact hQ
end
section
variable {ops:Array Oper}
theorem LC {t:Tmp} (h:Ta ops t=true):∀j,AG ops j=some t->j=ops.size-1:=by
 intro j hj;have h1:=Af (listed:=Array.replicate ops.size true) h j hj;have hlt:j<ops.size:=by
  rcases Nat.lt_or_ge j ops.size with h2|h2
  · exact h2
  · simp[AG,Array.getElem?_eq_none h2]at hj
 simp[hlt]at h1
theorem Ac.some {a:Act} {o:Oper} {w:World} {R:Value->World->Prop} {D:Prop} {g:Nat} {want b:Bool} {d:Tmp} (h:o.guard=Option.some (g,want)) (hd:AG ops g=Option.some d) (hv:a.tmps.getD d undef=.bool b) (hD:(b=want/\D)\/(b≠want/\R undef w)):Ac ops a o w R D:=by unfold Ac;rw[h];exact ⟨d,b,hd,hv,fun he=>hD.elim (·.2) (fun k=>absurd he k.1),fun he=>hD.elim (fun k=>absurd k.1 he) (·.2)⟩
end
def GA (app:Nat) (W0:World) (R:Value->World->Prop) (listed:Array Bool) (σ:Nat->Value) (w:World):Prop:=
 (listed.getD app false=false->Below W0.heap.size W0 w)/\(listed.getD app false=true->R (σ app) w)
section
variable {app i:Nat} {W0 w w':World} {R:Value->World->Prop} {listed:Array Bool} {σ:Nat->Value} {v:Value}
theorem GA.start (n:Nat) (h:Below W0.heap.size W0 w):GA app W0 R (Array.replicate n false) σ w:=⟨fun _=>h,fun h=>by rw[BS]at h;cases h⟩
theorem GA.same (h:GA app W0 R listed σ w) (hi:i≠app):GA app W0 R (listed.setIfInBounds i true) (upd σ i v) w:=by unfold GA;rw[getD_set_ne false hi,upd_ne σ v (Ne.symm hi)];exact h
theorem GA.call (h:GA app W0 R listed σ w) (hi:i≠app) (hun:listed.getD app false=false) (hb:Below w.heap.size w w'):GA app W0 R (listed.setIfInBounds i true) (upd σ i v) w':=by unfold GA;rw[getD_set_ne false hi,hun];exact ⟨fun _=>(h.1 hun).next hb,fun h=>by cases h⟩
theorem GA.on_ (hl:listed.getD app false=false) (hs:app<listed.size) (hR:R v w'):GA app W0 R (listed.setIfInBounds app true) (upd σ app v) w':=by unfold GA;rw[CX];exact ⟨fun h=>by simp[hs]at h,fun _=>hR⟩
end
def Tg (row:Option Nat) (w w':World):Prop:=w.grownBy w' row/\Kp w w'
theorem Tg.refl (row:Option Nat) (w:World):Tg row w w:=⟨⟨rfl,rfl,rfl,Nat.le_refl _,fun _ _ _=>rfl⟩,Kp.refl w⟩
theorem Tg.of_below {row:Option Nat} {w w':World} (h:Below w.heap.size w w'):Tg row w w':=⟨⟨h.os,h.tape,h.output,h.size,fun k hk _=>h.block k hk⟩,Kp.of_below h⟩
end
section
open Go.RowKit
open Limb (limb AE upto upto_succ Ap Aq)
end
section
open Go.RowKit
open Limb (limb AE upto upto_succ Ap Aq)
theorem JO (s:Bool) (A:Option Addr) (n c k:Nat) (xs:List Nat) (w:World) (hx:Am w A n xs) (hk:n<=k) (hb:k<=1099511627776) :
   Calls Tryz.prog 40 #[.bool s,.slice A n c] w (CW (sg s (Limb.val xs)) k w):=by
 have hlt:=Ad hx.lt;obtain ⟨z1,z2,-⟩:=CV w #[.bool false,.slice none 0 0];have ht:=JG A n c xs _ (hx.below z2) (by omega);generalize Limb.val xs=N at *;by_cases h0:N=0
 · subst h0;go_enter Tryz.func40,Tryz.ntmps40;go_wp2_with fail;refine ht.mono ?_;rintro e w1 ⟨A1,n1,c1,rfl,o1,l1,m1,b1⟩;obtain rfl:n1=0:=(by rw[<-o1.len];rfl);have k1:=z1.next b1;go_wp2_with (with_reducible refine Al rfl _ _ rfl w.heap.size _ _ _ _ rfl rfl _ _ k1 ?_;intro w3 k3 ho3);refine Av rfl rfl k3 rfl ?_;exact ⟨_,rfl,by rw[Gj];exact Au.zero _ _,AH (z2.next b1) (Nat.le_refl _) ho3⟩
 · have HP:=Ad (Nat.pos_of_ne_zero h0);go_enter Tryz.func40,Tryz.ntmps40;go_wp2_with fail;refine ht.mono ?_;rintro e w1 ⟨A1,n1,c1,rfl,o1,l1,m1,b1⟩;have hn1:((n1:Int)==0)=false:=by
    have:n1≠0:=fun h=>h0 ((Limb.canon_len_zero _).1 (by rw[o1.len];exact h))
    simp;omega
   have hl1:n1<=n:=CG o1 hlt.out;have k1:=z1.next b1;clear h0;go_wp2_with (with_reducible refine Al rfl _ _ rfl w.heap.size _ _ _ _ rfl rfl _ _ k1 ?_;intro w3 k3 ho3);refine Av rfl rfl k3 rfl ?_;exact ⟨_,rfl,⟨A1,n1,c1,by rw[Qu s N HP.out],by rw[CH];exact o1.keepBlk k1 ho3,l1,m1,by omega⟩,AH (z2.next b1) (Nat.le_refl _) ho3⟩
def Tz (Z:Int) (w:World) (e:Ending) (w':World):Prop:=e=.returned (.int .i64 Z.sign)/\Below w.heap.size w w'
theorem BF.abs {s:Bool} {Z:Int} {N:Nat} (h:Z=sg s N):N=Z.natAbs:=by rw[h,CH]
end
end Go.Proofs.YtemfjdedjcjegaaGreatDoor
namespace Go.Proofs.YtemfjdedjcjegaaGreatDoor.Tm
section
def AF:List (Int×Int)->Int->Int
 |[],_=>0
 |(u,c)::ps,v=>(if u=v/\0<=v then c else 0)+AF ps v
theorem Fi (v:Int):AF [] v=0:=rfl
theorem Bb (ps qs:List (Int×Int)) (v:Int):AF (ps++qs) v=AF ps v+AF qs v:=by
 induction ps with
 |nil=>rw[List.nil_append,Fi,Int.zero_add]
 |cons p ps ih=> obtain ⟨u,c⟩:=p;rw[List.cons_append,AF,AF,ih,Int.add_assoc]
theorem OS {ps qs:List (Int×Int)} (h:ps.Perm qs) (v:Int):AF ps v=AF qs v:=by
 induction h with
 |nil=>rfl
 |cons p _ ih=>obtain ⟨u,c⟩:=p;rw[AF,AF,ih]
 |swap p q l=>
  obtain ⟨u,c⟩:=p;obtain ⟨u',c'⟩:=q;simp only[AF];omega
 |trans _ _ ih1 ih2=>rw[ih1,ih2]
theorem FO (n:Int) (ps:List (Int×Int)) (v:Int):AF (ps.map fun p=>(p.1,n*p.2)) v=n*AF ps v:=by
 induction ps with
 |nil=>simp[AF]
 |cons p ps ih=> obtain ⟨u,c⟩:=p;simp only[List.map_cons,AF,ih,Int.mul_add];split<;>simp
def Bv:Int->List (Int×Int)->Prop
 |_,[]=>True
 |b,(u,c)::ps=>b<u/\c≠0/\Bv u ps
def Gl (ps:List (Int×Int)):Prop:=Bv (-1) ps
theorem Bv.mono {b b':Int} {ps:List (Int×Int)} (h:Bv b ps) (hb:b'<=b):Bv b' ps:=by
 cases ps with
 |nil=>trivial
 |cons p ps=> obtain ⟨u,c⟩:=p;exact ⟨by have:=h.1;omega,h.2⟩
theorem Bv.low {b:Int} {ps:List (Int×Int)} (h:Bv b ps) (v:Int) (hv:v<=b):AF ps v=0:=by
 induction ps generalizing b with
 |nil=>rfl
 |cons p ps ih=> obtain ⟨u,c⟩:=p;obtain ⟨h1,h2,h3⟩:=h;rw[AF,if_neg (by omega),ih h3 (by omega)];rfl
theorem Bv.head {b u c:Int} {ps:List (Int×Int)} (h:Bv b ((u,c)::ps)) (hu:0<=u):AF ((u,c)::ps) u=c:=by rw[AF,if_pos ⟨rfl,hu⟩,h.2.2.low u (Int.le_refl _),Int.add_zero]
theorem LD {b b':Int} {ps qs:List (Int×Int)} (hb:-1<=b) (hb':-1<=b') (h:Bv b ps) (h':Bv b' qs) (he:∀v,AF ps v=AF qs v):ps=qs:=by
 induction ps generalizing b b' qs with
 |nil=>
  cases qs with
  |nil=>rfl
  |cons q qs=>
   obtain ⟨u,c⟩:=q;have h1:=he u;rw[h'.head (by have:=h'.1;omega),Fi]at h1;exact absurd h1.symm h'.2.1
 |cons p ps ih=>
  obtain ⟨u,c⟩:=p;have hu:0<=u:=by have:=h.1;omega
  cases qs with
  |nil=>
   have h1:=he u;rw[h.head hu,Fi]at h1;exact absurd h1 h.2.1
  |cons q qs=>
   obtain ⟨u',c'⟩:=q;have hu':0<=u':=(by have:=h'.1;omega);have huu:u=u':=by
    rcases Int.lt_trichotomy u u' with h1|h1|h1
    · have h2:=he u;rw[h.head hu,AF,if_neg (by omega),h'.2.2.low u (by omega)]at h2;exact absurd h2 h.2.1
    · exact h1
    · have h2:=he u';rw[h'.head hu',AF,if_neg (by omega),h.2.2.low u' (by omega)]at h2;exact absurd h2.symm h'.2.1
   subst huu;have hcc:c=c':=by have h2:=he u;rw[h.head hu,h'.head hu]at h2;exact h2
   subst hcc;rw[ih (by omega) (by omega) h.2.2 h'.2.2 (fun v=>by
    have h2:=he v;rw[AF,AF]at h2;omega)]
theorem MS {ps qs:List (Int×Int)} (h:Gl ps) (h':Gl qs) (he:∀v,AF ps v=AF qs v):ps=qs:=LD (Int.le_refl _) (Int.le_refl _) h h' he
def Q5 (u c:Int):List (Int×Int)->List (Int×Int)
 |[]=>if c=0 then [] else [(u,c)]
 |(v,d)::ps=>if u<v then (if c=0 then (v,d)::ps else (u,c)::(v,d)::ps) else if u=v then (if c+d=0 then ps else (v,c+d)::ps) else (v,d)::Q5 u c ps
theorem MU {b u c:Int} {ps:List (Int×Int)} (h:Bv b ps) (hu:b<u):Bv b (Q5 u c ps):=by
 induction ps generalizing b with
 |nil=>
  unfold Q5;split
  · trivial
  · exact ⟨hu,by assumption,trivial⟩
 |cons p ps ih=>
  obtain ⟨v,d⟩:=p;obtain ⟨h1,h2,h3⟩:=h;unfold Q5;split
  · rename_i hlt
    split
    · exact ⟨h1,h2,h3⟩
    · exact ⟨hu,by assumption,hlt,h2,h3⟩
  · split
    · split
      · exact h3.mono (by omega)
      · exact ⟨h1,by assumption,h3⟩
    · exact ⟨h1,h2,ih h3 (by omega)⟩
theorem Q6 (u c:Int) (ps:List (Int×Int)) (hu:0<=u) (w:Int):AF (Q5 u c ps) w=(if u=w/\0<=w then c else 0)+AF ps w:=by
 induction ps with
 |nil=>
  unfold Q5;split
  · rename_i h;rw[h];simp[AF]
  · rfl
 |cons p ps ih=>
  obtain ⟨v,d⟩:=p;unfold Q5;split
  · split
    · rename_i h;rw[h];simp
    · rfl
  · split
    · rename_i h;subst h
      split
      · rename_i h0
        rw[AF];split
        · omega
        · omega
      · rw[AF,AF];split<;>omega
    · rw[AF,AF,ih];omega
def norm:List (Int×Int)->List (Int×Int)
 |[]=>[]
 |(u,c)::ps=>if u<0 then norm ps else Q5 u c (norm ps)
theorem BZ (ps:List (Int×Int)):Gl (norm ps):=by
 induction ps with
 |nil=>trivial
 |cons p ps ih=>
  obtain ⟨u,c⟩:=p;unfold norm;split
  · exact ih
  · exact MU ih (by omega)
theorem DI (ps:List (Int×Int)) (v:Int):AF (norm ps) v=AF ps v:=by
 induction ps with
 |nil=>rfl
 |cons p ps ih=>
  obtain ⟨u,c⟩:=p;unfold norm;split
  · rw[AF,ih,if_neg (by omega),Int.zero_add]
  · rw[Q6 _ _ _ (by omega),AF,ih]
theorem Gm {ps qs:List (Int×Int)} (h:Gl qs) (he:∀v,AF qs v=AF ps v):qs=norm ps:=
 MS h (BZ ps) (fun v=>by rw[he,DI])
theorem GE {ps qs:List (Int×Int)} (he:∀v,AF ps v=AF qs v):norm ps=norm qs:=Gm (BZ ps) (fun v=>by rw[DI,he])
theorem KA {ps:List (Int×Int)} (h:Gl ps):norm ps=ps:=(Gm h (fun _=>rfl)).symm
def val (vals:List Int):List (Int×Int)->Int
 |[]=>0
 |(u,c)::ps=>(if 0<=u then c*vals.getD u.toNat 0 else 0)+val vals ps
theorem val_append (vals:List Int) (ps qs:List (Int×Int)):val vals (ps++qs)=val vals ps+val vals qs:=by
 induction ps with
 |nil=>simp[val]
 |cons p ps ih=>obtain ⟨u,c⟩:=p;rw[List.cons_append,val,val,ih,Int.add_assoc]
end
end Go.Proofs.YtemfjdedjcjegaaGreatDoor.Tm
namespace Go.Proofs.YtemfjdedjcjegaaGreatDoor
section
open Go.RowKit
structure PV where
 v:Int
 s:Bool
 B:Option Addr
 m:Nat
 d:Nat
 Z:Int
def PV.num (p:PV):Value:=.agg #[.bool p.s,.slice p.B p.m p.d]
def PV.cells (p:PV):List Value:=[.int .i64 p.v,.bool p.s,.slice p.B p.m p.d]
def PV.agg (p:PV):Value:=.agg #[.int .i64 p.v,.bool p.s,.slice p.B p.m p.d]
def PV.part (p:PV):Int×Int:=(p.v,p.Z)
def flat (ps:List PV):List Value:=(ps.map PV.cells).flatten
theorem CI (p:PV) (ps:List PV):flat (p::ps)=p.cells++flat ps:=rfl
theorem Fj (ps qs:List PV):flat (ps++qs)=flat ps++flat qs:=by simp[flat]
theorem CJ (ps:List PV):(flat ps).length=3*ps.length:=by
 induction ps with
 |nil=>rfl
 |cons p ps ih=>rw[CI,List.length_append,ih,List.length_cons];show 3+_=_;omega
theorem flat_get (ps:List PV) (i:Nat) (p:PV) (h:ps[i]?=some p):(flat ps)[3*i]?=some (.int .i64 p.v)/\(flat ps)[3*i+1]?=some (.bool p.s)/\(flat ps)[3*i+2]?=some (.slice p.B p.m p.d):=by
 induction ps generalizing i with
 |nil=>simp at h
 |cons q ps ih=>
  rw[CI];cases i with
  |zero=>
   simp at h;subst h;exact ⟨rfl,rfl,rfl⟩
  |succ i=>
   have h2:=ih i (by simpa using h);have hl:q.cells.length=3:=rfl;have e0:3*(i+1)=q.cells.length+3*i:=(by rw[hl];omega);have e1:3*(i+1)+1=q.cells.length+(3*i+1):=(by rw[hl];omega);have e2:3*(i+1)+2=q.cells.length+(3*i+2):=(by rw[hl];omega);rw[e0,show q.cells.length+3*i+1=q.cells.length+(3*i+1) by omega,show q.cells.length+3*i+2=q.cells.length+(3*i+2) by omega,List.getElem?_append_right (by omega),List.getElem?_append_right (by omega),List.getElem?_append_right (by omega)]
   simpa using h2
theorem OT (ps:List PV) (k:Nat):flat (ps.take k)=(flat ps).take (3*k):=by
 induction ps generalizing k with
 |nil=>simp[flat]
 |cons p ps ih=>
  cases k with
  |zero=>simp[flat]
  |succ k=> rw[List.take_succ_cons,CI,CI,ih];have hl:p.cells.length=3:=rfl;rw[show 3*(k+1)=p.cells.length+3*k by rw[hl];omega,List.take_length_add_append]
def AC (w:World) (A:Option Addr) (n:Nat) (ps:List PV) (k:Nat):Prop:=
 ps.length=n/\(0<n->∃b o,A=some ⟨b,o,none⟩/\∀j u,(flat ps)[j]?=some u->w.cell? ⟨b,o+j,none⟩=some u)/\∀p∈ps,BF w p.num p.Z k
section
variable {w w':World} {A:Option Addr} {n k:Nat} {ps:List PV}
theorem AC.nil (w:World) (A:Option Addr) (k:Nat):AC w A 0 [] k:=⟨rfl,fun h=>absurd h (by omega),fun p hp=>by cases hp⟩
theorem AC.below (h:AC w A n ps k) (hb:Below w.heap.size w w'):AC w' A n ps k:=by refine ⟨h.1,fun hn=>?_,fun p hp=>(h.2.2 p hp).below hb⟩;obtain ⟨b,o,e,hc⟩:=h.2.1 hn;refine ⟨b,o,e,fun j u hu=>?_⟩;have h1:=hc j u hu;have hlt:=World.block_lt_of_cell? w _ h1;exact (World.cell?_of_block (w:=w) (a:=⟨b,o+j,none⟩) (hb.block b hlt)).trans h1
theorem AC.mono {j:Nat} (h:AC w A n ps k) (hj:k<=j):AC w A n ps j:=⟨h.1,h.2.1,fun p hp=>(h.2.2 p hp).mono hj⟩
theorem AC.at_ {i:Nat} (h:AC w A n ps k) (hi:i<n):∃b o p,A=some ⟨b,o,none⟩/\ps[i]?=some p/\w.cell? ⟨b,o+3*i,none⟩=some (.int .i64 p.v)/\w.cell? ⟨b,o+(3*i+1),none⟩=some (.bool p.s)/\w.cell? ⟨b,o+(3*i+2),none⟩=some (.slice p.B p.m p.d)/\BF w p.num p.Z k:=by
 obtain ⟨b,o,e,hc⟩:=h.2.1 (by omega);have hl:i<ps.length:=by rw[h.1];exact hi
 obtain ⟨g0,g1,g2⟩:=flat_get ps i ps[i] (List.getElem?_eq_getElem hl);exact ⟨b,o,ps[i],e,List.getElem?_eq_getElem hl,hc _ _ g0,hc _ _ g1,hc _ _ g2,h.2.2 _ (List.getElem_mem hl)⟩
end
def Ca (ps:List PV):List (Int×Int):=ps.map PV.part
theorem Bi (ps qs:List PV):Ca (ps++qs)=Ca ps++Ca qs:=by simp[Ca]
theorem Jr (ps:List PV) (i:Nat) (p:PV) (h:ps[i]?=some p):Ca (ps.take (i+1))=Ca (ps.take i)++[p.part]:=by unfold Ca;rw[List.take_add_one,h,List.map_append];rfl
def Uy (w:World) (v:Value) (ps:List PV) (K:Int) (k:Nat):Prop:=∃A n c s B m d,v=.agg #[.slice A n c,.bool s,.slice B m d]/\AC w A n ps k/\n<=c/\c<=9223372036854775807/\BF w (.agg #[.bool s,.slice B m d]) K k
structure IV where
 s:Bool
 B:Option Addr
 m:Nat
 d:Nat
 Z:Int
def IV.num (p:IV):Value:=.agg #[.bool p.s,.slice p.B p.m p.d]
def IV.cells (p:IV):List Value:=[.bool p.s,.slice p.B p.m p.d]
def JP (ps:List IV):List Value:=(ps.map IV.cells).flatten
theorem MV (p:IV) (ps:List IV):JP (p::ps)=p.cells++JP ps:=rfl
theorem OU (ps:List IV) (i:Nat) (p:IV) (h:ps[i]?=some p):(JP ps)[2*i]?=some (.bool p.s)/\(JP ps)[2*i+1]?=some (.slice p.B p.m p.d):=by
 induction ps generalizing i with
 |nil=>simp at h
 |cons q ps ih=>
  rw[MV];cases i with
  |zero=>
   simp at h;subst h;exact ⟨rfl,rfl⟩
  |succ i=> have h2:=ih i (by simpa using h);have hl:q.cells.length=2:=rfl;rw[show 2*(i+1)=q.cells.length+2*i by rw[hl];omega,show q.cells.length+2*i+1=q.cells.length+(2*i+1) by omega,List.getElem?_append_right (by omega),List.getElem?_append_right (by omega)];simpa using h2
def CY (w:World) (A:Option Addr) (n:Nat) (vs:List IV) (k:Nat):Prop:=
 vs.length=n/\(0<n->∃b o,A=some ⟨b,o,none⟩/\∀j u,(JP vs)[j]?=some u->w.cell? ⟨b,o+j,none⟩=some u)/\∀p∈vs,BF w p.num p.Z k
theorem CY.below {w w':World} {A:Option Addr} {n k:Nat} {vs:List IV} (h:CY w A n vs k) (hb:Below w.heap.size w w'):CY w' A n vs k:=by refine ⟨h.1,fun hn=>?_,fun p hp=>(h.2.2 p hp).below hb⟩;obtain ⟨b,o,e,hc⟩:=h.2.1 hn;refine ⟨b,o,e,fun j u hu=>?_⟩;have h1:=hc j u hu;have hlt:=World.block_lt_of_cell? w _ h1;exact (World.cell?_of_block (w:=w) (a:=⟨b,o+j,none⟩) (hb.block b hlt)).trans h1
theorem CY.at_ {w:World} {A:Option Addr} {n k i:Nat} {vs:List IV} (h:CY w A n vs k) (hi:i<n):∃b o p,A=some ⟨b,o,none⟩/\vs[i]?=some p/\w.cell? ⟨b,o+2*i,none⟩=some (.bool p.s)/\w.cell? ⟨b,o+(2*i+1),none⟩=some (.slice p.B p.m p.d)/\BF w p.num p.Z k:=by
 obtain ⟨b,o,e,hc⟩:=h.2.1 (by omega);have hl:i<vs.length:=by rw[h.1];exact hi
 obtain ⟨g0,g1⟩:=OU vs i vs[i] (List.getElem?_eq_getElem hl);exact ⟨b,o,vs[i],e,List.getElem?_eq_getElem hl,hc _ _ g0,hc _ _ g1,h.2.2 _ (List.getElem_mem hl)⟩
def nums (vs:List IV):List Int:=vs.map IV.Z
def UF (T:TypeId) (w:World) (base:Nat) (v:Value) (ps:List PV) (k:Nat):Prop:=w.ownsRow base T 3 v ps.length (flat ps)/\∀p∈ps,BF w p.num p.Z k
section
variable {T:TypeId} {w w':World} {base k:Nat} {v:Value} {ps:List PV}
end
end
end Go.Proofs.YtemfjdedjcjegaaGreatDoor
