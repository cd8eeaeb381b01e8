/- Texts of one seat, put together: Drawn DrawnB RowNI StoreAt TidyA. -/
import Derived.Calls
import Derived.Below
import Derived.Deep.Draws
import Derived.Sort.Grow
import Derived.Test.YtmedjkhmadfjlaaGreatR32
import Derived.Test.YtmedjkhmadfjlaaGreatR25
import Derived.Laws.CopyRow
import Derived.Test.YtmedjkhmadfjlaaGreatR17
import Derived.Test.YtmedjkhmadfjlaaGreatR31
import Derived.Test.YtmedjkhmadfjlaaGreatR09
set_option linter.unusedVariables false
set_option linter.unusedSimpArgs false
set_option maxRecDepth 100000
set_option maxHeartbeats 16000000
namespace Go.Proofs.YtmedjkhmadfjlaaGreat
namespace Dr
def I5 {α:Type} (w:World):Result α->Prop
 |.ok _ w'=>w.drawn<=w'.drawn
 |.halt _ w'=>w.drawn<=w'.drawn
theorem Vj {α:Type}:∀(k:Ask α) (w:World),w.drawn<=(w.ask k).2.drawn:=by
 intro k;induction k with
 |done a=>intro w;exact Nat.le_refl _
 |ask what range k ih=>
  intro w;unfold World.ask;dsimp only
  split
  · exact ih _ w
  · exact Nat.le_trans (Nat.le_succ _) (ih _ { w with drawn:=w.drawn+1 })
theorem Vk (w:World) (c:Sys):w.drawn<=(w.sys c).2.drawn:=by
 have:=Vj (Kernel.perform c w.os) w;unfold World.sys;split
 · exact Nat.le_refl _
 · rename_i h
   rw[h]at this;exact this
theorem Pw {ε α β:Type} {x:Except ε α} {f:α->Except ε β} {r:β} (h:(x >>= f)=.ok r):∃a,x=.ok a/\f a=.ok r:=by
 cases x with
 |error e=>cases h
 |ok a=>exact ⟨a,rfl,h⟩
theorem Mn {p:Program} {w w':World} {a k:Addr} {u:TypeId} {v:Value} {b:Bool} {l:List Addr} (h:w.viewStore p a u k v b=.ok (w',l)):w'.drawn=w.drawn:=by
 unfold World.viewStore at h;dsimp only at h
 by_cases h1:(!tight p p.depth u)=true
 · rw[if_pos h1]at h;cases h
 · rw[if_neg h1]at h;obtain ⟨⟨c,e,fz,first,like,cells⟩,-,h⟩:=Pw h;dsimp only at h
   split at h
   · rename_i bytes hb
     by_cases h2:some bytes.length≠Option.map (fun x=>List.length x) like.bytes?
     · rw[if_pos h2]at h;cases h
     · rw[if_neg h2]at h;obtain ⟨c',-,h⟩:=Pw h;cases h
       rfl
   · cases h
theorem N1 {p:Program} {w w':World} {a:Addr} {v:Value} {b:Bool} {l:List Addr} (h:w.farStore p a v b=.ok (w',l)):w'.drawn=w.drawn:=by
 unfold World.farStore at h;split at h
 · split at h
   · rename_i r hr
     cases h
     exact Mn hr
   · cases h
 · cases h
theorem OA {α:Type} (p:Program):∀(s:Sem α) (w:World),I5 w (s.run p w):=by
 intro s;induction s with
 |pure a=>intro w;exact Nat.le_refl _
 |load m a k ih=>
  intro w;rw[Sem.run.eq_def];dsimp only
  split
  · exact ih _ w
  · split
    · exact ih _ w
    · exact Nat.le_refl _
 |store m a v k ih=>
  intro w;rw[Sem.run.eq_def];cases v<;>dsimp only<;>first|exact Nat.le_refl _|skip
  all_goals
    split
    · split
      · exact Nat.le_refl _
      · exact ih (w.setCell a _)
    · split
      · rename_i w2 l h2
        have e:=N1 h2;have:=ih w2;revert this
        generalize k.run p w2=r;cases r<;>(intro h2;unfold I5 at *;dsimp only at *;omega)
      · exact Nat.le_refl _
 |new o k ih=>intro w;exact ih _ _
 |shape r k ih=>intro w;exact ih _ _
 |freeze a n k ih=>
  intro w;have:=ih (w.freeze a n);have e:(w.freeze a n).drawn=w.drawn:=by unfold World.freeze;split<;>rfl
  have h2:I5 (w.freeze a n) ((Sem.freeze a n k).run p w):=this;revert h2
  generalize (Sem.freeze a n k).run p w=r;cases r<;>(intro h2;unfold I5 at *;dsimp only at *;omega)
 |frozen a k ih=>intro w;exact ih _ _
 |getObj r k ih=>
  intro w;rw[Sem.run.eq_def];dsimp only
  split
  · exact Nat.le_refl _
  · exact ih _ w
  · exact Nat.le_refl _
 |setObj r o k ih=>
  intro w;rw[Sem.run.eq_def];dsimp only
  split
  · exact Nat.le_refl _
  · exact ih _
  · exact Nat.le_refl _
 |choose q k ih=>
  intro w;rw[Sem.run.eq_def];dsimp only
  split
  · exact ih _ w
  · have:=ih (q.cut (w.tape w.drawn q)) { w with drawn:=w.drawn+1 };revert this
    generalize (k (q.cut (w.tape w.drawn q))).run p { w with drawn:=w.drawn+1 }=r;cases r<;>(intro h2;unfold I5 at *;dsimp only at *;omega)
 |sys c k ih=>
  intro w;have:=ih (w.sys c).1 (w.sys c).2;have e:=Vk w c;have h2:I5 (w.sys c).2 ((Sem.sys c k).run p w):=this;revert h2
  generalize (Sem.sys c k).run p w=r;cases r<;>(intro h2;unfold I5 at *;dsimp only at *;omega)
 |program k ih=>intro w;exact ih _ _
 |mark m k ih=>intro w;exact ih _
 |halt h=>intro w;exact Nat.le_refl _
theorem BA {α:Type} {p:Program} {s:Sem α} {w w':World} {a:α} (h:s.run p w=.ok a w'):w.drawn<=w'.drawn:=by have:=OA p s w;rw[h]at this;exact this
theorem Gu {α:Type} {p:Program} {s:Sem α} {w w':World} {a:Halt} (h:s.run p w=.halt a w'):w.drawn<=w'.drawn:=by have:=OA p s w;rw[h]at this;exact this
def Ed (w:World):GStep->Prop
 |.go _ w' _=>w.drawn<=w'.drawn
 |.comm _ _ _ _ w' _=>w.drawn<=w'.drawn
 |.spawn _ _ w' _=>w.drawn<=w'.drawn
 |.count _ w' _=>w.drawn<=w'.drawn
 |.timer _ _ w' _=>w.drawn<=w'.drawn
 |.alone _ _ w' _=>w.drawn<=w'.drawn
 |.newcoro _ _ _ w' _=>w.drawn<=w'.drawn
 |.coroswitch _ _ _ w' _=>w.drawn<=w'.drawn
 |.collect _ w' _=>w.drawn<=w'.drawn
 |.watch _ w' _=>w.drawn<=w'.drawn
 |.ended _ _ _=>True
theorem Ed.after {w:World} {s:GStep} {es:Array Event} (h:Ed w s):Ed w (s.after es):=by cases s<;>exact h
theorem Ed.next {w w':World} {s:GStep} (h:w.drawn<=w'.drawn) (hs:Ed w' s):Ed w s:=by cases s<;>first|exact Nat.le_trans h hs|trivial
theorem Mo {w:World} {c:Prop} [Decidable c] {a b:GStep} (h1:Ed w a) (h2:Ed w b):Ed w (if c then a else b):=by split<;>assumption
theorem EM {p:Program} {main:Bool} {fr:Frame} {callers:List Frame} {dying:Option Dying} {v:Value} {w:World}:Ed w (doReturn p main fr callers dying v w):=by
 unfold doReturn;repeat' split
 all_goals first|exact Nat.le_refl _|trivial
theorem SF {fr:Frame} {l:List ByteArray} {m:String} {b:Bool} {w:World}:Ed w (dieOf fr l m b w):=Nat.le_refl _
theorem EN {fr:Frame} {m:String} {w:World}:Ed w (endThrow fr m w):=Nat.le_refl _
theorem OB {w:World} {fd:Nat} {t:ByteArray} {o:Outcome}:Ed w (endWith w fd t o):=by
 unfold endWith;dsimp only
 repeat' split
 all_goals trivial
theorem FZ {p:Program} {fr:Frame} {v:Value} {w:World}:Ed w (endPrinting p fr v w):=by
 unfold endPrinting;dsimp only
 repeat' split
 all_goals first|exact EN|trivial
theorem I6 {p:Program} {fr:Frame} {callers:List Frame} {dying:Option Dying} {m:String} {w:World}:Ed w (endFatal p fr callers dying m w):=by
 unfold endFatal;dsimp only
 split
 · rename_i h
   exact Ed.next (BA h) SF
 · trivial
 · trivial
theorem IM {p:Program} {fr:Frame} {callers:List Frame} {dying:Option Dying} {d:Deferred} {w:World}:Ed w (callDeferred p fr callers dying d w):=by
 unfold callDeferred;simp only[Sem.runT_eq];refine Mo trivial ?_;refine Ed.after ?_;split<;>(rename_i h;first|have h2:=BA h|have h2:=Gu h)
 all_goals (try split)
 all_goals first|exact h2|trivial|exact Ed.next h2 I6|exact Ed.next h2 EN
theorem QA {p:Program} {main:Bool} {fr:Frame} {callers:List Frame} {dying:Option Dying} {w:World}:Ed w (unwind p main fr callers dying w):=by
 unfold unwind;simp only[Sem.runT_eq];split
 · refine Ed.after ?_;split
   · rename_i h;exact BA h
   · trivial
 · exact IM
 · split
   · trivial
   · split
     · trivial
     split
     · exact Nat.le_refl _
     split
     · split
       · exact Nat.le_refl _
       split
       · rename_i h;exact BA h
       · trivial
       · trivial
     · split
       · exact FZ
       · trivial
   · split
     · exact EM
     · refine Ed.after ?_;split
       · rename_i h;exact Ed.next (BA h) EM
       · trivial
       · trivial
theorem OC {p:Program} {fr:Frame} {d:Dying} {f:Fatal} {w:World}:Ed w (writeOn p fr d f w):=by
 unfold writeOn;simp only[Sem.runT_eq];split
 · trivial
 split<;>rename_i h
 all_goals (injection h with h h')
 · exact BA h
 · exact Gu h
 · trivial
 · trivial
theorem Vl {p:Program} {fr:Frame} {d:Dying} {w:World}:Ed w (die p fr d w):=by
 unfold die;simp only[Sem.runT_eq];split
 · exact OC
 split
 · split
   · exact Nat.le_refl _
   · exact OB
 · split
   · exact Nat.le_refl _
   · split
     · rename_i h;exact BA h
     · trivial
   · refine Ed.after ?_;split<;>rename_i h
     · exact BA h
     · exact BA h
     · trivial
     · exact Ed.next (Gu h) FZ
     · trivial
   · trivial
theorem SG {p:Program} {fr:Frame} {callers:List Frame} {dying:Option Dying} {g:Nat} {w:World}:Ed w (early p fr callers dying g w):=by
 unfold early;dsimp only
 repeat' split
 all_goals first|trivial|exact Nat.le_refl _|(rename_i h;have h2:=BA h;exact h2)|(rename_i h _;have h2:=BA h;exact h2)|(rename_i h _ _;have h2:=BA h;exact h2)|(rename_i h _ _ _;have h2:=BA h;exact h2)|(rename_i h _ _ _ _;have h2:=BA h;exact h2)|(rename_i h _ _ _ _ _;have h2:=BA h;exact h2)|(rename_i h _ _ _ _ _ _;have h2:=BA h;exact h2)|(rename_i h _ _ _ _ _ _ _;have h2:=BA h;exact h2)
end Dr
end Go.Proofs.YtmedjkhmadfjlaaGreat
namespace Go.Proofs.YtmedjkhmadfjlaaGreat
namespace Dr
theorem Fl {p:Program} {listen:Bool} {fr:Frame} {callers:List Frame} {dying:Option Dying} {s:Sem Next} {w:World}:Ed w (stepG.apply p listen fr callers dying s w):=by
 unfold stepG.apply;simp only[Sem.runT_eq];have hr:I5 w (if listen=true then (s.run p w,s.events p w #[]) else (s.run p w,(#[]:Array Event))).1:=by split<;>exact OA p s w
 revert hr
 generalize (if listen=true then (s.run p w,s.events p w #[]) else (s.run p w,(#[]:Array Event)))=x;obtain ⟨r,es⟩:=x;intro hr;dsimp only at hr ⊢
 refine Ed.after ?_;split
 all_goals first|exact hr|trivial|exact Ed.next hr I6|exact Ed.next hr EN|exact Ed.next hr SG|skip
 all_goals (repeat' split)
 all_goals first|exact hr|trivial|exact Ed.next hr EN
theorem Px {p:Program} {listen:Bool} {fr:Frame} {callers:List Frame} {dying:Option Dying} {w:World}:Ed w (stepG.oper p listen fr callers dying w):=by
 unfold stepG.oper;split
 · trivial
 · split<;>exact Fl
theorem Py {w:World} {α:Type} (o:Option α) {a:GStep} {f:α->GStep} (h1:Ed w a) (h2:∀x,Ed w (f x)):Ed w (o.elim a f):=by
 cases o
 · exact h1
 · exact h2 _
theorem Ue {p:Program} {main listen:Bool} {fr:Frame} {callers:List Frame} {dying:Option Dying} {w:World}:Ed w (stepG.exec p main listen fr callers dying w):=by
 unfold stepG.exec;simp only[Sem.runT_eq];split
 all_goals first|exact Nat.le_refl _|trivial|exact Fl|exact Py _ trivial (fun _=>Fl)|refine Py _ ?_ (fun _=>Nat.le_refl _)|skip
 all_goals first|(split;first|exact Mo (Nat.le_refl _) trivial|exact Nat.le_refl _|skip)|(refine Ed.after ?_;split)|exact Mo Px (Nat.le_refl _)|refine Mo (Nat.le_refl _) ?_
 all_goals first|trivial|exact Nat.le_refl _|skip
 all_goals first|(refine Ed.after ?_;split)|split|skip
 all_goals rename_i h
 all_goals first|trivial|exact BA h|exact Gu h|exact Ed.next (BA h) EM|exact Ed.next (BA h) Fl|exact Ed.after (Ed.next (BA h) Fl)|exact Ed.after (BA h)|exact Ed.after (Gu h)|exact Ed.after (Ed.next (BA h) EM)|exact Ed.after trivial|exact Px|exact Fl|exact Nat.le_refl _|skip
theorem SH {p:Program} {main listen:Bool} {g:Goroutine} {w:World}:Ed w (stepG p main g w listen):=by
 unfold stepG;dsimp only
 split
 · exact Vl
 · exact Ue
 · exact QA
def OD (w:World):Stepped->Prop
 |.next m=>w.drawn<=m.world.drawn
 |.ended _ _=>True
theorem OD.from {w w':World} {s:Stepped} (h:w.drawn<=w'.drawn) (hs:OD w' s):OD w s:=by
 cases s
 · exact Nat.le_trans h hs
 · trivial
theorem Ko {p:Program} {rest:Rest} {gs:Array Goroutine} {i:Nat} {g:Goroutine} {cases:Array CommCase} {blocking:Bool} {shape:CommShape} {w:World}:OD w (communicate p rest gs i g cases blocking shape w).1:=by
 unfold communicate;dsimp only
 split
 · trivial
 split
 · split
   · split
     · rename_i h
       unfold waitingAt at h;split at h
       · split at h
         · cases h;exact Nat.le_refl _
         · cases h
       · cases h;exact Nat.le_refl _
     · trivial
   · exact Nat.le_refl _
 · split
   · trivial
   · rename_i h
     have h2:=BA h;split
     · split
       · rename_i h3;exact Nat.le_trans h2 (Gu h3)
       · trivial
     · exact h2
     · exact h2
     · split
       · exact h2
       · split
         · rename_i h3;have h4:=BA h3;exact Nat.le_trans h2 h4
         · trivial
     · exact h2
     · exact h2
     · trivial
theorem Mp {p:Program} {gs:Array Goroutine} {rest:Rest} {w:World}:OD w (look p gs rest w):=by
 unfold look;dsimp only
 split
 · split
   · trivial
   split
   · trivial
   · split
     · rename_i h
       have h4:=BA h;exact h4
     · trivial
     · trivial
 · trivial
theorem SI {p:Program} {m:Machine} {k:Nat}:OD m.world (serve p m k):=by
 unfold serve;split
 · trivial
 · exact Nat.le_refl _
 · dsimp only
   split
   · trivial
   · exact Nat.le_refl _
theorem SJ (w:World) (c:Nat):(drain w c).2.drawn=w.drawn:=by unfold drain;split<;>rfl
theorem L8 (m:Machine) (k:Nat) (t:Timer) (a b:Nat):(retime m k t a b).2.world.drawn=m.world.drawn:=by
 unfold retime;dsimp only
 split
 · exact SJ _ _
 · rfl
theorem OE {m m':Machine} {op:TimerOp} {v:Value} (h:timerOp m op=.ok (v,m')):m'.world.drawn=m.world.drawn:=by
 unfold timerOp at h;split at h
 · split at h
   · cases h;rfl
   · split at h
     · split at h
       · cases h
       · cases h;rfl
     · cases h
 · unfold timerOp.named at h;split at h
   · injection h with h
     have e:=congrArg (fun x:Value×Machine=>x.2.world.drawn) h;dsimp only at e
     rw[<-e];exact L8 _ _ _ _ _
   · cases h
 · split at h
   · rename_i m2 h2
     unfold timerOp.named at h;have e2:m2.world.drawn=m.world.drawn:=by
       unfold timerOp.opened at h2;split at h2
       · split at h2
         · cases h2;rfl
         · cases h2
       · cases h2;rfl
     split at h
     · injection h with h
       have e:=congrArg (fun x:Value×Machine=>x.2.world.drawn) h;dsimp only at e
       rw[<-e,<-e2];exact L8 _ _ _ _ _
     · cases h
   · cases h
 · cases h
   rfl
theorem Uf {p:Program} {m:Machine} {i:Nat} {listen:Bool}:OD m.world (runT p m i listen).1:=by
 unfold runT;dsimp only
 generalize hs:stepG p (i==0) (m.gs.swapAt! i { (default:Goroutine) with status:=.finished }).1 m.world listen=s;have h:=SH (p:=p) (main:=i==0) (listen:=listen) (g:=(m.gs.swapAt! i { (default:Goroutine) with status:=.finished }).1) (w:=m.world);rw[hs]at h;clear hs;split
 · trivial
 · exact OD.from h Ko
 · exact h
 · exact h
 · split
   · trivial
   · exact h
 · exact h
 · exact OD.from h Mp
 · exact h
 · exact h
 · split
   · exact h
   · split
     · rename_i h2
       unfold endThrow dieOf at h2;cases h2
       exact h
     · trivial
   · trivial
 · split
   · rename_i h2
     exact Nat.le_trans h (Nat.le_of_eq (OE h2).symm)
   · split
     · rename_i h2
       unfold endThrow dieOf at h2;cases h2
       exact h
     · trivial
   · trivial
   · trivial
def F4 (w:World):Move->Prop
 |.goroutine m _=>w.drawn<=m.world.drawn
 |.machine s _=>OD w s
theorem Kq {p:Program} {m:Machine}:F4 m.world (askOn p m):=by
 unfold askOn;dsimp only
 split
 · trivial
 · rename_i h
   have h1:=BA h;split
   · exact OD.from h1 SI
   · split
     · split
       · exact h1
       · split
         · exact h1
         · split<;>trivial
     · split
       · split
         · trivial
         · rename_i h5
           have h6:=Nat.le_trans h1 (BA h5);split
           · exact h6
           · split
             · trivial
             · rename_i h7
               have h8:=BA h7;exact Nat.le_trans h6 h8
       · split
         · trivial
         · rename_i h2
           have h4:=Nat.le_trans h1 (BA h2);split
           · trivial
           · rename_i h5
             have h6:=Nat.le_trans h4 (BA h5);split
             · exact h6
             · split
               · trivial
               · rename_i h7
                 have h8:=BA h7;exact Nat.le_trans h6 h8
         · rename_i h2
           have h4:=BA h2;exact Nat.le_trans h1 h4
         · rename_i h2
           have h4:=BA h2;split
           · trivial
           · rename_i h5
             have h5':=BA h5;have h6:=Nat.le_trans (Nat.le_trans h1 h4) h5';split
             · exact h6
             · split
               · trivial
               · rename_i h7
                 have h8:=BA h7;exact Nat.le_trans h6 h8
theorem F4.from {w w':World} {s:Move} (h:w.drawn<=w'.drawn) (hs:F4 w' s):F4 w s:=by
 cases s
 · exact Nat.le_trans h hs
 · exact OD.from h hs
theorem I7 {p:Program} {m:Machine}:F4 m.world (ask p m):=by
 unfold ask;split
 · split
   · trivial
   · rename_i h
     have h1:=BA h;split
     · rename_i m2 h2
       have h3:=Mp (p:=p) (gs:=m.gs) (rest:=m.rest) (w:=‹World›);rw[h2]at h3;exact F4.from (Nat.le_trans h1 h3) Kq
     · rename_i e h2
       exact OD.from h1 Mp
   · rename_i h
     exact F4.from (BA h) Kq
 · exact Kq
theorem Ug {p:Program} {m:Machine}:F4 m.world (move p m):=by
 unfold move;split
 · split
   · exact Nat.le_refl _
   · trivial
 · split
   · split
     · exact Nat.le_refl _
     · exact F4.from (w':=m.world) (Nat.le_refl _) (I7 (m:={ m with rest:={ m.rest with slice:=none } }))
   · exact I7
theorem Uh {p:Program} {m:Machine}:OD m.world (step p m):=by
 unfold step stepT;have h:=Ug (p:=p) (m:=m);split<;>rename_i h2<;>rw[h2]at h
 · exact OD.from h Uf
 · exact h
theorem Pz {p:Program}:∀(n:Nat) {m m':Machine},runN p n m=.next m'->m.world.drawn<=m'.world.drawn
 |0,m,m',h=>by cases h;exact Nat.le_refl _
 |n+1,m,m',h=>by
  unfold runN at h;have hs:=Uh (p:=p) (m:=m);split at h
  · rename_i m2 h2
    rw[h2]at hs;exact Nat.le_trans hs (Pz n h)
  · cases h2:step p m<;>rename_i h3<;>simp_all
theorem calls_drawn {P:Program} {f:FuncId} {args:Array Value} {w:World} {R:Ending->World->Prop} (h:Calls P f args w R):Calls P f args w (fun e w'=>R e w'/\(∀v,e=.returned v->w.drawn<=w'.drawn)):=by intro cs;obtain ⟨e,w',fr,hr,hc,hx⟩:=h cs;refine ⟨e,w',fr,⟨hr,?_⟩,hc,hx⟩;rintro v rfl;obtain ⟨n,hn⟩:=hc;exact Pz n hn
end Dr
open Go.RowKit in
theorem Ks {w w':World} (h:Below w.heap.size w w') (hd:w.drawn<=w'.drawn):∃q os,w'=Go.Sort.grow (w.drewN q) os:=by
 refine ⟨w'.drawn-w.drawn,w'.heap.extract w.heap.size w'.heap.size,?_⟩;obtain ⟨heap,tape,drawn,os,output⟩:=w';obtain ⟨h1,h2,h3,h4,h5⟩:=h;dsimp only at h1 h2 h3 h4 h5 hd ⊢
 unfold Go.Sort.grow World.drewN;dsimp only
 rw[h1,h2,h3];congr 1
 · apply Array.ext_getElem?;intro i;rw[Array.getElem?_append];split
   · rename_i hi;exact h5 i hi
   · rename_i hi
     rw[Array.getElem?_extract];by_cases hx:i<heap.size
     · rw[if_pos (by omega)];congr 1
       omega
     · rw[if_neg (by omega),Array.getElem?_eq_none (by omega)]
 · omega
end Go.Proofs.YtmedjkhmadfjlaaGreat
namespace Go.Proofs.YtmedjkhmadfjlaaGreat
section
open Go.RowKit
open Tm
def NI (u:Value):Prop:=∀k z,u≠.int k z
def FD (xs:List Value):Prop:=∀u∈xs,NI u
theorem NI.bool (b:Bool):NI (.bool b):=fun _ _ h=>by cases h
theorem NI.slice (A:Option Addr) (n c:Nat):NI (.slice A n c):=fun _ _ h=>by cases h
theorem NI.nl {u:Value} (h:NI u):NL u:=fun z=>h _ z
theorem FD.nls {xs:List Value} (h:FD xs):FB xs:=fun u hu=>(h u hu).nl
theorem FD.append {xs ys:List Value} (h:FD xs) (k:FD ys):FD (xs++ys):=fun u hu=>(List.mem_append.1 hu).elim (h u) (k u)
theorem FD.take {xs:List Value} (h:FD xs) (n:Nat):FD (xs.take n):=fun u hu=>h u (List.mem_of_mem_take hu)
theorem FD.drop {xs:List Value} (h:FD xs) (n:Nat):FD (xs.drop n):=fun u hu=>h u (List.mem_of_mem_drop hu)
theorem FD.nil:FD []:=fun u hu=>by cases hu
theorem FD.zero {z:Value} (h:FD z.cells.toList) (k:Nat) (hz:0<z.cells.size):FD (Builtin.zeroCells z.cells k).toList:=by
 intro u hu;have h2:u∈(Builtin.zeroCells z.cells k):=by simpa using hu
 unfold Builtin.zeroCells at h2;obtain ⟨q,-,hq⟩:=Array.mem_map.1 h2;have hlt:q%z.cells.size<z.cells.size:=Nat.mod_lt _ hz;rw[getElem!_pos z.cells _ hlt]at hq;exact h u (by rw[<-hq];simp)
def Vm (w:World) (g:Nat):Prop:=∃cur T,w.heap[g]?=some (.cells cur T (0,0))/\FD cur.toList
theorem Vm.kp {w w':World} {g:Nat} (h:Vm w g) (ho:AA g w w'):Kp w w':=by obtain ⟨cur,T,hh,hn⟩:=h;exact Kp.block hh hn.nls ho
theorem AJ.offNI {w:World} {A:Option Addr} {n k g:Nat} {ps:List PV} (h:AJ w A n ps k) (hb:Vm w g):0<n->Apart A g:=by
 intro hn ad had he;obtain ⟨cur,T,hh,hni⟩:=hb;obtain ⟨b,o,e,hc⟩:=h.2.1 hn;have hl:0<ps.length:=by rw[h.1];exact hn
 obtain ⟨g0,-,-⟩:=flat_get ps 0 ps[0] (List.getElem?_eq_getElem hl);have h0:=hc 0 _ g0;rw[had]at e;injection e with e
 subst e;have he':b=g:=he;subst he';rw[cell_of_row w b _ _ _ _ hh]at h0;have h2:=Array.mem_of_getElem? h0;exact hni _ (by simpa using h2) _ _ rfl
theorem CY.ni {w w':World} {A:Option Addr} {n k g:Nat} {L:List (Int×Int)} (h:CY w A n L k) (hb:Vm w g) (ho:AA g w w'):CY w' A n L k:=by refine h.keep ho (hb.kp ho) ?_;obtain ⟨ps,h1,-⟩:=h;exact h1.offNI hb
theorem Aw.ni {w w':World} {v:Value} {k g:Nat} {L:List (Int×Int)} {K:Int} (h:Aw w v L K k) (hb:Vm w g) (ho:AA g w w'):Aw w' v L K k:=by obtain ⟨A,n,c,s,B,m,d,e,h1,h2,h3,h4⟩:=h;exact ⟨A,n,c,s,B,m,d,e,h1.ni hb ho,h2,h3,h4.kp (hb.kp ho)⟩
def Kt (w w':World):Prop:=Kp w w'/\∀v L K k,Aw w v L K k->Aw w' v L K k
theorem Kt.refl (w:World):Kt w w:=⟨Kp.refl w,fun _ _ _ _ h=>h⟩
theorem Kt.trans {a b c:World} (h:Kt a b) (k:Kt b c):Kt a c:=⟨h.1.trans k.1,fun _ _ _ _ x=>k.2 _ _ _ _ (h.2 _ _ _ _ x)⟩
theorem Kt.below {w w':World} (h:Below w.heap.size w w'):Kt w w':=⟨Kp.of_below h,fun _ _ _ _ x=>x.below h⟩
theorem Kt.ni {w w':World} {g:Nat} (hb:Vm w g) (ho:AA g w w'):Kt w w':=⟨hb.kp ho,fun _ _ _ _ x=>x.ni hb ho⟩
theorem Kt.z {w w':World} {v:Value} {Z:Int} {k:Nat} (h:Kt w w') (x:Au w v Z k):Au w' v Z k:=x.kp h.1
theorem Kt.none {w w':World} (hg:w.grownBy w' Option.none):Kt w w':=Kt.below ⟨hg.os,hg.tape,hg.output,hg.size,fun k hk=>hg.block k hk (fun e=>by cases e)⟩
abbrev LN (T:TypeId) (sz:Nat) (w:World) (base:Nat) (v:Value) (n:Nat) (xs:List Value):Prop:=BR FD T sz w base v n xs
theorem BR.kt {T:TypeId} {sz:Nat} {w w':World} {base:Nat} {v:Value} {n:Nat} {xs:List Value} (h:LN T sz w base v n xs) (hg:w.grownBy w' v.ownBlock):Kt w w':=by
 rcases h.2 with ⟨rfl,-⟩|⟨g,cap,cur,rfl,hb,hh,-,-,-,-,-,hp⟩
 · exact Kt.none hg
 · exact Kt.ni ⟨cur,T,hh,hp⟩ hg
theorem BR.nib {T:TypeId} {sz:Nat} {w:World} {base g c:Nat} {n:Nat} {xs:List Value} (h:LN T sz w base (.slice (some ⟨g,0,Option.none⟩) n c) n xs):Vm w g:=by
 rcases h.2 with ⟨hv,-⟩|⟨g',cap,cur,hv,hb,hh,-,-,-,-,-,hp⟩
 · cases hv
 · injection hv with e1 e2 e3
   injection e1 with e1
   injection e1 with e1
   subst e1;exact ⟨cur,T,hh,hp⟩
def Tn (row:Option Nat) (w w':World):Prop:=w.grownBy w' row/\Kt w w'
theorem Tn.refl (row:Option Nat) (w:World):Tn row w w:=⟨⟨rfl,rfl,rfl,Nat.le_refl _,fun _ _ _=>rfl⟩,Kt.refl w⟩
theorem Tn.of_below {row:Option Nat} {w w':World} (h:Below w.heap.size w w'):Tn row w w':=⟨⟨h.os,h.tape,h.output,h.size,fun k hk _=>h.block k hk⟩,Kt.below h⟩
theorem SK:(Tryz.prog.info? 42).map (fun i=>(i.zero,i.size,i.bytes))=some (some (.agg #[.slice Option.none 0 0,.bool false,.slice Option.none 0 0,.bool false]),4,64):=by kernel_rfl
theorem I8 {P:Program} {t:TypeId} {z:Value} {s b:Nat} (h:(P.info? t).map (fun i=>(i.zero,i.size,i.bytes))=some (some z,s,b)):∃i,P.info? t=some i/\i.zero=some z/\i.size=s/\i.bytes=b:=by
 cases hq:P.info? t with
 |none=>rw[hq]at h;cases h
 |some i=> rw[hq]at h;simp only[Option.map_some,Option.some.injEq,Prod.mk.injEq]at h;exact ⟨i,rfl,h.1,h.2.1,h.2.2⟩
theorem Mq (a b:List RV):AL (a++b)=AL a++AL b:=by simp[AL]
theorem QB (a:List RV):(AL a).length=a.length*4:=by
 induction a with
 |nil=>rfl
 |cons x a ih=>rw[GP,List.length_append,ih,List.length_cons];simp[RV.cells];omega
theorem QC (ps:List RV):∀u∈AL ps,u.oneCell'=true:=by intro u hu;obtain ⟨l,hl,hu⟩:=List.mem_flatten.1 hu;obtain ⟨p,-,rfl⟩:=List.mem_map.1 hl;simp[RV.cells]at hu;rcases hu with rfl|rfl|rfl|rfl<;>rfl
theorem N2 (ps:List RV):FD (AL ps):=by intro u hu;obtain ⟨l,hl,hu⟩:=List.mem_flatten.1 hu;obtain ⟨p,-,rfl⟩:=List.mem_map.1 hl;simp[RV.cells]at hu;rcases hu with rfl|rfl|rfl|rfl<;>first|exact NI.slice _ _ _|exact NI.bool _
theorem P2:FD (Value.agg #[.slice Option.none 0 0,.bool false,.slice Option.none 0 0,.bool false]).cells.toList:=by intro u hu;simp[Value.cells]at hu;rcases hu with rfl|rfl|rfl|rfl<;>first|exact NI.slice _ _ _|exact NI.bool _
theorem CB {w:World} (base:Nat) (v:Value) (n:Nat) (rs:List RV) (hown:LN 42 4 w base v n (AL rs)) (ad:Addr) (m c:Nat) (qs:List RV) (hq:qs.length=m) (hc:∀j u,(AL qs)[j]?=some u->w.cell? (ad.add j)=some u) (hn:n<=1099511) (hm:m<=1099511) (hbase:base<=w.heap.size) :
  ∃v' w',(Builtin.append_ #[22,22] 22 #[v,.slice (some ad) m c]).run Tryz.prog w=.ok v' w'/\LN 42 4 w' base v' (n+m) (AL (rs++qs))/\Tn v.ownBlock w w':=by
 obtain ⟨i0,hi0,hz0,hz1,hz2⟩:=I8 SK;obtain ⟨v',w',hr,h2,h3,h4⟩:=Fj (P:=Tryz.prog) w FD base 22 22 42 i0 _ 4 64 Tryz.underlying22 hi0 hz0 hz1 hz2 rfl (by decide) P2.nls v n (AL rs) hown ad m c (AL qs)
  (by rw[QB,hq]) hc (QC _) (N2 _).nls (by unfold maxLen;omega) (by omega) hbase FD.nil (fun a b _ ha hb=>ha.append hb) (fun a k ha=>ha.take k) (fun a k _ ha=>ha.drop k) (fun k=>P2.zero k (by decide)) (N2 _)
 exact ⟨v',w',hr,by rw[Mq];exact h2,h3,hown.kt h3⟩
end
section
open Go.RowKit
def putAt (cur:Array Value) (off:Nat) (cells:Array Value):Array Value:=(cur.toList.take off++cells.toList++cur.toList.drop (off+cells.size)).toArray
theorem G8 {P:Program} {w:World} {o:Oper} {a:Act} {T T2:TypeId} {x y:Operand} {g off:Nat} {cells cur:Array Value} (ho:o.op=.store T x y) (hx:a.eval x=.pointer (some ⟨g,off,none⟩)) (hy:a.eval y=.agg cells) (hg:w.heap[g]?=some (.cells cur T2 (0,0)))
  (hi:(P.info? T).map (·.size)=some cells.size) (hfit:off+cells.size<=cur.size) (h1:cells.all (·.oneCell')=true):∃w',(execOp a.eval o).run P w=.ok .skip w'/\w'.heap[g]?=some (.cells (putAt cur off cells) T2 (0,0))/\AA g w w':=by
 have hr:=run_storeCells_at (P:=P) g off T2 cells.toList 0 cur w hg (by simpa using hfit) (fun v hv=>(Array.all_eq_true_iff_forall_mem.1 h1) v (by simpa using hv));refine ⟨w.setRow g (putAt cur off cells),?_,setRow_heap w g cur _ _ _ hg,Dl w g _⟩;have hst:(storeVar T ⟨g,off,none⟩ (.agg cells)).run P w=.ok () (w.setRow g (putAt cur off cells)):=by
  cases hq:P.info? T with
  |none=>simp[hq]at hi
  |some i=> have hs:cells.size=i.size:=(by simp[hq]at hi;omega);simp only[Nat.add_zero,Array.length_toList]at hr;simp[storeVar,sizeOf,typeInfo,hq,Value.cells,hs];rw[hr];rfl
 unfold execOp;simp only[ho,hx,hy,Instr.storeAt,Instr.sureAddr,Sem.run_bind,Sem.run_pure,Result.andThen_ok,hst]
theorem Does.store_at {P:Program} {w:World} {o:Oper} {a:Act} {T T2:TypeId} {x y g off:Nat} {cells cur:Array Value} {R:Value->World->Prop} (ho:o.op=.store T (.tmp x) (.tmp y)) (hx:a.tmps.getD x undef=.pointer (some ⟨g,off,none⟩)) (hy:a.tmps.getD y undef=.agg cells) (hg:w.heap[g]?=some (.cells cur T2 (0,0)))
  (hi:(P.info? T).map (·.size)=some cells.size) (hfit:off+cells.size<=cur.size) (h1:cells.all (·.oneCell')=true) (hR:∀w',w'.heap[g]?=some (.cells (putAt cur off cells) T2 (0,0))->AA g w w'->R undef w'):Does P a o w R:=by
 obtain ⟨w',h2,h3,h4⟩:=G8 (P:=P) (a:=a) ho hx hy hg hi hfit h1;exact Does.skip h2 (hR w' h3 h4)
theorem IP {P:Program} {w:World} {ops:Array Oper} {rest:List Oper} {o:Oper} {a:Act} {Q:Exit->Act->World->Prop} (hgd:o.guard=none) (T T2:TypeId) (x y:Operand) (ho:o.op=.store T x y)
  (g off:Nat) (cells:Array Value) (hx:a.eval x=.pointer (some ⟨g,off,none⟩)) (hy:a.eval y=.agg cells) (cur:Array Value) (hg:w.heap[g]?=some (.cells cur T2 (0,0))) (hi:(P.info? T).map (·.size)=some cells.size) (hfit:off+cells.size<=cur.size) (h1:cells.all (·.oneCell')=true)
  (h:∀w',w'.heap[g]?=some (.cells (putAt cur off cells) T2 (0,0))->AA g w w'->wpList P ops Q rest (a.put o.dst undef) w'):wpList P ops Q (o::rest) a w:=by
 obtain ⟨w',h2,h3,h4⟩:=G8 (P:=P) (a:=a) ho hx hy hg hi hfit h1;refine wpList_plain hgd fun K hK=>?_
 unfold Oper.wp;rw[h2];exact hK _ _ (h w' h3 h4)
end
section
open Go.RowKit
open Tm
structure EV where
 g:Bool
 s:Bool
 B:Option Addr
 m:Nat
 d:Nat
 Z:Int
def EV.cells (e:EV):List Value:=[.bool e.g,.bool e.s,.slice e.B e.m e.d]
def EV.agg (e:EV):Value:=.agg #[.bool e.g,.bool e.s,.slice e.B e.m e.d]
def EV.num (e:EV):Value:=.agg #[.bool e.s,.slice e.B e.m e.d]
def EV.opt (e:EV):Option Int:=if e.g=true then some e.Z else none
structure BV where
 A:Option Addr
 n:Nat
 c:Nat
 s:Bool
 B:Option Addr
 m:Nat
 d:Nat
 lo:EV
 hi:EV
 S:List (Int×Int)
def BV.trm (b:BV):Value:=.agg #[.slice b.A b.n b.c,.bool b.s,.slice b.B b.m b.d]
def BV.cells (b:BV):List Value:=[.slice b.A b.n b.c,.bool b.s,.slice b.B b.m b.d,.bool b.lo.g,.bool b.lo.s,.slice b.lo.B b.lo.m b.lo.d,.bool b.hi.g,.bool b.hi.s,.slice b.hi.B b.hi.m b.hi.d]
def BV.agg (b:BV):Value:=.agg #[.slice b.A b.n b.c,.bool b.s,.slice b.B b.m b.d,.bool b.lo.g,.bool b.lo.s,.slice b.lo.B b.lo.m b.lo.d,.bool b.hi.g,.bool b.hi.s,.slice b.hi.B b.hi.m b.hi.d]
def BV.bd (b:BV):Bd:=⟨b.S,b.lo.opt,b.hi.opt⟩
def CN (w:World) (b:BV) (k:Nat):Prop:=Aw w b.trm b.S 0 k/\Au w b.lo.num b.lo.Z k/\Au w b.hi.num b.hi.Z k
theorem CN.below {w w':World} {b:BV} {k:Nat} (h:CN w b k) (hb:Below w.heap.size w w'):CN w' b k:=⟨h.1.below hb,h.2.1.below hb,h.2.2.below hb⟩
theorem CN.mono {w:World} {b:BV} {k j:Nat} (h:CN w b k) (hj:k<=j):CN w b j:=⟨h.1.mono hj,h.2.1.mono hj,h.2.2.mono hj⟩
theorem CN.kt {w w':World} {b:BV} {k:Nat} (h:CN w b k) (hk:Kt w w'):CN w' b k:=⟨hk.2 _ _ _ _ h.1,hk.z h.2.1,hk.z h.2.2⟩
def P3 (bd:Bd) (k:Nat) (w:World) (e:Ending) (w':World):Prop:=∃b:BV,e=.returned b.agg/\CN w' b k/\b.bd=bd/\Below w.heap.size w w'
def P4 (o:Option Int) (k:Nat) (w:World) (e:Ending) (w':World):Prop:=∃x:EV,e=.returned x.agg/\Au w' x.num x.Z k/\x.opt=o/\Below w.heap.size w w'
theorem BV.nis (b:BV):FD b.cells:=by intro u hu;simp[BV.cells]at hu;rcases hu with rfl|rfl|rfl|rfl|rfl|rfl|rfl|rfl|rfl<;>first|exact NI.slice _ _ _|exact NI.bool _
theorem RV.nis (b:RV):FD b.cells:=by intro u hu;simp[RV.cells]at hu;rcases hu with rfl|rfl|rfl|rfl<;>first|exact NI.slice _ _ _|exact NI.bool _
theorem EV.nis (b:EV):FD b.cells:=by intro u hu;simp[EV.cells]at hu;rcases hu with rfl|rfl|rfl<;>first|exact NI.slice _ _ _|exact NI.bool _
theorem AK.kt {T:TypeId} {w w':World} {g:Nat} {cs:Array Value} (h:AK T w g cs) (hn:FD cs.toList) (ho:AA g w w'):Kt w w':=Kt.ni ⟨cs,T,h,hn⟩ ho
theorem DY {fn:Func} {R:Ending->World->Prop} {a:Act} {w:World} {g p:Nat} {cs:Array Value} (hres:fn.results=#[.cell p 54]) (hp:a.tmps.getD p undef=.pointer (some ⟨g,0,none⟩))
  (hb:AK 54 w g cs) (hs:cs.size=9) (hd:a.defers=[]) (hR:R (.returned (.agg cs)) w):bodyPost Tryz.prog fn R .ret a w:=
 bodyPost_ret (results_cell_row hres _ _ g _ cs _ _ hp hb Tryz.underlying54 rfl (by rw[hs];kernel_rfl)) hd hR
theorem CU {fn:Func} {R:Ending->World->Prop} {a:Act} {w:World} {g p:Nat} {cs:Array Value} (hres:fn.results=#[.cell p 52]) (hp:a.tmps.getD p undef=.pointer (some ⟨g,0,none⟩))
  (hb:AK 52 w g cs) (hs:cs.size=3) (hd:a.defers=[]) (hR:R (.returned (.agg cs)) w):bodyPost Tryz.prog fn R .ret a w:=
 bodyPost_ret (results_cell_row hres _ _ g _ cs _ _ hp hb Tryz.underlying52 rfl (by rw[hs];kernel_rfl)) hd hR
theorem Fo {w:World} {ops:Array Oper} {rest:List Oper} {o:Oper} {a:Act} {Q:Exit->Act->World->Prop} (hgd:o.guard=none) (x y:Operand) (ho:o.op=.store 52 x y)
  (p:Nat) (g s:Bool) (B:Option Addr) (m d:Nat) (hx:a.eval x=.pointer (some ⟨p,0,none⟩)) (hy:a.eval y=.agg #[.bool g,.bool s,.slice B m d]) (u v z:Value) (hb:AK 52 w p #[u,v,z])
  (h:∀w',AK 52 w' p #[.bool g,.bool s,.slice B m d]->AA p w w'->wpList Tryz.prog ops Q rest (a.put o.dst undef) w'):wpList Tryz.prog ops Q (o::rest) a w:=
 CQ hgd 52 x y ho p _ hx hy _ hb (by kernel_rfl) rfl (by simp[Value.oneCell']) h
theorem EO {w:World} {ops:Array Oper} {rest:List Oper} {o:Oper} {a:Act} {Q:Exit->Act->World->Prop} (hgd:o.guard=none) (x y:Operand) (ho:o.op=.store 54 x y)
  (p:Nat) (A:Option Addr) (n c:Nat) (s:Bool) (B:Option Addr) (m d:Nat) (g1 s1:Bool) (B1:Option Addr) (m1 d1:Nat) (g2 s2:Bool) (B2:Option Addr) (m2 d2:Nat) (hx:a.eval x=.pointer (some ⟨p,0,none⟩)) (hy:a.eval y=.agg #[.slice A n c,.bool s,.slice B m d,.bool g1,.bool s1,.slice B1 m1 d1,.bool g2,.bool s2,.slice B2 m2 d2]) (z0 z1 z2 z3 z4 z5 z6 z7 z8:Value) (hb:AK 54 w p #[z0,z1,z2,z3,z4,z5,z6,z7,z8])
  (h:∀w',AK 54 w' p #[.slice A n c,.bool s,.slice B m d,.bool g1,.bool s1,.slice B1 m1 d1,.bool g2,.bool s2,.slice B2 m2 d2]->AA p w w'->wpList Tryz.prog ops Q rest (a.put o.dst undef) w'):wpList Tryz.prog ops Q (o::rest) a w:=
 CQ hgd 54 x y ho p _ hx hy _ hb (by kernel_rfl) rfl (by simp[Value.oneCell']) h
theorem QD {T:TypeId} {w:World} {g:Nat} {a0 a1 a2 a3 a4 a5 a6 a7 a8 x y z:Value} (h:w.heap[g]?=some (.cells (putAt #[a0,a1,a2,a3,a4,a5,a6,a7,a8] 6 #[x,y,z]) T (0,0))):AK T w g #[a0,a1,a2,a3,a4,a5,x,y,z]:=h
theorem IQ {w:World} {ops:Array Oper} {rest:List Oper} {o:Oper} {a:Act} {Q:Exit->Act->World->Prop} (hgd:o.guard=none) (x y:Operand) (ho:o.op=.store 52 x y)
  (p:Nat) (g s:Bool) (B:Option Addr) (m d:Nat) (hx:a.eval x=.pointer (some ⟨p,6,none⟩)) (hy:a.eval y=.agg #[.bool g,.bool s,.slice B m d]) (a0 a1 a2 a3 a4 a5 a6 a7 a8:Value) (hb:AK 54 w p #[a0,a1,a2,a3,a4,a5,a6,a7,a8])
  (h:∀w',AK 54 w' p #[a0,a1,a2,a3,a4,a5,.bool g,.bool s,.slice B m d]->AA p w w'->wpList Tryz.prog ops Q rest (a.put o.dst undef) w'):wpList Tryz.prog ops Q (o::rest) a w:=
 IP hgd 52 54 x y ho p 6 _ hx hy _ hb (by kernel_rfl) (by simp) (by simp[Value.oneCell']) (fun w' h1 h2=>h w' (QD h1) h2)
end
end Go.Proofs.YtmedjkhmadfjlaaGreat
