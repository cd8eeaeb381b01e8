/- Texts of one seat, put together: DrawnB RowNI TidyM SortK. -/
import Derived.Test.YtemfjdedjcjegaaGreatDoorK27
import Derived.Test.YtemfjdedjcjegaaGreatDoorK23
import Derived.Test.YtemfjdedjcjegaaGreatDoorK19
import Derived.Test.YtemfjdedjcjegaaGreatDoorK20
import Derived.Shelf.SlSortCmp.NoneTotal
set_option linter.unusedVariables false
set_option linter.unusedSimpArgs false
set_option maxRecDepth 100000
set_option maxHeartbeats 16000000
namespace Go.Proofs.YtemfjdedjcjegaaGreatDoor
namespace Dr
theorem Ez {p:Program} {listen:Bool} {fr:Frame} {callers:List Frame} {dying:Option Dying} {s:Sem Next} {w:World}:Dn w (stepG.apply p listen fr callers dying s w):=by
 unfold stepG.apply;simp only[Sem.runT_eq];have hr:GY w (if listen=true then (s.run p w,s.events p w #[]) else (s.run p w,(#[]:Array Event))).1:=by split<;>exact NE p s w
 revert hr
 generalize (if listen=true then (s.run p w,s.events p w #[]) else (s.run p w,(#[]:Array Event)))=x;obtain ⟨r,es⟩:=x;intro hr;dsimp only at hr ⊢
 refine Dn.after ?_;split
 all_goals first|exact hr|trivial|exact Dn.next hr Ha|exact Dn.next hr Ej|exact Dn.next hr Rv|skip
 all_goals (repeat' split)
 all_goals first|exact hr|trivial|exact Dn.next hr Ej
theorem Ov {p:Program} {listen:Bool} {fr:Frame} {callers:List Frame} {dying:Option Dying} {w:World}:Dn w (stepG.oper p listen fr callers dying w):=by
 unfold stepG.oper;split
 · trivial
 · split<;>exact Ez
theorem Ow {w:World} {α:Type} (o:Option α) {a:GStep} {f:α->GStep} (h1:Dn w a) (h2:∀x,Dn w (f x)):Dn w (o.elim a f):=by
 cases o
 · exact h1
 · exact h2 _
theorem Sy {p:Program} {main listen:Bool} {fr:Frame} {callers:List Frame} {dying:Option Dying} {w:World}:Dn w (stepG.exec p main listen fr callers dying w):=by
 unfold stepG.exec;simp only[Sem.runT_eq];split
 all_goals first|exact Nat.le_refl _|trivial|exact Ez|exact Ow _ trivial (fun _=>Ez)|refine Ow _ ?_ (fun _=>Nat.le_refl _)|skip
 all_goals first|(split;first|exact Lb (Nat.le_refl _) trivial|exact Nat.le_refl _|skip)|(refine Dn.after ?_;split)|exact Lb Ov (Nat.le_refl _)|refine Lb (Nat.le_refl _) ?_
 all_goals first|trivial|exact Nat.le_refl _|skip
 all_goals first|(refine Dn.after ?_;split)|split|skip
 all_goals rename_i h
 all_goals first|trivial|exact Bc h|exact F4 h|exact Dn.next (Bc h) Ei|exact Dn.next (Bc h) Ez|exact Dn.after (Dn.next (Bc h) Ez)|exact Dn.after (Bc h)|exact Dn.after (F4 h)|exact Dn.after (Dn.next (Bc h) Ei)|exact Dn.after trivial|exact Ov|exact Ez|exact Nat.le_refl _|skip
theorem Rw {p:Program} {main listen:Bool} {g:Goroutine} {w:World}:Dn w (stepG p main g w listen):=by
 unfold stepG;dsimp only
 split
 · exact TF
 · exact Sy
 · exact P9
def NH (w:World):Stepped->Prop
 |.next m=>w.drawn<=m.world.drawn
 |.ended _ _=>True
theorem NH.from {w w':World} {s:Stepped} (h:w.drawn<=w'.drawn) (hs:NH w' s):NH w s:=by
 cases s
 · exact Nat.le_trans h hs
 · trivial
theorem Jd {p:Program} {rest:Rest} {gs:Array Goroutine} {i:Nat} {g:Goroutine} {cases:Array CommCase} {blocking:Bool} {shape:CommShape} {w:World}:NH w (communicate p rest gs i g cases blocking shape w).1:=by
 unfold communicate;dsimp only
 split
 · trivial
 split
 · split
   · split
     · rename_i h
       unfold waitingAt at h;split at h
       · split at h
         · cases h;exact Nat.le_refl _
         · cases h
       · cases h;exact Nat.le_refl _
     · trivial
   · exact Nat.le_refl _
 · split
   · trivial
   · rename_i h
     have h2:=Bc h;split
     · split
       · rename_i h3;exact Nat.le_trans h2 (F4 h3)
       · trivial
     · exact h2
     · exact h2
     · split
       · exact h2
       · split
         · rename_i h3;have h4:=Bc h3;exact Nat.le_trans h2 h4
         · trivial
     · exact h2
     · exact h2
     · trivial
theorem Lc {p:Program} {gs:Array Goroutine} {rest:Rest} {w:World}:NH w (look p gs rest w):=by
 unfold look;dsimp only
 split
 · split
   · trivial
   split
   · trivial
   · split
     · rename_i h
       have h4:=Bc h;exact h4
     · trivial
     · trivial
 · trivial
theorem Rx {p:Program} {m:Machine} {k:Nat}:NH m.world (serve p m k):=by
 unfold serve;split
 · trivial
 · exact Nat.le_refl _
 · dsimp only
   split
   · trivial
   · exact Nat.le_refl _
theorem Ry (w:World) (c:Nat):(drain w c).2.drawn=w.drawn:=by unfold drain;split<;>rfl
theorem Ko (m:Machine) (k:Nat) (t:Timer) (a b:Nat):(retime m k t a b).2.world.drawn=m.world.drawn:=by
 unfold retime;dsimp only
 split
 · exact Ry _ _
 · rfl
theorem NJ {m m':Machine} {op:TimerOp} {v:Value} (h:timerOp m op=.ok (v,m')):m'.world.drawn=m.world.drawn:=by
 unfold timerOp at h;split at h
 · split at h
   · cases h;rfl
   · split at h
     · split at h
       · cases h
       · cases h;rfl
     · cases h
 · unfold timerOp.named at h;split at h
   · injection h with h
     have e:=congrArg (fun x:Value×Machine=>x.2.world.drawn) h;dsimp only at e
     rw[<-e];exact Ko _ _ _ _ _
   · cases h
 · split at h
   · rename_i m2 h2
     unfold timerOp.named at h;have e2:m2.world.drawn=m.world.drawn:=by
       unfold timerOp.opened at h2;split at h2
       · split at h2
         · cases h2;rfl
         · cases h2
       · cases h2;rfl
     split at h
     · injection h with h
       have e:=congrArg (fun x:Value×Machine=>x.2.world.drawn) h;dsimp only at e
       rw[<-e,<-e2];exact Ko _ _ _ _ _
     · cases h
   · cases h
 · cases h
   rfl
theorem Sz {p:Program} {m:Machine} {i:Nat} {listen:Bool}:NH m.world (runT p m i listen).1:=by
 unfold runT;dsimp only
 generalize hs:stepG p (i==0) (m.gs.swapAt! i { (default:Goroutine) with status:=.finished }).1 m.world listen=s;have h:=Rw (p:=p) (main:=i==0) (listen:=listen) (g:=(m.gs.swapAt! i { (default:Goroutine) with status:=.finished }).1) (w:=m.world);rw[hs]at h;clear hs;split
 · trivial
 · exact NH.from h Jd
 · exact h
 · exact h
 · split
   · trivial
   · exact h
 · exact h
 · exact NH.from h Lc
 · exact h
 · exact h
 · split
   · exact h
   · split
     · rename_i h2
       unfold endThrow dieOf at h2;cases h2
       exact h
     · trivial
   · trivial
 · split
   · rename_i h2
     exact Nat.le_trans h (Nat.le_of_eq (NJ h2).symm)
   · split
     · rename_i h2
       unfold endThrow dieOf at h2;cases h2
       exact h
     · trivial
   · trivial
   · trivial
def EJ (w:World):Move->Prop
 |.goroutine m _=>w.drawn<=m.world.drawn
 |.machine s _=>NH w s
theorem Je {p:Program} {m:Machine}:EJ m.world (askOn p m):=by
 unfold askOn;dsimp only
 split
 · trivial
 · rename_i h
   have h1:=Bc h;split
   · exact NH.from h1 Rx
   · split
     · split
       · exact h1
       · split
         · exact h1
         · split<;>trivial
     · split
       · split
         · trivial
         · rename_i h5
           have h6:=Nat.le_trans h1 (Bc h5);split
           · exact h6
           · split
             · trivial
             · rename_i h7
               have h8:=Bc h7;exact Nat.le_trans h6 h8
       · split
         · trivial
         · rename_i h2
           have h4:=Nat.le_trans h1 (Bc h2);split
           · trivial
           · rename_i h5
             have h6:=Nat.le_trans h4 (Bc h5);split
             · exact h6
             · split
               · trivial
               · rename_i h7
                 have h8:=Bc h7;exact Nat.le_trans h6 h8
         · rename_i h2
           have h4:=Bc h2;exact Nat.le_trans h1 h4
         · rename_i h2
           have h4:=Bc h2;split
           · trivial
           · rename_i h5
             have h5':=Bc h5;have h6:=Nat.le_trans (Nat.le_trans h1 h4) h5';split
             · exact h6
             · split
               · trivial
               · rename_i h7
                 have h8:=Bc h7;exact Nat.le_trans h6 h8
theorem EJ.from {w w':World} {s:Move} (h:w.drawn<=w'.drawn) (hs:EJ w' s):EJ w s:=by
 cases s
 · exact Nat.le_trans h hs
 · exact NH.from h hs
theorem Hb {p:Program} {m:Machine}:EJ m.world (ask p m):=by
 unfold ask;split
 · split
   · trivial
   · rename_i h
     have h1:=Bc h;split
     · rename_i m2 h2
       have h3:=Lc (p:=p) (gs:=m.gs) (rest:=m.rest) (w:=‹World›);rw[h2]at h3;exact EJ.from (Nat.le_trans h1 h3) Je
     · rename_i e h2
       exact NH.from h1 Lc
   · rename_i h
     exact EJ.from (Bc h) Je
 · exact Je
theorem S0 {p:Program} {m:Machine}:EJ m.world (move p m):=by
 unfold move;split
 · split
   · exact Nat.le_refl _
   · trivial
 · split
   · split
     · exact Nat.le_refl _
     · exact EJ.from (w':=m.world) (Nat.le_refl _) (Hb (m:={ m with rest:={ m.rest with slice:=none } }))
   · exact Hb
theorem S1 {p:Program} {m:Machine}:NH m.world (step p m):=by
 unfold step stepT;have h:=S0 (p:=p) (m:=m);split<;>rename_i h2<;>rw[h2]at h
 · exact NH.from h Sz
 · exact h
theorem Ox {p:Program}:∀(n:Nat) {m m':Machine},runN p n m=.next m'->m.world.drawn<=m'.world.drawn
 |0,m,m',h=>by cases h;exact Nat.le_refl _
 |n+1,m,m',h=>by
  unfold runN at h;have hs:=S1 (p:=p) (m:=m);split at h
  · rename_i m2 h2
    rw[h2]at hs;exact Nat.le_trans hs (Ox n h)
  · cases h2:step p m<;>rename_i h3<;>simp_all
theorem calls_drawn {P:Program} {f:FuncId} {args:Array Value} {w:World} {R:Ending->World->Prop} (h:Calls P f args w R):Calls P f args w (fun e w'=>R e w'/\(∀v,e=.returned v->w.drawn<=w'.drawn)):=by intro cs;obtain ⟨e,w',fr,hr,hc,hx⟩:=h cs;refine ⟨e,w',fr,⟨hr,?_⟩,hc,hx⟩;rintro v rfl;obtain ⟨n,hn⟩:=hc;exact Ox n hn
end Dr
open Go.RowKit in
theorem Jf {w w':World} (h:Below w.heap.size w w') (hd:w.drawn<=w'.drawn):∃q os,w'=Go.Sort.grow (w.drewN q) os:=by
 refine ⟨w'.drawn-w.drawn,w'.heap.extract w.heap.size w'.heap.size,?_⟩;obtain ⟨heap,tape,drawn,os,output⟩:=w';obtain ⟨h1,h2,h3,h4,h5⟩:=h;dsimp only at h1 h2 h3 h4 h5 hd ⊢
 unfold Go.Sort.grow World.drewN;dsimp only
 rw[h1,h2,h3];congr 1
 · apply Array.ext_getElem?;intro i;rw[Array.getElem?_append];split
   · rename_i hi;exact h5 i hi
   · rename_i hi
     rw[Array.getElem?_extract];by_cases hx:i<heap.size
     · rw[if_pos (by omega)];congr 1
       omega
     · rw[if_neg (by omega),Array.getElem?_eq_none (by omega)]
 · omega
end Go.Proofs.YtemfjdedjcjegaaGreatDoor
namespace Go.Proofs.YtemfjdedjcjegaaGreatDoor
section
open Go.RowKit
open Tm
def NI (u:Value):Prop:=∀k z,u≠.int k z
def Fw (xs:List Value):Prop:=∀u∈xs,NI u
theorem NI.bool (b:Bool):NI (.bool b):=fun _ _ h=>by cases h
theorem NI.slice (A:Option Addr) (n c:Nat):NI (.slice A n c):=fun _ _ h=>by cases h
theorem NI.nl {u:Value} (h:NI u):NL u:=fun z=>h _ z
theorem Fw.nls {xs:List Value} (h:Fw xs):ES xs:=fun u hu=>(h u hu).nl
theorem Fw.append {xs ys:List Value} (h:Fw xs) (k:Fw ys):Fw (xs++ys):=fun u hu=>(List.mem_append.1 hu).elim (h u) (k u)
theorem Fw.take {xs:List Value} (h:Fw xs) (n:Nat):Fw (xs.take n):=fun u hu=>h u (List.mem_of_mem_take hu)
theorem Fw.drop {xs:List Value} (h:Fw xs) (n:Nat):Fw (xs.drop n):=fun u hu=>h u (List.mem_of_mem_drop hu)
theorem Fw.nil:Fw []:=fun u hu=>by cases hu
theorem Fw.zero {z:Value} (h:Fw z.cells.toList) (k:Nat) (hz:0<z.cells.size):Fw (Builtin.zeroCells z.cells k).toList:=by
 intro u hu;have h2:u∈(Builtin.zeroCells z.cells k):=by simpa using hu
 unfold Builtin.zeroCells at h2;obtain ⟨q,-,hq⟩:=Array.mem_map.1 h2;have hlt:q%z.cells.size<z.cells.size:=Nat.mod_lt _ hz;rw[getElem!_pos z.cells _ hlt]at hq;exact h u (by rw[<-hq];simp)
def TH (w:World) (g:Nat):Prop:=∃cur T,w.heap[g]?=some (.cells cur T (0,0))/\Fw cur.toList
theorem TH.kp {w w':World} {g:Nat} (h:TH w g) (ho:Ao g w w'):Kp w w':=by obtain ⟨cur,T,hh,hn⟩:=h;exact Kp.block hh hn.nls ho
theorem AB.offNI {w:World} {A:Option Addr} {n k g:Nat} {ps:List PV} (h:AB w A n ps k) (hb:TH w g):0<n->Apart A g:=by
 intro hn ad had he;obtain ⟨cur,T,hh,hni⟩:=hb;obtain ⟨b,o,e,hc⟩:=h.2.1 hn;have hl:0<ps.length:=by rw[h.1];exact hn
 obtain ⟨g0,-,-⟩:=flat_get ps 0 ps[0] (List.getElem?_eq_getElem hl);have h0:=hc 0 _ g0;rw[had]at e;injection e with e
 subst e;have he':b=g:=he;subst he';rw[cell_of_row w b _ _ _ _ hh]at h0;have h2:=Array.mem_of_getElem? h0;exact hni _ (by simpa using h2) _ _ rfl
theorem Cw.ni {w w':World} {A:Option Addr} {n k g:Nat} {L:List (Int×Int)} (h:Cw w A n L k) (hb:TH w g) (ho:Ao g w w'):Cw w' A n L k:=by refine h.keep ho (hb.kp ho) ?_;obtain ⟨ps,h1,-⟩:=h;exact h1.offNI hb
theorem An.ni {w w':World} {v:Value} {k g:Nat} {L:List (Int×Int)} {K:Int} (h:An w v L K k) (hb:TH w g) (ho:Ao g w w'):An w' v L K k:=by obtain ⟨A,n,c,s,B,m,d,e,h1,h2,h3,h4⟩:=h;exact ⟨A,n,c,s,B,m,d,e,h1.ni hb ho,h2,h3,h4.kp (hb.kp ho)⟩
def Kt (w w':World):Prop:=Kp w w'/\∀v L K k,An w v L K k->An w' v L K k
theorem Kt.refl (w:World):Kt w w:=⟨Kp.refl w,fun _ _ _ _ h=>h⟩
theorem Kt.trans {a b c:World} (h:Kt a b) (k:Kt b c):Kt a c:=⟨h.1.trans k.1,fun _ _ _ _ x=>k.2 _ _ _ _ (h.2 _ _ _ _ x)⟩
theorem Kt.below {w w':World} (h:Below w.heap.size w w'):Kt w w':=⟨Kp.of_below h,fun _ _ _ _ x=>x.below h⟩
theorem Kt.ni {w w':World} {g:Nat} (hb:TH w g) (ho:Ao g w w'):Kt w w':=⟨hb.kp ho,fun _ _ _ _ x=>x.ni hb ho⟩
theorem Kt.z {w w':World} {v:Value} {Z:Int} {k:Nat} (h:Kt w w') (x:Au w v Z k):Au w' v Z k:=x.kp h.1
theorem Kt.none {w w':World} (hg:w.grownBy w' Option.none):Kt w w':=Kt.below ⟨hg.os,hg.tape,hg.output,hg.size,fun k hk=>hg.block k hk (fun e=>by cases e)⟩
abbrev LN (T:TypeId) (sz:Nat) (w:World) (base:Nat) (v:Value) (n:Nat) (xs:List Value):Prop:=BM Fw T sz w base v n xs
theorem BM.kt {T:TypeId} {sz:Nat} {w w':World} {base:Nat} {v:Value} {n:Nat} {xs:List Value} (h:LN T sz w base v n xs) (hg:w.grownBy w' v.ownBlock):Kt w w':=by
 rcases h.2 with ⟨rfl,-⟩|⟨g,cap,cur,rfl,hb,hh,-,-,-,-,-,hp⟩
 · exact Kt.none hg
 · exact Kt.ni ⟨cur,T,hh,hp⟩ hg
theorem BM.nib {T:TypeId} {sz:Nat} {w:World} {base g c:Nat} {n:Nat} {xs:List Value} (h:LN T sz w base (.slice (some ⟨g,0,Option.none⟩) n c) n xs):TH w g:=by
 rcases h.2 with ⟨hv,-⟩|⟨g',cap,cur,hv,hb,hh,-,-,-,-,-,hp⟩
 · cases hv
 · injection hv with e1 e2 e3
   injection e1 with e1
   injection e1 with e1
   subst e1;exact ⟨cur,T,hh,hp⟩
def Tn (row:Option Nat) (w w':World):Prop:=w.grownBy w' row/\Kt w w'
theorem Tn.refl (row:Option Nat) (w:World):Tn row w w:=⟨⟨rfl,rfl,rfl,Nat.le_refl _,fun _ _ _=>rfl⟩,Kt.refl w⟩
theorem Tn.of_below {row:Option Nat} {w w':World} (h:Below w.heap.size w w'):Tn row w w':=⟨⟨h.os,h.tape,h.output,h.size,fun k hk _=>h.block k hk⟩,Kt.below h⟩
theorem Rz:(Tryz.prog.info? 35).map (fun i=>(i.zero,i.size,i.bytes))=some (some (.agg #[.slice Option.none 0 0,.bool false,.slice Option.none 0 0,.bool false]),4,64):=by kernel_rfl
theorem Hc {P:Program} {t:TypeId} {z:Value} {s b:Nat} (h:(P.info? t).map (fun i=>(i.zero,i.size,i.bytes))=some (some z,s,b)):∃i,P.info? t=some i/\i.zero=some z/\i.size=s/\i.bytes=b:=by
 cases hq:P.info? t with
 |none=>rw[hq]at h;cases h
 |some i=> rw[hq]at h;simp only[Option.map_some,Option.some.injEq,Prod.mk.injEq]at h;exact ⟨i,rfl,h.1,h.2.1,h.2.2⟩
theorem Ld (a b:List RV):AO (a++b)=AO a++AO b:=by simp[AO]
theorem PC (a:List RV):(AO a).length=a.length*4:=by
 induction a with
 |nil=>rfl
 |cons x a ih=>rw[FQ,List.length_append,ih,List.length_cons];simp[RV.cells];omega
theorem PD (ps:List RV):∀u∈AO ps,u.oneCell'=true:=by intro u hu;obtain ⟨l,hl,hu⟩:=List.mem_flatten.1 hu;obtain ⟨p,-,rfl⟩:=List.mem_map.1 hl;simp[RV.cells]at hu;rcases hu with rfl|rfl|rfl|rfl<;>rfl
theorem Mw (ps:List RV):Fw (AO ps):=by intro u hu;obtain ⟨l,hl,hu⟩:=List.mem_flatten.1 hu;obtain ⟨p,-,rfl⟩:=List.mem_map.1 hl;simp[RV.cells]at hu;rcases hu with rfl|rfl|rfl|rfl<;>first|exact NI.slice _ _ _|exact NI.bool _
theorem Oy:Fw (Value.agg #[.slice Option.none 0 0,.bool false,.slice Option.none 0 0,.bool false]).cells.toList:=by intro u hu;simp[Value.cells]at hu;rcases hu with rfl|rfl|rfl|rfl<;>first|exact NI.slice _ _ _|exact NI.bool _
theorem Cb {w:World} (base:Nat) (v:Value) (n:Nat) (rs:List RV) (hown:LN 35 4 w base v n (AO rs)) (ad:Addr) (m c:Nat) (qs:List RV) (hq:qs.length=m) (hc:∀j u,(AO qs)[j]?=some u->w.cell? (ad.add j)=some u) (hn:n<=1099511) (hm:m<=1099511) (hbase:base<=w.heap.size) :
  ∃v' w',(Builtin.append_ #[22,22] 22 #[v,.slice (some ad) m c]).run Tryz.prog w=.ok v' w'/\LN 35 4 w' base v' (n+m) (AO (rs++qs))/\Tn v.ownBlock w w':=by
 obtain ⟨i0,hi0,hz0,hz1,hz2⟩:=Hc Rz;obtain ⟨v',w',hr,h2,h3,h4⟩:=Ey (P:=Tryz.prog) w Fw base 22 22 35 i0 _ 4 64 Tryz.underlying22 hi0 hz0 hz1 hz2 rfl (by decide) Oy.nls v n (AO rs) hown ad m c (AO qs)
  (by rw[PC,hq]) hc (PD _) (Mw _).nls (by unfold maxLen;omega) (by omega) hbase Fw.nil (fun a b _ ha hb=>ha.append hb) (fun a k ha=>ha.take k) (fun a k _ ha=>ha.drop k) (fun k=>Oy.zero k (by decide)) (Mw _)
 exact ⟨v',w',hr,by rw[Ld];exact h2,h3,hown.kt h3⟩
end
section
open Tm
structure CN {α:Type} (cf:α->α->Int):Prop where
 refl:∀x,cf x x=0
 neg:∀x y,cf y x=- cf x y
 trans:∀x y z,cf x y<=0->cf y z<=0->cf x z<=0
theorem CN.on {α β:Type} {cf:α->α->Int} (h:CN cf) (f:β->α):CN (fun x y=>cf (f x) (f y)):=⟨fun x=>h.refl _,fun x y=>h.neg _ _,fun x y z=>h.trans _ _ _⟩
theorem NK {a b:Int}:Ew a b<=0↔a<0\/(a=0/\b<=0):=by unfold Ew;split<;>omega
theorem CN.lt_le {α:Type} {cf:α->α->Int} (h:CN cf) {x y z:α} (h1:cf x y<0) (h2:cf y z<=0):cf x z<0:=by
 have h3:=h.trans x y z (by omega) h2;by_cases h4:cf x z=0
 · have h5:=h.neg x z;have h6:=h.trans y z x h2 (by omega);have h7:=h.neg x y;omega
 · omega
theorem CN.le_lt {α:Type} {cf:α->α->Int} (h:CN cf) {x y z:α} (h1:cf x y<=0) (h2:cf y z<0):cf x z<0:=by
 have h3:=h.trans x y z h1 (by omega);by_cases h4:cf x z=0
 · have h5:=h.neg x z;have h6:=h.trans z x y (by omega) h1;have h7:=h.neg y z;omega
 · omega
theorem CN.or {α:Type} {cf cg:α->α->Int} (h:CN cf) (g:CN cg):CN (fun x y=>Ew (cf x y) (cg x y)) where
 refl x:=by simp[Ew,h.refl,g.refl]
 neg x y:=by show Ew (cf y x) (cg y x)=- Ew (cf x y) (cg x y);rw[h.neg x y,g.neg x y];unfold Ew;split<;>split<;>omega
 trans x y z h1 h2:=by
  rw[NK]at *;have:=h.trans x y z;have:=g.trans x y z;rcases h1 with h1|⟨h1,h1'⟩
  · left
    rcases h2 with h2|⟨h2,h2'⟩
    · exact h.lt_le h1 (by omega)
    · exact h.lt_le h1 (by omega)
  · rcases h2 with h2|⟨h2,h2'⟩
    · left
      exact h.le_lt (by omega) h2
    · have:=this h1' h2';have h3:=h.trans x y z (by omega) (by omega);by_cases h4:cf x z=0
      · right;exact ⟨h4,by assumption⟩
      · left;omega
theorem Cy:CN AF where
 refl x:=Cc.2 rfl
 neg x y:=I5 x y
 trans x y z h1 h2:=by
  unfold AF at *;repeat' split at h1
  all_goals (repeat' split at h2)
  all_goals (repeat' split)
  all_goals omega
theorem Jg:∀(a b c:List (Int×Int)),cmpL a b<=0->cmpL b c<=0->cmpL a c<=0
 |[],_,[],_,_=>by simp[cmpL]
 |[],_,_::_,_,_=>by simp[cmpL]
 |_::_,[],_,h,_=>by simp[cmpL]at h
 |_::_,_::_,[],_,h=>by simp[cmpL]at h
 |(u,c)::a,(v,d)::b,(w,e)::x,h1,h2=>by
  have ih:=Jg a b x;have e1:∀(p q r s:Int) (l m:List (Int×Int)),cmpL ((p,q)::l) ((r,s)::m)=Ew (AF p r) (Ew (AF q s) (cmpL l m)):=by intro p q r s l m;rw[cmpL];unfold Ew;rfl
  rw[e1,NK,NK]at *;have t1:=Cy.trans u v w;have t2:=Cy.trans c d e;rcases h1 with h1|⟨h1,h1'|⟨h1',h1''⟩⟩
  · left;exact Cy.lt_le h1 (by omega)
  · rcases h2 with h2|⟨h2,h2'⟩
    · left;exact Cy.le_lt (by omega) h2
    · right
      rw[Cc]at h1 h2;refine ⟨by rw[h1,h2];exact Cy.refl _,.inl (Cy.lt_le h1' (by omega))⟩
  · rcases h2 with h2|⟨h2,h2'|⟨h2',h2''⟩⟩
    · left;exact Cy.le_lt (by omega) h2
    · right
      rw[Cc]at h1 h2;refine ⟨by rw[h1,h2];exact Cy.refl _,.inl (Cy.le_lt (by omega) h2')⟩
    · right
      rw[Cc]at h1 h2 h1' h2';refine ⟨by rw[h1,h2];exact Cy.refl _,.inr ⟨by rw[h1',h2'];exact Cy.refl _,ih h1'' h2''⟩⟩
theorem Dh:CN cmpL:=⟨fun x=>Dc.2 rfl,fun x y=>LO x y,Jg⟩
abbrev R3:=List (Int×Int)×Int×Bool
def EU (x y:R3):Int:=Ml x.1 y.1 x.2.1 y.2.1 x.2.2 y.2.2
theorem Le:CN EU:=by
 have h1:CN (fun x y:R3=>cmpL (norm x.1) (norm y.1)):=Dh.on fun x:R3=>norm x.1
 have h2:CN (fun x y:R3=>AF x.2.1 y.2.1):=Cy.on fun x:R3=>x.2.1
 have h3:CN (fun x y:R3=>CL x.2.2-CL y.2.2):=⟨fun x=>by omega,fun x y=>by omega,fun x y z a b=>by omega⟩;exact (h1.or h2).or h3
theorem PE {x y:R3} (hx:norm x.1=x.1) (hy:norm y.1=y.1) (h:EU x y=0):x=y:=by
 obtain ⟨L,K,e⟩:=x;obtain ⟨M,J,f⟩:=y;simp only[EU,Ml,I6,Ew]at h;dsimp only at hx hy
 rw[hx,hy]at h;by_cases h1:cmpL L M=0
 · by_cases h2:AF K J=0
   · rw[Dc]at h1;rw[Cc]at h2;subst h1 h2;have h3:CL e=CL f:=by
      simp[Dc.2,Cc.2]at h;omega
     cases e<;>cases f<;>first|rfl|(exfalso;revert h3;decide)
   · simp[h1,h2]at h
 · simp[h1]at h
def Bw (us:List Int) (r:R3):Bool:=BD r.2.2 (r.2.1+val us r.1)
structure Bd where
 S:List (Int×Int)
 lo:Option Int
 hi:Option Int
def Jt (b:Bd) (z:Int):Prop:=(∀x,b.lo=some x->x<=z)/\(∀x,b.hi=some x->z<=x)
theorem Lf (us:List Int) (L:List (Int×Int)):val us (BE L)=- val us L:=by unfold BE;rw[I1,GC];omega
def CZ (r:R3):Bd:=if lead r.1<0 then ⟨BE r.1,none,some r.2.1⟩ else ⟨r.1,some (-r.2.1),if r.2.2=true then some (-r.2.1) else none⟩
theorem Jh {us:List Int} {r:R3} (h:lead r.1<0->r.2.2=false):Bw us r=true↔Jt (CZ r) (val us (CZ r).S):=by
 obtain ⟨L,K,e⟩:=r;unfold CZ Bw;dsimp only at h ⊢
 by_cases hl:lead L<0
 · rw[if_pos hl,h hl];unfold BD Jt;rw[Lf];simp;omega
 · rw[if_neg hl];unfold BD Jt;cases e
   · simp;omega
   · simp;omega
def SN (a b:Int):Int:=if a<b then b else a
def SO (a b:Int):Int:=if b<a then b else a
def strict (f:Int->Int->Int):Option Int->Option Int->Option Int
 |none,b=>b
 |some x,none=>some x
 |some x,some y=>some (f x y)
def Cx (a b:Bd):Bd:=⟨a.S,strict SN a.lo b.lo,strict SO a.hi b.hi⟩
theorem Kq (a b:Option Int) (z:Int):(∀x,strict SN a b=some x->x<=z)↔(∀x,a=some x->x<=z)/\(∀x,b=some x->x<=z):=by
 cases a<;>cases b<;>simp[strict]
 unfold SN;split<;>omega
theorem Ks (a b:Option Int) (z:Int):(∀x,strict SO a b=some x->z<=x)↔(∀x,a=some x->z<=x)/\(∀x,b=some x->z<=x):=by
 cases a<;>cases b<;>simp[strict]
 unfold SO;split<;>omega
theorem Mx (a b:Bd) (z:Int):Jt (Cx a b) z↔Jt a z/\Jt b z:=by
 unfold Jt Cx;dsimp only
 rw[Kq,Ks];constructor
 · rintro ⟨⟨a,b⟩,c,d⟩;exact ⟨⟨a,c⟩,b,d⟩
 · rintro ⟨⟨a,c⟩,b,d⟩;exact ⟨⟨a,b⟩,c,d⟩
def pushB (r:List Bd) (b:Bd):List Bd:=
 match r.getLast? with
 |some x=>if x.S=b.S then r.dropLast++[Cx x b] else r++[b]
 |none=>[b]
theorem E4 (b:Bd):pushB [] b=[b]:=rfl
theorem Cj (r:List Bd) (x b:Bd):pushB (r++[x]) b=if x.S=b.S then r++[Cx x b] else r++[x]++[b]:=by unfold pushB;simp
def BN (bs:List Bd):List Bd:=bs.foldl pushB []
theorem NM (bs:List Bd) (b:Bd):BN (bs++[b])=pushB (BN bs) b:=by simp[BN]
theorem My (us:List Int) (r:List Bd) (b:Bd):(∀c∈pushB r b,Jt c (val us c.S))↔(∀c∈r,Jt c (val us c.S))/\Jt b (val us b.S):=by
 rcases List.eq_nil_or_concat r with rfl|⟨r,x,rfl⟩
 · simp[E4]
 · rw[List.concat_eq_append,Cj];by_cases h:x.S=b.S
   · rw[if_pos h];simp only[List.mem_append,List.mem_singleton];constructor
     · intro h2;have h3:=h2 (Cx x b) (.inr rfl);rw[Mx]at h3;have h4:(Cx x b).S=x.S:=rfl;rw[h4]at h3;refine ⟨fun c hc=>?_,by rw[<-h];exact h3.2⟩;rcases hc with hc|rfl
       · exact h2 c (.inl hc)
       · exact h3.1
     · rintro ⟨h2,h3⟩ c (hc|rfl)
       · exact h2 c (.inl hc)
       · rw[Mx];have h4:(Cx x b).S=x.S:=rfl;rw[h4];exact ⟨h2 x (.inr rfl),by rw[h];exact h3⟩
   · rw[if_neg h];simp only[List.mem_append,List.mem_singleton];constructor
     · intro h2;exact ⟨fun c hc=>h2 c (.inl hc),h2 b (.inr rfl)⟩
     · rintro ⟨h2,h3⟩ c (hc|rfl)
       · exact h2 c hc
       · exact h3
theorem Hd (us:List Int) (bs:List Bd):(∀c∈BN bs,Jt c (val us c.S))↔∀c∈bs,Jt c (val us c.S):=by
 have key:∀(l r:List Bd),(∀c∈l.foldl pushB r,Jt c (val us c.S))↔(∀c∈r,Jt c (val us c.S))/\∀c∈l,Jt c (val us c.S):=by
  intro l;induction l with
  |nil=>intro r;simp
  |cons b l ih=> intro r;rw[List.foldl_cons,ih,My];simp only[List.mem_cons,forall_eq_or_imp];exact and_assoc
 have:=key bs [];simpa[BN] using this
def PF (r:List Bd):Prop:=r.Pairwise fun a b=>cmpL a.S b.S<0
theorem Ji (r:List Bd) (b:Bd):∃x,(pushB r b).getLast?=some x/\x.S=b.S:=by
 rcases List.eq_nil_or_concat r with rfl|⟨r,x,rfl⟩
 · exact ⟨b,rfl,rfl⟩
 · rw[List.concat_eq_append,Cj];split
   · rename_i h;exact ⟨Cx x b,by simp,h⟩
   · exact ⟨b,by simp,rfl⟩
theorem Mz {r:List Bd} {b:Bd} (h:PF r) (hl:∀x,r.getLast?=some x->cmpL x.S b.S<=0):PF (pushB r b):=by
 unfold PF at *;rcases List.eq_nil_or_concat r with rfl|⟨r,x,rfl⟩
 · simp[E4]
 · rw[List.concat_eq_append]at *;rw[Cj];rw[List.pairwise_append]at h;obtain ⟨h1,h2,h3⟩:=h;by_cases he:x.S=b.S
   · rw[if_pos he,List.pairwise_append];refine ⟨h1,by simp,fun a ha c hc=>?_⟩;rw[List.mem_singleton]at hc;subst hc;exact h3 a ha x (by simp)
   · rw[if_neg he,List.pairwise_append];have hx:=hl x (by simp);have hx':cmpL x.S b.S<0:=by
       by_cases h0:cmpL x.S b.S=0
       · exact absurd (Dc.1 h0) he
       · omega
     refine ⟨List.pairwise_append.2 ⟨h1,by simp,h3⟩,by simp,fun a ha c hc=>?_⟩;rw[List.mem_singleton]at hc;subst hc;rcases List.mem_append.1 ha with ha|ha
     · exact Dh.lt_le (h3 a ha x (by simp)) (by omega)
     · rw[List.mem_singleton]at ha;subst ha;exact hx'
def Cq (bs:List Bd):Prop:=bs.Pairwise fun a b=>cmpL a.S b.S<=0
theorem DY {bs:List Bd} (h:Cq bs):PF (BN bs):=by
 have key:∀(l r:List Bd),Cq l->PF r->(∀x,r.getLast?=some x->∀b∈l,cmpL x.S b.S<=0)->PF (l.foldl pushB r):=by
  intro l;induction l with
  |nil=>intro r _ hr _;exact hr
  |cons b l ih=>
   intro r hl hr hx;unfold Cq at hl;rw[List.pairwise_cons]at hl;rw[List.foldl_cons];refine ih _ hl.2 (Mz hr fun x h=>hx x h b (by simp)) fun x h c hc=>?_
   obtain ⟨y,hy,hs⟩:=Ji r b;rw[hy]at h;injection h with h
   subst h;rw[hs];exact hl.1 c hc
 exact key bs [] h List.Pairwise.nil (fun x h=>by simp at h)
theorem PG {r:List Bd} {b c:Bd} (P:Bd->Prop) (hp:∀x y,P x->P y->x.S=y.S->P (Cx x y)) (hr:∀c∈r,P c) (hb:P b) (h:c∈pushB r b):P c:=by
 rcases List.eq_nil_or_concat r with rfl|⟨r,x,rfl⟩
 · rw[E4,List.mem_singleton]at h;subst h;exact hb
 · rw[List.concat_eq_append]at *;rw[Cj]at h;split at h
   · rename_i he
     rcases List.mem_append.1 h with h|h
     · exact hr c (List.mem_append.2 (.inl h))
     · rw[List.mem_singleton]at h;subst h;exact hp _ _ (hr x (by simp)) hb he
   · rcases List.mem_append.1 h with h|h
     · exact hr c h
     · rw[List.mem_singleton]at h;subst h;exact hb
theorem GI {bs:List Bd} (P:Bd->Prop) (hp:∀x y,P x->P y->x.S=y.S->P (Cx x y)) (hb:∀c∈bs,P c):∀c∈BN bs,P c:=by
 have key:∀(l r:List Bd),(∀c∈r,P c)->(∀c∈l,P c)->∀c∈l.foldl pushB r,P c:=by
  intro l;induction l with
  |nil=>intro r hr _;exact hr
  |cons b l ih=> intro r hr hl;rw[List.foldl_cons];exact ih _ (fun c hc=>PG P hp hr (hl b (by simp)) hc) (fun c hc=>hl c (by simp[hc]))
 exact key bs [] (by simp) hb
def BI (b:Bd):Option (List R3):=
 match b.lo,b.hi with
 |some x,some y=>if y<x then none else if x=y then some [(b.S,-x,true)] else some [(b.S,-x,false),(BE b.S,y,false)]
 |some x,none=>some [(b.S,-x,false)]
 |none,some y=>some [(BE b.S,y,false)]
 |none,none=>some []
theorem Ku {us:List Int} {b:Bd} {rs:List R3} (h:BI b=some rs):(∀r∈rs,Bw us r=true)↔Jt b (val us b.S):=by
 obtain ⟨S,lo,hi⟩:=b;unfold BI at h;unfold Jt Bw BD;dsimp only at h ⊢
 cases lo<;>cases hi<;>dsimp only at h
 · cases h;simp
 · cases h;simp[Lf];omega
 · cases h;simp;omega
 · rename_i x y
   split at h
   · cases h
   · split at h
     · cases h;simp;omega
     · cases h;simp[Lf];omega
theorem PH {b:Bd} (h:BI b=none) (z:Int):¬Jt b z:=by
 obtain ⟨S,lo,hi⟩:=b;unfold BI at h;unfold Jt;dsimp only at h ⊢
 cases lo<;>cases hi<;>dsimp only at h
 · cases h
 · cases h
 · cases h
 · rename_i x y
   split at h
   · simp;omega
   · split at h<;>cases h
end
section
open Go.RowKit Go.Shelf Go.Lib Go.Sort
theorem FR {α:Type} (enc:α->List Value) (k:Nat) (hk:∀x,(enc x).length=k) (h0:0<k):∀(ps:List α) (t:Nat),((ps.map enc).flatten)[t]?=(ps[t/k]?).bind fun x=>(enc x)[t%k]?
 |[],t=>by simp
 |p::ps,t=>by
  rw[List.map_cons,List.flatten_cons];by_cases ht:t<k
  · rw[List.getElem?_append_left (by rw[hk];exact ht),Nat.div_eq_of_lt ht,Nat.mod_eq_of_lt ht];simp
  · rw[List.getElem?_append_right (by rw[hk];omega),hk,FR enc k hk h0 ps (t-k)];have e1:t/k=(t-k)/k+1:=by
     conv=>lhs;rw[show t=t-k+k by omega]
     exact Nat.add_div_right _ h0
    have e2:t%k=(t-k)%k:=by
     conv=>lhs;rw[show t=t-k+k by omega]
     exact Nat.add_mod_right _ _
    rw[e1,e2,List.getElem?_cons_succ]
theorem He {α:Type} (enc:α->List Value) (k:Nat) (hk:∀x,(enc x).length=k) (ps:List α):((ps.map enc).flatten).length=ps.length*k:=by
 induction ps with
 |nil=>simp
 |cons p ps ih=>rw[List.map_cons,List.flatten_cons,List.length_append,ih,hk,List.length_cons,Nat.succ_mul];omega
theorem G0 {α:Type} [Inhabited α] (enc:α->List Value) (k:Nat) (hk:∀x,(enc x).length=k) (h0:0<k) (d:Array α):(flatK enc k d).toList=(d.toList.map enc).flatten:=by
 apply List.ext_getElem?;intro t;rw[FR enc k hk h0];by_cases ht:t<d.size*k
 · have hq:t/k<d.size:=Nat.div_lt_of_lt_mul (by rw[Nat.mul_comm];exact ht);have hs:t<(flatK enc k d).size:=(by rw[size_flatK];exact ht);have h1:=get_flatK enc k d t ht;rw[getElem!_pos _ t hs,getElem!_pos d _ hq]at h1;rw[Array.getElem?_toList,Array.getElem?_eq_getElem hs,h1];have hm:t%k<(enc d[t/k]).length:=(by rw[hk];exact Nat.mod_lt _ h0);rw[getElem!_pos (enc d[t/k]) _ hm];simp[hq,List.getElem?_eq_getElem hm]
 · rw[List.getElem?_eq_none (by simpa using ht)];have hq:d.toList.length<=t/k:=(by rw[Array.length_toList];exact (Nat.le_div_iff_mul_le h0).2 (by omega));rw[List.getElem?_eq_none hq];rfl
theorem CN.swo {α:Type} {cf:α->α->Int} (h:CN cf):SWO (ltOf cf) where
 irrefl x:=by unfold ltOf;rw[h.refl];rfl
 trans x y z h1 h2:=by unfold ltOf at *;simp only[decide_eq_true_eq]at *;exact h.lt_le h1 (by omega)
 ntrans x y z h1 h2:=by unfold ltOf at *;simp only[decide_eq_false_iff_not]at *;have a1:=h.neg x y;have a2:=h.neg y z;have a3:=h.neg x z;have:=h.trans z y x (by omega) (by omega);omega
theorem Fx {α:Type} [Inhabited α] (enc:α->List Value) (k:Nat) (w:World) (g m:Nat) (dk:Array α) (os:Array Obj):Ao g w (sortWorldK enc k w g 0 m dk os):=by
 have hs:(putRowK enc k (Sort.ahead w m) g 0 dk).heap.size=w.heap.size:=size_putRowK _ _ _ _ _ _;refine ⟨rfl,rfl,rfl,?_,fun q hq hne=>?_⟩
 · show w.heap.size<=(grow _ os).heap.size;rw[size_grow,hs];omega
 · show (grow _ os).heap[q]?=_;rw[heap_grow_old _ _ (by rw[hs];exact hq)];show ((w.heap.modify g (onCells (putCells id 0 (flatK enc k dk))))[q]?)=_;rw[Array.getElem?_modify,if_neg (fun e=>hne (by rw[e]))]
theorem Kv {ρ:Ren} (L:Go.Proofs.SlLaysF0.n6 Tryz.prog ρ) {α:Type} [Inhabited α] (T:TypeId) (sz:Nat) (h0:0<sz) (aE:∀w,(isAgg (ρ.t 24)).run Tryz.prog w=.ok true w) (zE:∀w,(Go.sizeOf (ρ.t 24)).run Tryz.prog w=.ok sz w)
   (enc:α->List Value) (hk:∀x,(enc x).length=sz) (h1:∀x,∀v∈enc x,v.oneCell'=true) (hni:∀x,Fw (enc x)) (cf:α->α->Int) (hcf:CN cf) (f:Nat) (cb:Array Value) (base g n c:Nat) (ps:List α) (w:World)
   (eg:∀args w,(callFunc f args).run Tryz.prog w=.ok (.enter f args) w)
   (hcmp:∀W,Ao g w W->∀x y,Calls Tryz.prog f (#[.agg (enc x).toArray,.agg (enc y).toArray]++cb) W (fun e w'=>e=.returned (.int .i64 (cf x y))/\Below W.heap.size W w'))
   (h:LN T sz w base (.slice (some ⟨g,0,none⟩) n c) n ((ps.map enc).flatten)) (hn:n<4611686018427387904) :
   Calls Tryz.prog (ρ.f 6) #[.slice (some ⟨g,0,none⟩) n c,.func (.func f) #[] cb] w (fun e w'=>e=.returned (.tuple #[])/\∃qs:List α,qs.Perm ps/\LN T sz w' base (.slice (some ⟨g,0,none⟩) n c) n ((qs.map enc).flatten)/\(qs.Pairwise fun a b=>cf a b<=0)/\Ao g w w'):=by
 obtain ⟨hl,hv⟩:=h;rcases hv with ⟨hv,-⟩|⟨g',cap,cur,hv,hbase,hh,b1,b2,b3,b4,b5,b6⟩
 · cases hv
 injection hv with e1 e2 e3
 injection e1 with e1
 injection e1 with e1
 subst e1 e3;have hpn:ps.length=n:=by rw[He enc sz hk]at hl;exact Nat.eq_of_mul_eq_mul_right h0 hl
 have hds:ps.toArray.size=n:=by simpa using hpn
 have hlt:g<w.heap.size:=(Array.getElem?_eq_some_iff.1 hh).1;have hH:HoldsK enc sz w g 0 ps.toArray:=by
   intro j hj;rw[size_flatK,hds]at hj;have hjs:j<(flatK enc sz ps.toArray).size:=(by rw[size_flatK,hds];exact hj);have e1:(flatK enc sz ps.toArray)[j]! = (flatK enc sz ps.toArray)[j]:=getElem!_pos _ j hjs;have e2:((ps.map enc).flatten)[j]?=some ((flatK enc sz ps.toArray)[j]):=by have:=G0 enc sz hk h0 ps.toArray;rw[show ps.toArray.toList=ps from rfl]at this;rw[<-this,Array.getElem?_toList,Array.getElem?_eq_getElem hjs]
   rw[e1,Nat.zero_add];refine ⟨?_,by simp[World.frozen?,hh]⟩;rw[cell_of_row w g j _ _ _ hh];rw[<-b4,List.getElem?_take_of_lt hj]at e2;simpa using e2
 have hC:CmpLays Tryz.prog f cb enc sz cf g 0 ps.toArray.size w:=by intro m os dk hs x y;refine (Dr.calls_drawn (hcmp _ (Fx enc sz w g m dk os) x y)).mono ?_;rintro e w' ⟨⟨rfl,hb⟩,hd⟩;exact ⟨rfl,Jf hb (hd _ rfl)⟩
 have hcon:=AnyQ.slices_SortFunc L sz aE zE enc hk h1 cf hcf.swo f cb g 0 c ps.toArray w eg hC hH hlt (by rw[hds];exact hn);rw[hds]at hcon;refine Calls.mono hcon ?_;rintro e w' ⟨rfl,d',m,os,hp,hs,rfl⟩;have hds':d'.size=n:=by rw[hp.1,hds]
 refine ⟨rfl,d'.toList,?_,⟨by rw[He enc sz hk];simp[hds'],.inr ⟨g,c,putCells id 0 (flatK enc sz d') cur,rfl,hbase,?_,b1,b2,?_,?_,?_,?_⟩⟩,?_,Fx enc sz w g m d' os⟩
 · have:=hp.2.2;rw[show d'.extract 0 n=d' by rw[<-hds'];simp,show ps.toArray.extract 0 n=ps.toArray by rw[<-hds];simp]at this;exact this
 · show (grow _ os).heap[g]?=_;rw[heap_grow_old _ _ (by rw[show (putRowK enc sz (Sort.ahead w m) g 0 d').heap.size=w.heap.size from size_putRowK _ _ _ _ _ _];exact hlt)];show ((w.heap.modify g (onCells (putCells id 0 (flatK enc sz d'))))[g]?)=_;rw[Array.getElem?_modify,if_pos rfl,hh];rfl
 · simpa[putCells] using b3
 · have hcs:n*sz<=cur.size:=(by rw[b3];exact Nat.mul_le_mul_right _ b1);rw[<-G0 enc sz hk h0 d'];apply List.ext_getElem?;intro t;by_cases ht:t<n*sz
   · have hts:t<(flatK enc sz d').size:=(by rw[size_flatK,hds'];exact ht);rw[List.getElem?_take_of_lt ht,Array.getElem?_toList,Array.getElem?_toList,Array.getElem?_eq_getElem hts];unfold putCells;rw[Array.getElem?_mapIdx,Array.getElem?_eq_getElem (by omega),Option.map_some,if_pos ⟨Nat.zero_le _,by omega⟩,Nat.sub_zero,getElem!_pos _ t hts];rfl
   · rw[List.getElem?_eq_none (by simp;omega),List.getElem?_eq_none (by simp[size_flatK,hds'];omega)]
 · intro u hu;unfold putCells at hu;rw[Array.toList_mapIdx]at hu;obtain ⟨i,hi,rfl⟩:=List.mem_mapIdx.1 hu;split
   · rename_i hr
     have hts:i-0<(flatK enc sz d').size:=(by omega);rw[getElem!_pos (flatK enc sz d') (i-0) hts];have hm:(flatK enc sz d')[i-0]∈(d'.toList.map enc).flatten:=(by rw[<-G0 enc sz hk h0];simp);obtain ⟨l,hl,hm⟩:=List.mem_flatten.1 hm;obtain ⟨x,-,rfl⟩:=List.mem_map.1 hl;exact (hni x).nls _ hm
   · exact b5 _ (List.getElem_mem hi)
 · intro u hu;unfold putCells at hu;rw[Array.toList_mapIdx]at hu;obtain ⟨i,hi,rfl⟩:=List.mem_mapIdx.1 hu;split
   · rename_i hr
     have hts:i-0<(flatK enc sz d').size:=(by omega);rw[getElem!_pos (flatK enc sz d') (i-0) hts];have hm:(flatK enc sz d')[i-0]∈(d'.toList.map enc).flatten:=(by rw[<-G0 enc sz hk h0];simp);obtain ⟨l,hl,hm⟩:=List.mem_flatten.1 hm;obtain ⟨x,-,rfl⟩:=List.mem_map.1 hl;exact hni x _ hm
   · exact b6 _ (List.getElem_mem hi)
 · rw[List.pairwise_iff_getElem];intro i j hi hj hij;have h6:=hs i j (Nat.zero_le _) hij (by simp at hj;omega);unfold ltOf at h6;simp only[decide_eq_false_iff_not]at h6;simp at hi hj;rw[getElem!_pos d' i hi,getElem!_pos d' j hj]at h6;have:=hcf.neg d'[i] d'[j];simp only[Array.getElem_toList];omega
end
end Go.Proofs.YtemfjdedjcjegaaGreatDoor
