/- Texts of one seat, put together: DrawnB RowNI TidyM SortK Bits64. -/
import Derived.Test.YtemfjdedjcjegaaGreatDoorL27
import Derived.Test.YtemfjdedjcjegaaGreatDoorL23
import Derived.Test.YtemfjdedjcjegaaGreatDoorL19
import Derived.Test.YtemfjdedjcjegaaGreatDoorL20
import Derived.Shelf.SlSortCmp.NoneTotal
import Derived.Test.YtemfjdedjcjegaaGreatDoorL07
set_option linter.unusedVariables false
set_option linter.unusedSimpArgs false
set_option maxRecDepth 100000
set_option maxHeartbeats 16000000
namespace Go.Proofs.YtemfjdedjcjegaaGreatDoor
namespace Dr
theorem E5 {p:Program} {listen:Bool} {fr:Frame} {callers:List Frame} {dying:Option Dying} {s:Sem Next} {w:World}:Dt w (stepG.apply p listen fr callers dying s w):=by
 unfold stepG.apply;simp only[Sem.runT_eq];have hr:GY w (if listen=true then (s.run p w,s.events p w #[]) else (s.run p w,(#[]:Array Event))).1:=by split<;>exact N2 p s w
 revert hr
 generalize (if listen=true then (s.run p w,s.events p w #[]) else (s.run p w,(#[]:Array Event)))=x;obtain ⟨r,es⟩:=x;intro hr;dsimp only at hr ⊢
 refine Dt.after ?_;split
 all_goals first|exact hr|trivial|exact Dt.next hr Ha|exact Dt.next hr En|exact Dt.next hr Rb|skip
 all_goals (repeat' split)
 all_goals first|exact hr|trivial|exact Dt.next hr En
theorem Og {p:Program} {listen:Bool} {fr:Frame} {callers:List Frame} {dying:Option Dying} {w:World}:Dt w (stepG.oper p listen fr callers dying w):=by
 unfold stepG.oper;split
 · trivial
 · split<;>exact E5
theorem Oh {w:World} {α:Type} (o:Option α) {a:GStep} {f:α->GStep} (h1:Dt w a) (h2:∀x,Dt w (f x)):Dt w (o.elim a f):=by
 cases o
 · exact h1
 · exact h2 _
theorem Sf {p:Program} {main listen:Bool} {fr:Frame} {callers:List Frame} {dying:Option Dying} {w:World}:Dt w (stepG.exec p main listen fr callers dying w):=by
 unfold stepG.exec;simp only[Sem.runT_eq];split
 all_goals first|exact Nat.le_refl _|trivial|exact E5|exact Oh _ trivial (fun _=>E5)|refine Oh _ ?_ (fun _=>Nat.le_refl _)|skip
 all_goals first|(split;first|exact KV (Nat.le_refl _) trivial|exact Nat.le_refl _|skip)|(refine Dt.after ?_;split)|exact KV Og (Nat.le_refl _)|refine KV (Nat.le_refl _) ?_
 all_goals first|trivial|exact Nat.le_refl _|skip
 all_goals first|(refine Dt.after ?_;split)|split|skip
 all_goals rename_i h
 all_goals first|trivial|exact Be h|exact F8 h|exact Dt.next (Be h) Em|exact Dt.next (Be h) E5|exact Dt.after (Dt.next (Be h) E5)|exact Dt.after (Be h)|exact Dt.after (F8 h)|exact Dt.after (Dt.next (Be h) Em)|exact Dt.after trivial|exact Og|exact E5|exact Nat.le_refl _|skip
theorem Rc {p:Program} {main listen:Bool} {g:Goroutine} {w:World}:Dt w (stepG p main g w listen):=by
 unfold stepG;dsimp only
 split
 · exact Ts
 · exact Sf
 · exact Py
def N5 (w:World):Stepped->Prop
 |.next m=>w.drawn<=m.world.drawn
 |.ended _ _=>True
theorem N5.from {w w':World} {s:Stepped} (h:w.drawn<=w'.drawn) (hs:N5 w' s):N5 w s:=by
 cases s
 · exact Nat.le_trans h hs
 · trivial
theorem Ja {p:Program} {rest:Rest} {gs:Array Goroutine} {i:Nat} {g:Goroutine} {cases:Array CommCase} {blocking:Bool} {shape:CommShape} {w:World}:N5 w (communicate p rest gs i g cases blocking shape w).1:=by
 unfold communicate;dsimp only
 split
 · trivial
 split
 · split
   · split
     · rename_i h
       unfold waitingAt at h;split at h
       · split at h
         · cases h;exact Nat.le_refl _
         · cases h
       · cases h;exact Nat.le_refl _
     · trivial
   · exact Nat.le_refl _
 · split
   · trivial
   · rename_i h
     have h2:=Be h;split
     · split
       · rename_i h3;exact Nat.le_trans h2 (F8 h3)
       · trivial
     · exact h2
     · exact h2
     · split
       · exact h2
       · split
         · rename_i h3;have h4:=Be h3;exact Nat.le_trans h2 h4
         · trivial
     · exact h2
     · exact h2
     · trivial
theorem KW {p:Program} {gs:Array Goroutine} {rest:Rest} {w:World}:N5 w (look p gs rest w):=by
 unfold look;dsimp only
 split
 · split
   · trivial
   split
   · trivial
   · split
     · rename_i h
       have h4:=Be h;exact h4
     · trivial
     · trivial
 · trivial
theorem Re {p:Program} {m:Machine} {k:Nat}:N5 m.world (serve p m k):=by
 unfold serve;split
 · trivial
 · exact Nat.le_refl _
 · dsimp only
   split
   · trivial
   · exact Nat.le_refl _
theorem Rf (w:World) (c:Nat):(drain w c).2.drawn=w.drawn:=by unfold drain;split<;>rfl
theorem Kk (m:Machine) (k:Nat) (t:Timer) (a b:Nat):(retime m k t a b).2.world.drawn=m.world.drawn:=by
 unfold retime;dsimp only
 split
 · exact Rf _ _
 · rfl
theorem N6 {m m':Machine} {op:TimerOp} {v:Value} (h:timerOp m op=.ok (v,m')):m'.world.drawn=m.world.drawn:=by
 unfold timerOp at h;split at h
 · split at h
   · cases h;rfl
   · split at h
     · split at h
       · cases h
       · cases h;rfl
     · cases h
 · unfold timerOp.named at h;split at h
   · injection h with h
     have e:=congrArg (fun x:Value×Machine=>x.2.world.drawn) h;dsimp only at e
     rw[<-e];exact Kk _ _ _ _ _
   · cases h
 · split at h
   · rename_i m2 h2
     unfold timerOp.named at h;have e2:m2.world.drawn=m.world.drawn:=by
       unfold timerOp.opened at h2;split at h2
       · split at h2
         · cases h2;rfl
         · cases h2
       · cases h2;rfl
     split at h
     · injection h with h
       have e:=congrArg (fun x:Value×Machine=>x.2.world.drawn) h;dsimp only at e
       rw[<-e,<-e2];exact Kk _ _ _ _ _
     · cases h
   · cases h
 · cases h
   rfl
theorem Sg {p:Program} {m:Machine} {i:Nat} {listen:Bool}:N5 m.world (runT p m i listen).1:=by
 unfold runT;dsimp only
 generalize hs:stepG p (i==0) (m.gs.swapAt! i { (default:Goroutine) with status:=.finished }).1 m.world listen=s;have h:=Rc (p:=p) (main:=i==0) (listen:=listen) (g:=(m.gs.swapAt! i { (default:Goroutine) with status:=.finished }).1) (w:=m.world);rw[hs]at h;clear hs;split
 · trivial
 · exact N5.from h Ja
 · exact h
 · exact h
 · split
   · trivial
   · exact h
 · exact h
 · exact N5.from h KW
 · exact h
 · exact h
 · split
   · exact h
   · split
     · rename_i h2
       unfold endThrow dieOf at h2;cases h2
       exact h
     · trivial
   · trivial
 · split
   · rename_i h2
     exact Nat.le_trans h (Nat.le_of_eq (N6 h2).symm)
   · split
     · rename_i h2
       unfold endThrow dieOf at h2;cases h2
       exact h
     · trivial
   · trivial
   · trivial
def EL (w:World):Move->Prop
 |.goroutine m _=>w.drawn<=m.world.drawn
 |.machine s _=>N5 w s
theorem Jb {p:Program} {m:Machine}:EL m.world (askOn p m):=by
 unfold askOn;dsimp only
 split
 · trivial
 · rename_i h
   have h1:=Be h;split
   · exact N5.from h1 Re
   · split
     · split
       · exact h1
       · split
         · exact h1
         · split<;>trivial
     · split
       · split
         · trivial
         · rename_i h5
           have h6:=Nat.le_trans h1 (Be h5);split
           · exact h6
           · split
             · trivial
             · rename_i h7
               have h8:=Be h7;exact Nat.le_trans h6 h8
       · split
         · trivial
         · rename_i h2
           have h4:=Nat.le_trans h1 (Be h2);split
           · trivial
           · rename_i h5
             have h6:=Nat.le_trans h4 (Be h5);split
             · exact h6
             · split
               · trivial
               · rename_i h7
                 have h8:=Be h7;exact Nat.le_trans h6 h8
         · rename_i h2
           have h4:=Be h2;exact Nat.le_trans h1 h4
         · rename_i h2
           have h4:=Be h2;split
           · trivial
           · rename_i h5
             have h5':=Be h5;have h6:=Nat.le_trans (Nat.le_trans h1 h4) h5';split
             · exact h6
             · split
               · trivial
               · rename_i h7
                 have h8:=Be h7;exact Nat.le_trans h6 h8
theorem EL.from {w w':World} {s:Move} (h:w.drawn<=w'.drawn) (hs:EL w' s):EL w s:=by
 cases s
 · exact Nat.le_trans h hs
 · exact N5.from h hs
theorem Hb {p:Program} {m:Machine}:EL m.world (ask p m):=by
 unfold ask;split
 · split
   · trivial
   · rename_i h
     have h1:=Be h;split
     · rename_i m2 h2
       have h3:=KW (p:=p) (gs:=m.gs) (rest:=m.rest) (w:=‹World›);rw[h2]at h3;exact EL.from (Nat.le_trans h1 h3) Jb
     · rename_i e h2
       exact N5.from h1 KW
   · rename_i h
     exact EL.from (Be h) Jb
 · exact Jb
theorem Si {p:Program} {m:Machine}:EL m.world (move p m):=by
 unfold move;split
 · split
   · exact Nat.le_refl _
   · trivial
 · split
   · split
     · exact Nat.le_refl _
     · exact EL.from (w':=m.world) (Nat.le_refl _) (Hb (m:={ m with rest:={ m.rest with slice:=none } }))
   · exact Hb
theorem Sj {p:Program} {m:Machine}:N5 m.world (step p m):=by
 unfold step stepT;have h:=Si (p:=p) (m:=m);split<;>rename_i h2<;>rw[h2]at h
 · exact N5.from h Sg
 · exact h
theorem Oi {p:Program}:∀(n:Nat) {m m':Machine},runN p n m=.next m'->m.world.drawn<=m'.world.drawn
 |0,m,m',h=>by cases h;exact Nat.le_refl _
 |n+1,m,m',h=>by
  unfold runN at h;have hs:=Sj (p:=p) (m:=m);split at h
  · rename_i m2 h2
    rw[h2]at hs;exact Nat.le_trans hs (Oi n h)
  · cases h2:step p m<;>rename_i h3<;>simp_all
theorem calls_drawn {P:Program} {f:FuncId} {args:Array Value} {w:World} {R:Ending->World->Prop} (h:Calls P f args w R):Calls P f args w (fun e w'=>R e w'/\(∀v,e=.returned v->w.drawn<=w'.drawn)):=by intro cs;obtain ⟨e,w',fr,hr,hc,hx⟩:=h cs;refine ⟨e,w',fr,⟨hr,?_⟩,hc,hx⟩;rintro v rfl;obtain ⟨n,hn⟩:=hc;exact Oi n hn
end Dr
open Go.RowKit in
theorem Jc {w w':World} (h:Below w.heap.size w w') (hd:w.drawn<=w'.drawn):∃q os,w'=Go.Sort.grow (w.drewN q) os:=by
 refine ⟨w'.drawn-w.drawn,w'.heap.extract w.heap.size w'.heap.size,?_⟩;obtain ⟨heap,tape,drawn,os,output⟩:=w';obtain ⟨h1,h2,h3,h4,h5⟩:=h;dsimp only at h1 h2 h3 h4 h5 hd ⊢
 unfold Go.Sort.grow World.drewN;dsimp only
 rw[h1,h2,h3];congr 1
 · apply Array.ext_getElem?;intro i;rw[Array.getElem?_append];split
   · rename_i hi;exact h5 i hi
   · rename_i hi
     rw[Array.getElem?_extract];by_cases hx:i<heap.size
     · rw[if_pos (by omega)];congr 1
       omega
     · rw[if_neg (by omega),Array.getElem?_eq_none (by omega)]
 · omega
end Go.Proofs.YtemfjdedjcjegaaGreatDoor
namespace Go.Proofs.YtemfjdedjcjegaaGreatDoor
section
open Go.RowKit
open Tm
def NI (u:Value):Prop:=∀k z,u≠.int k z
def EY (xs:List Value):Prop:=∀u∈xs,NI u
theorem NI.bool (b:Bool):NI (.bool b):=fun _ _ h=>by cases h
theorem NI.slice (A:Option Addr) (n c:Nat):NI (.slice A n c):=fun _ _ h=>by cases h
theorem NI.nl {u:Value} (h:NI u):NL u:=fun z=>h _ z
theorem EY.nls {xs:List Value} (h:EY xs):EU xs:=fun u hu=>(h u hu).nl
theorem EY.append {xs ys:List Value} (h:EY xs) (k:EY ys):EY (xs++ys):=fun u hu=>(List.mem_append.1 hu).elim (h u) (k u)
theorem EY.take {xs:List Value} (h:EY xs) (n:Nat):EY (xs.take n):=fun u hu=>h u (List.mem_of_mem_take hu)
theorem EY.drop {xs:List Value} (h:EY xs) (n:Nat):EY (xs.drop n):=fun u hu=>h u (List.mem_of_mem_drop hu)
theorem EY.nil:EY []:=fun u hu=>by cases hu
theorem EY.zero {z:Value} (h:EY z.cells.toList) (k:Nat) (hz:0<z.cells.size):EY (Builtin.zeroCells z.cells k).toList:=by
 intro u hu;have h2:u∈(Builtin.zeroCells z.cells k):=by simpa using hu
 unfold Builtin.zeroCells at h2;obtain ⟨q,-,hq⟩:=Array.mem_map.1 h2;have hlt:q%z.cells.size<z.cells.size:=Nat.mod_lt _ hz;rw[getElem!_pos z.cells _ hlt]at hq;exact h u (by rw[<-hq];simp)
def Tt (w:World) (g:Nat):Prop:=∃cur T,w.heap[g]?=some (.cells cur T (0,0))/\EY cur.toList
theorem Tt.kp {w w':World} {g:Nat} (h:Tt w g) (ho:Ao g w w'):Kp w w':=by obtain ⟨cur,T,hh,hn⟩:=h;exact Kp.block hh hn.nls ho
theorem AC.offNI {w:World} {A:Option Addr} {n k g:Nat} {ps:List PV} (h:AC w A n ps k) (hb:Tt w g):0<n->Apart A g:=by
 intro hn ad had he;obtain ⟨cur,T,hh,hni⟩:=hb;obtain ⟨b,o,e,hc⟩:=h.2.1 hn;have hl:0<ps.length:=by rw[h.1];exact hn
 obtain ⟨g0,-,-⟩:=flat_get ps 0 ps[0] (List.getElem?_eq_getElem hl);have h0:=hc 0 _ g0;rw[had]at e;injection e with e
 subst e;have he':b=g:=he;subst he';rw[cell_of_row w b _ _ _ _ hh]at h0;have h2:=Array.mem_of_getElem? h0;exact hni _ (by simpa using h2) _ _ rfl
theorem Cv.ni {w w':World} {A:Option Addr} {n k g:Nat} {L:List (Int×Int)} (h:Cv w A n L k) (hb:Tt w g) (ho:Ao g w w'):Cv w' A n L k:=by refine h.keep ho (hb.kp ho) ?_;obtain ⟨ps,h1,-⟩:=h;exact h1.offNI hb
theorem An.ni {w w':World} {v:Value} {k g:Nat} {L:List (Int×Int)} {K:Int} (h:An w v L K k) (hb:Tt w g) (ho:Ao g w w'):An w' v L K k:=by obtain ⟨A,n,c,s,B,m,d,e,h1,h2,h3,h4⟩:=h;exact ⟨A,n,c,s,B,m,d,e,h1.ni hb ho,h2,h3,h4.kp (hb.kp ho)⟩
def Kt (w w':World):Prop:=Kp w w'/\∀v L K k,An w v L K k->An w' v L K k
theorem Kt.refl (w:World):Kt w w:=⟨Kp.refl w,fun _ _ _ _ h=>h⟩
theorem Kt.trans {a b c:World} (h:Kt a b) (k:Kt b c):Kt a c:=⟨h.1.trans k.1,fun _ _ _ _ x=>k.2 _ _ _ _ (h.2 _ _ _ _ x)⟩
theorem Kt.below {w w':World} (h:Below w.heap.size w w'):Kt w w':=⟨Kp.of_below h,fun _ _ _ _ x=>x.below h⟩
theorem Kt.ni {w w':World} {g:Nat} (hb:Tt w g) (ho:Ao g w w'):Kt w w':=⟨hb.kp ho,fun _ _ _ _ x=>x.ni hb ho⟩
theorem Kt.z {w w':World} {v:Value} {Z:Int} {k:Nat} (h:Kt w w') (x:Au w v Z k):Au w' v Z k:=x.kp h.1
theorem Kt.none {w w':World} (hg:w.grownBy w' Option.none):Kt w w':=Kt.below ⟨hg.os,hg.tape,hg.output,hg.size,fun k hk=>hg.block k hk (fun e=>by cases e)⟩
abbrev LN (T:TypeId) (sz:Nat) (w:World) (base:Nat) (v:Value) (n:Nat) (xs:List Value):Prop:=BD EY T sz w base v n xs
theorem BD.kt {T:TypeId} {sz:Nat} {w w':World} {base:Nat} {v:Value} {n:Nat} {xs:List Value} (h:LN T sz w base v n xs) (hg:w.grownBy w' v.ownBlock):Kt w w':=by
 rcases h.2 with ⟨rfl,-⟩|⟨g,cap,cur,rfl,hb,hh,-,-,-,-,-,hp⟩
 · exact Kt.none hg
 · exact Kt.ni ⟨cur,T,hh,hp⟩ hg
theorem BD.nib {T:TypeId} {sz:Nat} {w:World} {base g c:Nat} {n:Nat} {xs:List Value} (h:LN T sz w base (.slice (some ⟨g,0,Option.none⟩) n c) n xs):Tt w g:=by
 rcases h.2 with ⟨hv,-⟩|⟨g',cap,cur,hv,hb,hh,-,-,-,-,-,hp⟩
 · cases hv
 · injection hv with e1 e2 e3
   injection e1 with e1
   injection e1 with e1
   subst e1;exact ⟨cur,T,hh,hp⟩
def Tn (row:Option Nat) (w w':World):Prop:=w.grownBy w' row/\Kt w w'
theorem Tn.refl (row:Option Nat) (w:World):Tn row w w:=⟨⟨rfl,rfl,rfl,Nat.le_refl _,fun _ _ _=>rfl⟩,Kt.refl w⟩
theorem Tn.of_below {row:Option Nat} {w w':World} (h:Below w.heap.size w w'):Tn row w w':=⟨⟨h.os,h.tape,h.output,h.size,fun k hk _=>h.block k hk⟩,Kt.below h⟩
theorem Rh:(Tryz.prog.info? 35).map (fun i=>(i.zero,i.size,i.bytes))=some (some (.agg #[.slice Option.none 0 0,.bool false,.slice Option.none 0 0,.bool false]),4,64):=by kernel_rfl
theorem Hc {P:Program} {t:TypeId} {z:Value} {s b:Nat} (h:(P.info? t).map (fun i=>(i.zero,i.size,i.bytes))=some (some z,s,b)):∃i,P.info? t=some i/\i.zero=some z/\i.size=s/\i.bytes=b:=by
 cases hq:P.info? t with
 |none=>rw[hq]at h;cases h
 |some i=> rw[hq]at h;simp only[Option.map_some,Option.some.injEq,Prod.mk.injEq]at h;exact ⟨i,rfl,h.1,h.2.1,h.2.2⟩
theorem EM (a b:List RV):AB (a++b)=AB a++AB b:=by simp[AB]
theorem GK (a:List RV):(AB a).length=a.length*4:=by
 induction a with
 |nil=>rfl
 |cons x a ih=>rw[FV,List.length_append,ih,List.length_cons];simp[RV.cells];omega
theorem Pz (ps:List RV):∀u∈AB ps,u.oneCell'=true:=by intro u hu;obtain ⟨l,hl,hu⟩:=List.mem_flatten.1 hu;obtain ⟨p,-,rfl⟩:=List.mem_map.1 hl;simp[RV.cells]at hu;rcases hu with rfl|rfl|rfl|rfl<;>rfl
theorem Mn (ps:List RV):EY (AB ps):=by intro u hu;obtain ⟨l,hl,hu⟩:=List.mem_flatten.1 hu;obtain ⟨p,-,rfl⟩:=List.mem_map.1 hl;simp[RV.cells]at hu;rcases hu with rfl|rfl|rfl|rfl<;>first|exact NI.slice _ _ _|exact NI.bool _
theorem Oj:EY (Value.agg #[.slice Option.none 0 0,.bool false,.slice Option.none 0 0,.bool false]).cells.toList:=by intro u hu;simp[Value.cells]at hu;rcases hu with rfl|rfl|rfl|rfl<;>first|exact NI.slice _ _ _|exact NI.bool _
theorem Bf {w:World} (base:Nat) (v:Value) (n:Nat) (rs:List RV) (hown:LN 35 4 w base v n (AB rs)) (ad:Addr) (m c:Nat) (qs:List RV) (hq:qs.length=m) (hc:∀j u,(AB qs)[j]?=some u->w.cell? (ad.add j)=some u) (hn:n<=1099511) (hm:m<=1099511) (hbase:base<=w.heap.size) :
  ∃v' w',(Builtin.append_ #[22,22] 22 #[v,.slice (some ad) m c]).run Tryz.prog w=.ok v' w'/\LN 35 4 w' base v' (n+m) (AB (rs++qs))/\Tn v.ownBlock w w':=by
 obtain ⟨i0,hi0,hz0,hz1,hz2⟩:=Hc Rh;obtain ⟨v',w',hr,h2,h3,h4⟩:=E4 (P:=Tryz.prog) w EY base 22 22 35 i0 _ 4 64 Tryz.underlying22 hi0 hz0 hz1 hz2 rfl (by decide) Oj.nls v n (AB rs) hown ad m c (AB qs)
  (by rw[GK,hq]) hc (Pz _) (Mn _).nls (by unfold maxLen;omega) (by omega) hbase EY.nil (fun a b _ ha hb=>ha.append hb) (fun a k ha=>ha.take k) (fun a k _ ha=>ha.drop k) (fun k=>Oj.zero k (by decide)) (Mn _)
 exact ⟨v',w',hr,by rw[EM];exact h2,h3,hown.kt h3⟩
end
section
open Tm
structure CN {α:Type} (cf:α->α->Int):Prop where
 refl:∀x,cf x x=0
 neg:∀x y,cf y x=- cf x y
 trans:∀x y z,cf x y<=0->cf y z<=0->cf x z<=0
theorem CN.on {α β:Type} {cf:α->α->Int} (h:CN cf) (f:β->α):CN (fun x y=>cf (f x) (f y)):=⟨fun x=>h.refl _,fun x y=>h.neg _ _,fun x y z=>h.trans _ _ _⟩
theorem N7 {a b:Int}:EW a b<=0↔a<0\/(a=0/\b<=0):=by unfold EW;split<;>omega
theorem CN.lt_le {α:Type} {cf:α->α->Int} (h:CN cf) {x y z:α} (h1:cf x y<0) (h2:cf y z<=0):cf x z<0:=by
 have h3:=h.trans x y z (by omega) h2;by_cases h4:cf x z=0
 · have h5:=h.neg x z;have h6:=h.trans y z x h2 (by omega);have h7:=h.neg x y;omega
 · omega
theorem CN.le_lt {α:Type} {cf:α->α->Int} (h:CN cf) {x y z:α} (h1:cf x y<=0) (h2:cf y z<0):cf x z<0:=by
 have h3:=h.trans x y z h1 (by omega);by_cases h4:cf x z=0
 · have h5:=h.neg x z;have h6:=h.trans z x y (by omega) h1;have h7:=h.neg y z;omega
 · omega
theorem CN.or {α:Type} {cf cg:α->α->Int} (h:CN cf) (g:CN cg):CN (fun x y=>EW (cf x y) (cg x y)) where
 refl x:=by simp[EW,h.refl,g.refl]
 neg x y:=by show EW (cf y x) (cg y x)=- EW (cf x y) (cg x y);rw[h.neg x y,g.neg x y];unfold EW;split<;>split<;>omega
 trans x y z h1 h2:=by
  rw[N7]at *;have:=h.trans x y z;have:=g.trans x y z;rcases h1 with h1|⟨h1,h1'⟩
  · left
    rcases h2 with h2|⟨h2,h2'⟩
    · exact h.lt_le h1 (by omega)
    · exact h.lt_le h1 (by omega)
  · rcases h2 with h2|⟨h2,h2'⟩
    · left
      exact h.le_lt (by omega) h2
    · have:=this h1' h2';have h3:=h.trans x y z (by omega) (by omega);by_cases h4:cf x z=0
      · right;exact ⟨h4,by assumption⟩
      · left;omega
theorem Cx:CN AK where
 refl x:=Cc.2 rfl
 neg x y:=I1 x y
 trans x y z h1 h2:=by
  unfold AK at *;repeat' split at h1
  all_goals (repeat' split at h2)
  all_goals (repeat' split)
  all_goals omega
theorem Jd:∀(a b c:List (Int×Int)),cmpL a b<=0->cmpL b c<=0->cmpL a c<=0
 |[],_,[],_,_=>by simp[cmpL]
 |[],_,_::_,_,_=>by simp[cmpL]
 |_::_,[],_,h,_=>by simp[cmpL]at h
 |_::_,_::_,[],_,h=>by simp[cmpL]at h
 |(u,c)::a,(v,d)::b,(w,e)::x,h1,h2=>by
  have ih:=Jd a b x;have e1:∀(p q r s:Int) (l m:List (Int×Int)),cmpL ((p,q)::l) ((r,s)::m)=EW (AK p r) (EW (AK q s) (cmpL l m)):=by intro p q r s l m;rw[cmpL];unfold EW;rfl
  rw[e1,N7,N7]at *;have t1:=Cx.trans u v w;have t2:=Cx.trans c d e;rcases h1 with h1|⟨h1,h1'|⟨h1',h1''⟩⟩
  · left;exact Cx.lt_le h1 (by omega)
  · rcases h2 with h2|⟨h2,h2'⟩
    · left;exact Cx.le_lt (by omega) h2
    · right
      rw[Cc]at h1 h2;refine ⟨by rw[h1,h2];exact Cx.refl _,.inl (Cx.lt_le h1' (by omega))⟩
  · rcases h2 with h2|⟨h2,h2'|⟨h2',h2''⟩⟩
    · left;exact Cx.le_lt (by omega) h2
    · right
      rw[Cc]at h1 h2;refine ⟨by rw[h1,h2];exact Cx.refl _,.inl (Cx.le_lt (by omega) h2')⟩
    · right
      rw[Cc]at h1 h2 h1' h2';refine ⟨by rw[h1,h2];exact Cx.refl _,.inr ⟨by rw[h1',h2'];exact Cx.refl _,ih h1'' h2''⟩⟩
theorem Cy:CN cmpL:=⟨fun x=>Df.2 rfl,fun x y=>LG x y,Jd⟩
abbrev R3:=List (Int×Int)×Int×Bool
def Je (x y:R3):Int:=Pg x.1 y.1 x.2.1 y.2.1 x.2.2 y.2.2
theorem KX:CN Je:=by
 have h1:CN (fun x y:R3=>cmpL (norm x.1) (norm y.1)):=Cy.on fun x:R3=>norm x.1
 have h2:CN (fun x y:R3=>AK x.2.1 y.2.1):=Cx.on fun x:R3=>x.2.1
 have h3:CN (fun x y:R3=>Ez x.2.2-Ez y.2.2):=⟨fun x=>by omega,fun x y=>by omega,fun x y z a b=>by omega⟩;exact (h1.or h2).or h3
theorem P0 {x y:R3} (hx:norm x.1=x.1) (hy:norm y.1=y.1) (h:Je x y=0):x=y:=by
 obtain ⟨L,K,e⟩:=x;obtain ⟨M,J,f⟩:=y;simp only[Je,Pg,I2,EW]at h;dsimp only at hx hy
 rw[hx,hy]at h;by_cases h1:cmpL L M=0
 · by_cases h2:AK K J=0
   · rw[Df]at h1;rw[Cc]at h2;subst h1 h2;have h3:Ez e=Ez f:=by
      simp[Df.2,Cc.2]at h;omega
     cases e<;>cases f<;>first|rfl|(exfalso;revert h3;decide)
   · simp[h1,h2]at h
 · simp[h1]at h
def U4 (us:List Int) (r:R3):Bool:=Dx r.2.2 (r.2.1+val us r.1)
structure Bd where
 S:List (Int×Int)
 lo:Option Int
 hi:Option Int
def UQ (b:Bd) (z:Int):Prop:=(∀x,b.lo=some x->x<=z)/\(∀x,b.hi=some x->z<=x)
def BL (r:R3):Bd:=if lead r.1<0 then ⟨Bl r.1,none,some r.2.1⟩ else ⟨r.1,some (-r.2.1),if r.2.2=true then some (-r.2.1) else none⟩
def S7 (a b:Int):Int:=if a<b then b else a
def S8 (a b:Int):Int:=if b<a then b else a
def strict (f:Int->Int->Int):Option Int->Option Int->Option Int
 |none,b=>b
 |some x,none=>some x
 |some x,some y=>some (f x y)
def D9 (a b:Bd):Bd:=⟨a.S,strict S7 a.lo b.lo,strict S8 a.hi b.hi⟩
theorem P1 (a b:Option Int) (z:Int):(∀x,strict S7 a b=some x->x<=z)↔(∀x,a=some x->x<=z)/\(∀x,b=some x->x<=z):=by
 cases a<;>cases b<;>simp[strict]
 unfold S7;split<;>omega
theorem P2 (a b:Option Int) (z:Int):(∀x,strict S8 a b=some x->z<=x)↔(∀x,a=some x->z<=x)/\(∀x,b=some x->z<=x):=by
 cases a<;>cases b<;>simp[strict]
 unfold S8;split<;>omega
def pushB (r:List Bd) (b:Bd):List Bd:=
 match r.getLast? with
 |some x=>if x.S=b.S then r.dropLast++[D9 x b] else r++[b]
 |none=>[b]
theorem FA (b:Bd):pushB [] b=[b]:=rfl
theorem CE (r:List Bd) (x b:Bd):pushB (r++[x]) b=if x.S=b.S then r++[D9 x b] else r++[x]++[b]:=by unfold pushB;simp
def BN (bs:List Bd):List Bd:=bs.foldl pushB []
theorem N8 (bs:List Bd) (b:Bd):BN (bs++[b])=pushB (BN bs) b:=by simp[BN]
def N9 (r:List Bd):Prop:=r.Pairwise fun a b=>cmpL a.S b.S<0
theorem Jf (r:List Bd) (b:Bd):∃x,(pushB r b).getLast?=some x/\x.S=b.S:=by
 rcases List.eq_nil_or_concat r with rfl|⟨r,x,rfl⟩
 · exact ⟨b,rfl,rfl⟩
 · rw[List.concat_eq_append,CE];split
   · rename_i h;exact ⟨D9 x b,by simp,h⟩
   · exact ⟨b,by simp,rfl⟩
theorem Mo {r:List Bd} {b:Bd} (h:N9 r) (hl:∀x,r.getLast?=some x->cmpL x.S b.S<=0):N9 (pushB r b):=by
 unfold N9 at *;rcases List.eq_nil_or_concat r with rfl|⟨r,x,rfl⟩
 · simp[FA]
 · rw[List.concat_eq_append]at *;rw[CE];rw[List.pairwise_append]at h;obtain ⟨h1,h2,h3⟩:=h;by_cases he:x.S=b.S
   · rw[if_pos he,List.pairwise_append];refine ⟨h1,by simp,fun a ha c hc=>?_⟩;rw[List.mem_singleton]at hc;subst hc;exact h3 a ha x (by simp)
   · rw[if_neg he,List.pairwise_append];have hx:=hl x (by simp);have hx':cmpL x.S b.S<0:=by
       by_cases h0:cmpL x.S b.S=0
       · exact absurd (Df.1 h0) he
       · omega
     refine ⟨List.pairwise_append.2 ⟨h1,by simp,h3⟩,by simp,fun a ha c hc=>?_⟩;rw[List.mem_singleton]at hc;subst hc;rcases List.mem_append.1 ha with ha|ha
     · exact Cy.lt_le (h3 a ha x (by simp)) (by omega)
     · rw[List.mem_singleton]at ha;subst ha;exact hx'
def Cp (bs:List Bd):Prop:=bs.Pairwise fun a b=>cmpL a.S b.S<=0
theorem Cw {bs:List Bd} (h:Cp bs):N9 (BN bs):=by
 have key:∀(l r:List Bd),Cp l->N9 r->(∀x,r.getLast?=some x->∀b∈l,cmpL x.S b.S<=0)->N9 (l.foldl pushB r):=by
  intro l;induction l with
  |nil=>intro r _ hr _;exact hr
  |cons b l ih=>
   intro r hl hr hx;unfold Cp at hl;rw[List.pairwise_cons]at hl;rw[List.foldl_cons];refine ih _ hl.2 (Mo hr fun x h=>hx x h b (by simp)) fun x h c hc=>?_
   obtain ⟨y,hy,hs⟩:=Jf r b;rw[hy]at h;injection h with h
   subst h;rw[hs];exact hl.1 c hc
 exact key bs [] h List.Pairwise.nil (fun x h=>by simp at h)
theorem P3 {r:List Bd} {b c:Bd} (P:Bd->Prop) (hp:∀x y,P x->P y->x.S=y.S->P (D9 x y)) (hr:∀c∈r,P c) (hb:P b) (h:c∈pushB r b):P c:=by
 rcases List.eq_nil_or_concat r with rfl|⟨r,x,rfl⟩
 · rw[FA,List.mem_singleton]at h;subst h;exact hb
 · rw[List.concat_eq_append]at *;rw[CE]at h;split at h
   · rename_i he
     rcases List.mem_append.1 h with h|h
     · exact hr c (List.mem_append.2 (.inl h))
     · rw[List.mem_singleton]at h;subst h;exact hp _ _ (hr x (by simp)) hb he
   · rcases List.mem_append.1 h with h|h
     · exact hr c h
     · rw[List.mem_singleton]at h;subst h;exact hb
theorem FB {bs:List Bd} (P:Bd->Prop) (hp:∀x y,P x->P y->x.S=y.S->P (D9 x y)) (hb:∀c∈bs,P c):∀c∈BN bs,P c:=by
 have key:∀(l r:List Bd),(∀c∈r,P c)->(∀c∈l,P c)->∀c∈l.foldl pushB r,P c:=by
  intro l;induction l with
  |nil=>intro r hr _;exact hr
  |cons b l ih=> intro r hr hl;rw[List.foldl_cons];exact ih _ (fun c hc=>P3 P hp hr (hl b (by simp)) hc) (fun c hc=>hl c (by simp[hc]))
 exact key bs [] (by simp) hb
def BH (b:Bd):Option (List R3):=
 match b.lo,b.hi with
 |some x,some y=>if y<x then none else if x=y then some [(b.S,-x,true)] else some [(b.S,-x,false),(Bl b.S,y,false)]
 |some x,none=>some [(b.S,-x,false)]
 |none,some y=>some [(Bl b.S,y,false)]
 |none,none=>some []
end
section
open Go.RowKit Go.Shelf Go.Lib Go.Sort
theorem FW {α:Type} (enc:α->List Value) (k:Nat) (hk:∀x,(enc x).length=k) (h0:0<k):∀(ps:List α) (t:Nat),((ps.map enc).flatten)[t]?=(ps[t/k]?).bind fun x=>(enc x)[t%k]?
 |[],t=>by simp
 |p::ps,t=>by
  rw[List.map_cons,List.flatten_cons];by_cases ht:t<k
  · rw[List.getElem?_append_left (by rw[hk];exact ht),Nat.div_eq_of_lt ht,Nat.mod_eq_of_lt ht];simp
  · rw[List.getElem?_append_right (by rw[hk];omega),hk,FW enc k hk h0 ps (t-k)];have e1:t/k=(t-k)/k+1:=by
     conv=>lhs;rw[show t=t-k+k by omega]
     exact Nat.add_div_right _ h0
    have e2:t%k=(t-k)%k:=by
     conv=>lhs;rw[show t=t-k+k by omega]
     exact Nat.add_mod_right _ _
    rw[e1,e2,List.getElem?_cons_succ]
theorem Hd {α:Type} (enc:α->List Value) (k:Nat) (hk:∀x,(enc x).length=k) (ps:List α):((ps.map enc).flatten).length=ps.length*k:=by
 induction ps with
 |nil=>simp
 |cons p ps ih=>rw[List.map_cons,List.flatten_cons,List.length_append,ih,hk,List.length_cons,Nat.succ_mul];omega
theorem G6 {α:Type} [Inhabited α] (enc:α->List Value) (k:Nat) (hk:∀x,(enc x).length=k) (h0:0<k) (d:Array α):(flatK enc k d).toList=(d.toList.map enc).flatten:=by
 apply List.ext_getElem?;intro t;rw[FW enc k hk h0];by_cases ht:t<d.size*k
 · have hq:t/k<d.size:=Nat.div_lt_of_lt_mul (by rw[Nat.mul_comm];exact ht);have hs:t<(flatK enc k d).size:=(by rw[size_flatK];exact ht);have h1:=get_flatK enc k d t ht;rw[getElem!_pos _ t hs,getElem!_pos d _ hq]at h1;rw[Array.getElem?_toList,Array.getElem?_eq_getElem hs,h1];have hm:t%k<(enc d[t/k]).length:=(by rw[hk];exact Nat.mod_lt _ h0);rw[getElem!_pos (enc d[t/k]) _ hm];simp[hq,List.getElem?_eq_getElem hm]
 · rw[List.getElem?_eq_none (by simpa using ht)];have hq:d.toList.length<=t/k:=(by rw[Array.length_toList];exact (Nat.le_div_iff_mul_le h0).2 (by omega));rw[List.getElem?_eq_none hq];rfl
theorem CN.swo {α:Type} {cf:α->α->Int} (h:CN cf):SWO (ltOf cf) where
 irrefl x:=by unfold ltOf;rw[h.refl];rfl
 trans x y z h1 h2:=by unfold ltOf at *;simp only[decide_eq_true_eq]at *;exact h.lt_le h1 (by omega)
 ntrans x y z h1 h2:=by unfold ltOf at *;simp only[decide_eq_false_iff_not]at *;have a1:=h.neg x y;have a2:=h.neg y z;have a3:=h.neg x z;have:=h.trans z y x (by omega) (by omega);omega
theorem Fz {α:Type} [Inhabited α] (enc:α->List Value) (k:Nat) (w:World) (g m:Nat) (dk:Array α) (os:Array Obj):Ao g w (sortWorldK enc k w g 0 m dk os):=by
 have hs:(putRowK enc k (Sort.ahead w m) g 0 dk).heap.size=w.heap.size:=size_putRowK _ _ _ _ _ _;refine ⟨rfl,rfl,rfl,?_,fun q hq hne=>?_⟩
 · show w.heap.size<=(grow _ os).heap.size;rw[size_grow,hs];omega
 · show (grow _ os).heap[q]?=_;rw[heap_grow_old _ _ (by rw[hs];exact hq)];show ((w.heap.modify g (onCells (putCells id 0 (flatK enc k dk))))[q]?)=_;rw[Array.getElem?_modify,if_neg (fun e=>hne (by rw[e]))]
theorem Kl {ρ:Ren} (L:Go.Proofs.SlLaysF0.n6 Tryz.prog ρ) {α:Type} [Inhabited α] (T:TypeId) (sz:Nat) (h0:0<sz) (aE:∀w,(isAgg (ρ.t 24)).run Tryz.prog w=.ok true w) (zE:∀w,(Go.sizeOf (ρ.t 24)).run Tryz.prog w=.ok sz w)
   (enc:α->List Value) (hk:∀x,(enc x).length=sz) (h1:∀x,∀v∈enc x,v.oneCell'=true) (hni:∀x,EY (enc x)) (cf:α->α->Int) (hcf:CN cf) (f:Nat) (cb:Array Value) (base g n c:Nat) (ps:List α) (w:World)
   (eg:∀args w,(callFunc f args).run Tryz.prog w=.ok (.enter f args) w)
   (hcmp:∀W,Ao g w W->∀x y,Calls Tryz.prog f (#[.agg (enc x).toArray,.agg (enc y).toArray]++cb) W (fun e w'=>e=.returned (.int .i64 (cf x y))/\Below W.heap.size W w'))
   (h:LN T sz w base (.slice (some ⟨g,0,none⟩) n c) n ((ps.map enc).flatten)) (hn:n<4611686018427387904) :
   Calls Tryz.prog (ρ.f 6) #[.slice (some ⟨g,0,none⟩) n c,.func (.func f) #[] cb] w (fun e w'=>e=.returned (.tuple #[])/\∃qs:List α,qs.Perm ps/\LN T sz w' base (.slice (some ⟨g,0,none⟩) n c) n ((qs.map enc).flatten)/\(qs.Pairwise fun a b=>cf a b<=0)/\Ao g w w'):=by
 obtain ⟨hl,hv⟩:=h;rcases hv with ⟨hv,-⟩|⟨g',cap,cur,hv,hbase,hh,b1,b2,b3,b4,b5,b6⟩
 · cases hv
 injection hv with e1 e2 e3
 injection e1 with e1
 injection e1 with e1
 subst e1 e3;have hpn:ps.length=n:=by rw[Hd enc sz hk]at hl;exact Nat.eq_of_mul_eq_mul_right h0 hl
 have hds:ps.toArray.size=n:=by simpa using hpn
 have hlt:g<w.heap.size:=(Array.getElem?_eq_some_iff.1 hh).1;have hH:HoldsK enc sz w g 0 ps.toArray:=by
   intro j hj;rw[size_flatK,hds]at hj;have hjs:j<(flatK enc sz ps.toArray).size:=(by rw[size_flatK,hds];exact hj);have e1:(flatK enc sz ps.toArray)[j]! = (flatK enc sz ps.toArray)[j]:=getElem!_pos _ j hjs;have e2:((ps.map enc).flatten)[j]?=some ((flatK enc sz ps.toArray)[j]):=by have:=G6 enc sz hk h0 ps.toArray;rw[show ps.toArray.toList=ps from rfl]at this;rw[<-this,Array.getElem?_toList,Array.getElem?_eq_getElem hjs]
   rw[e1,Nat.zero_add];refine ⟨?_,by simp[World.frozen?,hh]⟩;rw[cell_of_row w g j _ _ _ hh];rw[<-b4,List.getElem?_take_of_lt hj]at e2;simpa using e2
 have hC:CmpLays Tryz.prog f cb enc sz cf g 0 ps.toArray.size w:=by intro m os dk hs x y;refine (Dr.calls_drawn (hcmp _ (Fz enc sz w g m dk os) x y)).mono ?_;rintro e w' ⟨⟨rfl,hb⟩,hd⟩;exact ⟨rfl,Jc hb (hd _ rfl)⟩
 have hcon:=AnyQ.slices_SortFunc L sz aE zE enc hk h1 cf hcf.swo f cb g 0 c ps.toArray w eg hC hH hlt (by rw[hds];exact hn);rw[hds]at hcon;refine Calls.mono hcon ?_;rintro e w' ⟨rfl,d',m,os,hp,hs,rfl⟩;have hds':d'.size=n:=by rw[hp.1,hds]
 refine ⟨rfl,d'.toList,?_,⟨by rw[Hd enc sz hk];simp[hds'],.inr ⟨g,c,putCells id 0 (flatK enc sz d') cur,rfl,hbase,?_,b1,b2,?_,?_,?_,?_⟩⟩,?_,Fz enc sz w g m d' os⟩
 · have:=hp.2.2;rw[show d'.extract 0 n=d' by rw[<-hds'];simp,show ps.toArray.extract 0 n=ps.toArray by rw[<-hds];simp]at this;exact this
 · show (grow _ os).heap[g]?=_;rw[heap_grow_old _ _ (by rw[show (putRowK enc sz (Sort.ahead w m) g 0 d').heap.size=w.heap.size from size_putRowK _ _ _ _ _ _];exact hlt)];show ((w.heap.modify g (onCells (putCells id 0 (flatK enc sz d'))))[g]?)=_;rw[Array.getElem?_modify,if_pos rfl,hh];rfl
 · simpa[putCells] using b3
 · have hcs:n*sz<=cur.size:=(by rw[b3];exact Nat.mul_le_mul_right _ b1);rw[<-G6 enc sz hk h0 d'];apply List.ext_getElem?;intro t;by_cases ht:t<n*sz
   · have hts:t<(flatK enc sz d').size:=(by rw[size_flatK,hds'];exact ht);rw[List.getElem?_take_of_lt ht,Array.getElem?_toList,Array.getElem?_toList,Array.getElem?_eq_getElem hts];unfold putCells;rw[Array.getElem?_mapIdx,Array.getElem?_eq_getElem (by omega),Option.map_some,if_pos ⟨Nat.zero_le _,by omega⟩,Nat.sub_zero,getElem!_pos _ t hts];rfl
   · rw[List.getElem?_eq_none (by simp;omega),List.getElem?_eq_none (by simp[size_flatK,hds'];omega)]
 · intro u hu;unfold putCells at hu;rw[Array.toList_mapIdx]at hu;obtain ⟨i,hi,rfl⟩:=List.mem_mapIdx.1 hu;split
   · rename_i hr
     have hts:i-0<(flatK enc sz d').size:=(by omega);rw[getElem!_pos (flatK enc sz d') (i-0) hts];have hm:(flatK enc sz d')[i-0]∈(d'.toList.map enc).flatten:=(by rw[<-G6 enc sz hk h0];simp);obtain ⟨l,hl,hm⟩:=List.mem_flatten.1 hm;obtain ⟨x,-,rfl⟩:=List.mem_map.1 hl;exact (hni x).nls _ hm
   · exact b5 _ (List.getElem_mem hi)
 · intro u hu;unfold putCells at hu;rw[Array.toList_mapIdx]at hu;obtain ⟨i,hi,rfl⟩:=List.mem_mapIdx.1 hu;split
   · rename_i hr
     have hts:i-0<(flatK enc sz d').size:=(by omega);rw[getElem!_pos (flatK enc sz d') (i-0) hts];have hm:(flatK enc sz d')[i-0]∈(d'.toList.map enc).flatten:=(by rw[<-G6 enc sz hk h0];simp);obtain ⟨l,hl,hm⟩:=List.mem_flatten.1 hm;obtain ⟨x,-,rfl⟩:=List.mem_map.1 hl;exact hni x _ hm
   · exact b6 _ (List.getElem_mem hi)
 · rw[List.pairwise_iff_getElem];intro i j hi hj hij;have h6:=hs i j (Nat.zero_le _) hij (by simp at hj;omega);unfold ltOf at h6;simp only[decide_eq_false_iff_not]at h6;simp at hi hj;rw[getElem!_pos d' i hi,getElem!_pos d' j hj]at h6;have:=hcf.neg d'[i] d'[j];simp only[Array.getElem_toList];omega
end
section
open Go.Shelf
def Tryz.lays125_ren:Go.Shelf.Ren:=⟨fun|125=>67|128=>92|129=>108|n=>n,fun|46=>105|3=>3|51=>83|53=>112|4=>4|5=>5|9=>9|n=>n,fun|n=>n⟩
theorem Tryz.lays125:Go.Proofs.Lays.n125 Tryz.prog Tryz.lays125_ren:={
 mixed:=by kernel_rfl
 f125:=Tryz.func67.trans (congrArg some (by kernel_rfl))
 f128:=Tryz.func92.trans (congrArg some (by kernel_rfl))
 f129:=Tryz.func108.trans (congrArg some (by kernel_rfl))
 t3:=Tryz.underlying3
 a3:=Tryz.isAgg3
 z3:=Tryz.sizeOf3
 v3:=Tryz.zeroValue3
 t4:=Tryz.underlying4
 a4:=Tryz.isAgg4
 z4:=Tryz.sizeOf4
 v4:=Tryz.zeroValue4
 t5:=Tryz.underlying5
 a5:=Tryz.isAgg5
 z5:=Tryz.sizeOf5
 v5:=Tryz.zeroValue5
 t9:=Tryz.underlying9
 a9:=Tryz.isAgg9
 z9:=Tryz.sizeOf9
 v9:=Tryz.zeroValue9
 t46:=Tryz.underlying105
 a46:=Tryz.isAgg105
 z46:=Tryz.sizeOf105
 v46:=Tryz.zeroValue105
 t51:=Tryz.underlying83
 a51:=Tryz.isAgg83
 z51:=Tryz.sizeOf83
 v51:=Tryz.zeroValue83
 t53:=Tryz.underlying112
 a53:=Tryz.isAgg112
 z53:=Tryz.sizeOf112
 v53:=Tryz.zeroValue112 }
theorem Tryz.bits_Len (x:Int) (w:World) (h0:0<=x) (h1:x<=18446744073709551615) :
 Calls Tryz.prog 67 #[.int .u64 x] w fun e w'=>e=.returned (.int .i64 (Lib.bitLen x.toNat))/\w'=w:=Any.bits_Len Tryz.lays125 x w h0 h1
def Tryz.lays129_ren:Go.Shelf.Ren:=⟨fun|129=>108|n=>n,fun|53=>112|3=>3|4=>4|46=>105|5=>5|9=>9|n=>n,fun|n=>n⟩
end
end Go.Proofs.YtemfjdedjcjegaaGreatDoor
