/- Texts of one seat, put together: TContent Region3 TwoRes TShrink TightMath RelsIn ShelfB Build WSign Name Bytes. -/
import Derived.Test.YtmedjkhmadfjlaaGreatR22
import Derived.Test.YtmedjkhmadfjlaaGreatR24
import Derived.Test.YtmedjkhmadfjlaaGreatR11
import Derived.Test.YtmedjkhmadfjlaaGreatR13
import Derived.Test.YtmedjkhmadfjlaaGreatR17
import Derived.Test.YtmedjkhmadfjlaaGreatR23
import Derived.Shelf.Strings.Builder1
import Derived.Shelf.Strconv.Itoa3
import Derived.Test.YtmedjkhmadfjlaaGreatR01
import Derived.Test.YtmedjkhmadfjlaaGreatR19
import Derived.Test.YtmedjkhmadfjlaaGreatR02
set_option linter.unusedVariables false
set_option linter.unusedSimpArgs false
set_option maxRecDepth 100000
set_option maxHeartbeats 16000000
namespace Go.Proofs.YtmedjkhmadfjlaaGreat
section
open Go.RowKit
open Tm
def Gl (g:Nat) (W1:World) (L:List (Int×Int)) (k q:Nat) (wr:World):Prop:=
 ∃s A n c,AH wr g #[.bool s,.slice A n c]/\Au wr (.agg #[.bool s,.slice A n c]) (CS 0 (L.take q):Nat) k/\AA g W1 wr
theorem Mi (v:Value) (L:List (Int×Int)) (K:Int) (k:Nat) (w0:World) (hv:D9 w0 v L K k) (hl:L.length<=1099511) (hk:k<=1099511627):Calls Tryz.prog 107 #[v] w0 (Cn (Ak L) (k+L.length) w0):=by
 obtain ⟨A,n,c,s,B,m,d,rfl,hp,hc1,hc2,-⟩:=hv;have hn:=hp.len;obtain ⟨z0,z1,z2,z3,z4⟩:=Cc 40 38 38 w0 #[.slice A n c,.bool s,.slice B m d] #[.bool false,.slice none 0 0] #[.bool false,.slice none 0 0];have hpl:=Gj A n c L k _ (hp.below z3) hc1 hc2 (by omega) hk;have x0:=z0.c0;have HNL:=Ac (Bz L);rw[hn]at hl;have HN:=Ac hn;clear hn;go_enter Tryz.func107,Tryz.ntmps107;go_wp2_with fail;refine hpl.mono ?_;rintro e W1 ⟨A1,n1,c1,rfl,p1,h11,h12,b1⟩;have HT1:=Ac (z3.next b1)
 have hW1:w0.heap.size+1+1+1<=W1.heap.size:=by have:=b1.size;omega
 have hn1:n1<=1099511:=by have:=p1.len;have:=HNL.out;have:=HN.out;omega
 have HP1:=Ac p1;have HR1:=Ac (z1.next b1);have HG:=Ac (z2.next b1);have HS:=Ac (show Gl (w0.heap.size+1+1) W1 (norm L) (k+n) 0 W1 from ⟨false,none,0,0,z2.next b1,Au.zero _ _,AA.refl _ _⟩);clear x0 hpl z0 z1 z2 z3 z4 b1 p1 hp;go_wp2_with fail;go_loopw [10] (fun i wr=>∃q:Nat,q<=n1/\i=.int .i64 q/\Hid (Gl (w0.heap.size+1+1) W1 (norm L) (k+n) q wr)) (fun i _=>n1-(intOf i).toNat)
 case atStart=>exact ⟨0,Nat.zero_le _,rfl,HS⟩
 case round=>
  obtain ⟨q,hq,rfl,HR⟩:=hrel;obtain ⟨s5,A5,n5,c5,b5,zz5,hB⟩:=HR.out;by_cases hqn:q<n1
  · obtain ⟨bb,o,p,rfl,hlt,hLp,c0,c1x,c2,hz⟩:=(HP1.out.onlyInt HG.out hB).at_ hqn;obtain ⟨y0,y1,-⟩:=Bh 47 wr #[.int .i64 p.v,.bool p.s,.slice p.B p.m p.d];have k1:=b5.next y1;have hA:=V8 (.agg #[.bool s5,.slice A5 n5 c5]) (.agg #[.bool p.s,.slice p.B p.m p.d]) (CS 0 ((norm L).take q):Nat) p.Z (k+n) _ (zz5.in_.below y1) (hz.below y1) (by omega)
    have HC:=Ac (show Mh (CS 0 ((norm L).take q):Nat) p.Z=(CS 0 ((norm L).take (q+1)):Nat) by unfold Mh;rw[FU 0 _ q _ _ hLp,Int.natAbs_natCast]);have b50:=k1.c0;have b51:=k1.c1;have HB1:=Ac (hB.next y1);have HK1:=Ac k1;clear zz5 hLp HR hz b5 hB y0 y1 k1;generalize CS 0 ((norm L).take q)=Y at *;go_wp2_with fail;refine hA.mono ?_;rintro e w2 ⟨v2,rfl,r2,b2⟩;obtain ⟨s2,A2,n2,c2',rfl⟩:=r2.form;have k2:=HK1.out.next b2
    go_wp2_with (with_reducible refine An rfl _ _ rfl (w0.heap.size+1+1) _ _ _ _ rfl rfl _ _ k2 ?_;intro w3 k3 ho3);have HE:=Ac (show Gl (w0.heap.size+1+1) W1 (norm L) (k+n) (q+1) w3 from ⟨s2,A2,n2,c2',k3,by rw[<-HC.out];exact r2.only k2 ho3,(HB1.out.next b2).trans ho3⟩);go_roundw
    case rel=>exact ⟨q+1,by omega,by go_num,HE⟩
    case measure=>simp[intOf]<;>omega
  · obtain rfl:q=n1:=(by omega);have HL:=Ac (show ((CS 0 ((norm L).take q):Nat):Int)=Ak L by unfold Ak;rw[List.take_of_length_le (by rw[HP1.out.len];exact Nat.le_refl _)]);have b50:=b5.c0;have b51:=b5.c1;have k1:AH wr (w0.heap.size+1) #[.bool false,.slice none 0 0]:=AK.other HR1.out hB (by omega);have HZ5:=Ac zz5;have HT:=Ac (show Below w0.heap.size w0 wr from HT1.out.trans (hB.below (by omega) (by omega)));clear zz5 b5 HR hB
    go_wp2_with (with_reducible refine An rfl _ _ rfl (w0.heap.size+1) _ _ _ _ rfl rfl _ _ k1 ?_;intro w3 k3 ho3);refine Ay rfl rfl k3 rfl ?_;refine ⟨_,rfl,?_,AE HT.out (by omega) ho3⟩;rw[HN.out,<-HL.out];exact HZ5.out.only k1 ho3
end
section
open Go.RowKit
section
variable {P:Program} {ops:Array Oper} {Q:Exit->Act->World->Prop}
def VB (P:Program) (ops:Array Oper) (a0:Act) (F:Nat->Value->World->Prop) (G:Array Bool->(Nat->Value)->World->Prop) (i:Nat) (o:Oper):Prop:=
 ∀(l9:Array Bool) (σ:Nat->Value) (w:World) (a:Act),(∀j t,AY ops j=some t->l9.getD j false=true->a.tmps.getD t undef=σ j)->(∀t,(∀j,AY ops j=some t->l9.getD j false=false)->a.tmps.getD t undef=a0.tmps.getD t undef) ->
  l9.getD i true=false->Bp .any ops l9->(∀e∈o.after,Region.binds .any e=true->l9.getD e.on false=true)->G l9 σ w->(∀j,l9.getD j false=true->F j (σ j) w) ->
  Ad ops a o w (fun v w'=>(∀j,l9.getD j false=true->F j (σ j) w')/\F i v w'/\G (l9.setIfInBounds i true) (upd σ i v) w') (Does P a o w (fun v w'=>(∀j,l9.getD j false=true->F j (σ j) w')/\F i v w'/\G (l9.setIfInBounds i true) (upd σ i v) w'))
def Ws (P:Program) (ops:Array Oper) (a0:Act) (T:World->World->Prop) (F:Nat->Value->World->Prop) (G:Array Bool->(Nat->Value)->World->Prop) (app:Nat) (i:Nat) (o:Oper):Prop:=
 (i≠app->RO P ops a0 T F G i o)/\(i=app->VB P ops a0 F G i o)
end
def GM (app:Nat) (M:Nat->Value->World->Prop) (W0:World) (l9:Array Bool) (σ:Nat->Value) (w:World):Prop:=
 Below W0.heap.size W0 w/\(l9.getD app false=false->∀j,l9.getD j false=true->M j (σ j) w)
def Hq (w:World) (base:Nat) (v:Value) (n:Nat) (L:List (Int×Int)) (k:Nat):Prop:=∃rs:List PV,AF 47 3 w base v n (flat rs)/\rs.length=n/\Cl rs=L/\∀p∈rs,Au w p.num p.Z k
end
section
open Go.RowKit
structure KT (r q:Nat) (w w':World):Prop where
 kp:Kp w w'
 parts:∀A n ps k,AJ w A n ps k->AJ w' A n ps k
 os:w'.os=w.os
 tape:w'.tape=w.tape
 output:w'.output=w.output
 size:w.heap.size<=w'.heap.size
 block:∀b,b<w.heap.size->b≠r->b≠q->w'.heap[b]?=w.heap[b]?
theorem KT.refl (r q:Nat) (w:World):KT r q w w:=⟨Kp.refl w,fun _ _ _ _ h=>h,rfl,rfl,rfl,Nat.le_refl _,fun _ _ _ _=>rfl⟩
theorem KT.trans {r q:Nat} {a b c:World} (h:KT r q a b) (k:KT r q b c):KT r q a c:=
 ⟨h.kp.trans k.kp,fun _ _ _ _ x=>k.parts _ _ _ _ (h.parts _ _ _ _ x),k.os.trans h.os,k.tape.trans h.tape,k.output.trans h.output,Nat.le_trans h.size k.size,fun i hi h1 h2=>(k.block i (Nat.lt_of_lt_of_le hi h.size) h1 h2).trans (h.block i hi h1 h2)⟩
theorem KT.of_below {r q:Nat} {w w':World} (h:Below w.heap.size w w'):KT r q w w':=
 ⟨Kp.of_below h,fun _ _ _ _ x=>x.below h,h.os,h.tape,h.output,h.size,fun i hi _ _=>h.block i hi⟩
theorem KT.term {r q m c d:Nat} {B C:Option Addr} {s:Bool} {n:Nat} {w w':World} (hb:AK 40 w r #[.slice B m c,.bool s,.slice C n d]) (ho:AA r w w'):KT r q w w':=
 ⟨hb.kp (Te _ _ _ _ _ _ _) ho,fun _ _ _ _ x=>x.keep ho (hb.kp (Te _ _ _ _ _ _ _) ho) (x.offTerm hb (fun i h=>by cases h) (fun i h=>by cases h) (fun i h=>by cases h)),ho.gb.os,ho.gb.tape,ho.gb.output,ho.gb.size,fun i hi h1 _=>ho.gb.block i hi (fun e=>h1 (by injection e))⟩
theorem KT.num {r q m d:Nat} {B:Option Addr} {s:Bool} {w w':World} (hb:AH w q #[.bool s,.slice B m d]) (ho:AA q w w'):KT r q w w':=
 ⟨hb.kpI ho,fun A n ps k x=>x.keep ho (hb.kpI ho) (FE.offInt (L:=Cl ps) ⟨ps,x,rfl⟩ hb),ho.gb.os,ho.gb.tape,ho.gb.output,ho.gb.size,fun i hi _ h2=>ho.gb.block i hi (fun e=>h2 (by injection e))⟩
theorem KT.below {r q B:Nat} {w w':World} (h:KT r q w w') (hB:B<=w.heap.size) (hr:B<=r) (hq:B<=q):Below B w w':=
 ⟨h.os,h.tape,h.output,h.size,fun b hb=>h.block b (by omega) (by omega) (by omega)⟩
theorem KT.box {r q g:Nat} {T:TypeId} {cs:Array Value} {w w':World} (h:KT r q w w') (hb:AK T w g cs) (hr:g≠r) (hq:g≠q):AK T w' g cs:=(h.block g hb.lt hr hq).trans hb
theorem Aw.kt {r q:Nat} {w w':World} {v:Value} {L:List (Int×Int)} {K:Int} {k:Nat} (h:Aw w v L K k) (t:KT r q w w'):Aw w' v L K k:=by obtain ⟨A,n,c,s,B,m,d,e,⟨ps,h1,h2,h3⟩,h4,h5,h6⟩:=h;exact ⟨A,n,c,s,B,m,d,e,⟨ps,t.parts _ _ _ _ h1,h2,fun p hp=>(h3 p hp).kp t.kp⟩,h4,h5,h6.kp t.kp⟩
theorem D9.kt {r q:Nat} {w w':World} {v:Value} {L:List (Int×Int)} {K:Int} {k:Nat} (h:D9 w v L K k) (t:KT r q w w'):D9 w' v L K k:=by obtain ⟨A,n,c,s,B,m,d,e,⟨ps,h1,h2⟩,h4,h5,h6⟩:=h;exact ⟨A,n,c,s,B,m,d,e,⟨ps,t.parts _ _ _ _ h1,h2⟩,h4,h5,h6.kp t.kp⟩
def G2 (W0:World) (r s1:Nat) (F1:Value->World->Prop) (q s2:Nat) (F2:Value->World->Prop) (l9:Array Bool) (_σ:Nat->Value) (w:World):Prop:=
 KT r q W0 w/\(∃A n c s B m d,AK 40 w r #[.slice A n c,.bool s,.slice B m d]/\(l9.getD s1 false=true->F1 (.agg #[.slice A n c,.bool s,.slice B m d]) w)) /\
  (∃s B m d,AH w q #[.bool s,.slice B m d]/\(l9.getD s2 false=true->F2 (.agg #[.bool s,.slice B m d]) w))
section
variable {W0 w w':World} {r s1 q s2:Nat} {F1 F2:Value->World->Prop} {l9:Array Bool} {σ τ:Nat->Value}
theorem G2.start {n:Nat} {A B C:Option Addr} {l c m d m' d':Nat} {s s':Bool} (h1:AK 40 w r #[.slice A l c,.bool s,.slice B m d]) (h2:AH w q #[.bool s',.slice C m' d']) (hb:Below W0.heap.size W0 w):G2 W0 r s1 F1 q s2 F2 (Array.replicate n false) σ w:=
 ⟨KT.of_below hb,⟨_,_,_,_,_,_,_,h1,fun h=>by rw[BZ]at h;cases h⟩,⟨_,_,_,_,h2,fun h=>by rw[BZ]at h;cases h⟩⟩
theorem G2.next {i:Nat} (h:G2 W0 r s1 F1 q s2 F2 l9 σ w) (hb:Below w.heap.size w w') (h1:i≠s1) (h2:i≠s2) (m1:∀v w w',KT r q w w'->F1 v w->F1 v w') (m2:∀v w w',KT r q w w'->F2 v w->F2 v w'):G2 W0 r s1 F1 q s2 F2 (l9.setIfInBounds i true) τ w':=by
 obtain ⟨h0,⟨A,n,c,s,B,m,d,a1,a2⟩,⟨s',B',m',d',b1,b2⟩⟩:=h;refine ⟨h0.trans (KT.of_below hb),⟨A,n,c,s,B,m,d,a1.next hb,fun hl=>?_⟩,⟨s',B',m',d',b1.next hb,fun hl=>?_⟩⟩
 · rw[getD_set_ne false h1]at hl;exact m1 _ _ _ (KT.of_below hb) (a2 hl)
 · rw[getD_set_ne false h2]at hl;exact m2 _ _ _ (KT.of_below hb) (b2 hl)
theorem G2.st1 {A B:Option Addr} {n c m d:Nat} {s:Bool} (h:G2 W0 r s1 F1 q s2 F2 l9 σ w) (hrq:r≠q) (h12:s1≠s2) (x:AK 40 w' r #[.slice A n c,.bool s,.slice B m d]) (ho:AA r w w') (hf:F1 (.agg #[.slice A n c,.bool s,.slice B m d]) w) (m1:∀v w w',KT r q w w'->F1 v w->F1 v w') (m2:∀v w w',KT r q w w'->F2 v w->F2 v w') :
  KT r q w w'/\G2 W0 r s1 F1 q s2 F2 (l9.setIfInBounds s1 true) τ w':=by
 obtain ⟨h0,⟨A0,n0,c0,s0,B0,m0,d0,a1,-⟩,⟨s',B',m',d',b1,b2⟩⟩:=h;have t:KT r q w w':=KT.term a1 ho;refine ⟨t,h0.trans t,⟨_,_,_,_,_,_,_,x,fun _=>m1 _ _ _ t hf⟩,⟨s',B',m',d',AK.other b1 ho (Ne.symm hrq),fun hl=>?_⟩⟩;rw[getD_set_ne false h12]at hl;exact m2 _ _ _ t (b2 hl)
theorem G2.st2 {B:Option Addr} {m d:Nat} {s:Bool} (h:G2 W0 r s1 F1 q s2 F2 l9 σ w) (hrq:r≠q) (h12:s1≠s2) (x:AH w' q #[.bool s,.slice B m d]) (ho:AA q w w') (hf:F2 (.agg #[.bool s,.slice B m d]) w) (m1:∀v w w',KT r q w w'->F1 v w->F1 v w') (m2:∀v w w',KT r q w w'->F2 v w->F2 v w') :
  KT r q w w'/\G2 W0 r s1 F1 q s2 F2 (l9.setIfInBounds s2 true) τ w':=by
 obtain ⟨h0,⟨A0,n0,c0,s0,B0,m0,d0,a1,a2⟩,⟨s',B',m',d',b1,-⟩⟩:=h;have t:KT r q w w':=KT.num b1 ho;refine ⟨t,h0.trans t,⟨_,_,_,_,_,_,_,AK.other a1 ho hrq,fun hl=>?_⟩,⟨_,_,_,_,x,fun _=>m2 _ _ _ t hf⟩⟩;rw[getD_set_ne false (Ne.symm h12)]at hl;exact m1 _ _ _ t (a2 hl)
end
end
section
open Go.RowKit
open Tm
theorem Np (v u:Value) (G Z:Int) (g j k:Nat) (w:World) (hb:∃s A n c,v=.agg #[.bool s,.slice A n c]/\AH w g #[.bool s,.slice A n c]) (hv:BO w v G j) (hG:G≠0) (hu:BO w u Z k) (hk:k<=68719476736) (hj:j<=68719476736) :
  Calls Tryz.prog 108 #[u,.pointer (some ⟨g,0,none⟩)] w (Cn (Z.fdiv G) k w):=by
 obtain ⟨s,A,n,c,rfl,hb⟩:=hb;have hu0:=hu;obtain ⟨t,B,m,d,ys,rfl,-⟩:=hu;obtain ⟨z0,z1,z2,-⟩:=Dv w #[.bool t,.slice B m d] #[.bool false,.slice none 0 0];have hf:=Nl _ _ Z G k j _ (hu0.below z2) (hv.below z2) hG hk hj;have q:=hb.next z2;have c0:=z0.c0;have c1:=z0.c1;have d0:=q.c0;have d1:=q.c1;clear hG;go_enter Tryz.func108,Tryz.ntmps108;go_wp2_with fail;refine hf.mono ?_;rintro e w1 ⟨u1,v1,rfl,r1,r2,b1⟩;obtain ⟨s1,A1,n1,c1',rfl⟩:=r1.form;obtain ⟨s2,A2,n2,c2',rfl⟩:=r2.form
 have k1:=z1.next b1;have y1:=Af w1 (.cells #[.bool s1,.slice A1 n1 c1'] 38);have y2:=Af (w1.alloc (.cells #[.bool s1,.slice A1 n1 c1'] 38)) (.cells #[.bool s2,.slice A2 n2 c2'] 38);have k2:=(k1.next y1).next y2;have r3:=(r1.below y1).below y2;have HT:=Ac (((z2.next b1).next y1).next y2);clear y1 y2 c0 c1 d0 d1 k1 r1 r2;go_wp2_with (with_reducible refine An rfl _ _ rfl (w.heap.size+1) _ _ _ _ rfl rfl _ _ k2 ?_;intro w3 k3 ho3);refine Ay rfl rfl k3 rfl ?_
 exact ⟨_,rfl,r3.only k2 ho3,AE HT.out (by omega) ho3⟩
theorem Ke:∀args w,(callFunc 108 args).run Tryz.prog w=.ok (.enter 108 args) w:=enters_of Tryz.func108 (by kernel_rfl) rfl
def CZ (L:List (Int×Int)) (K:Int):Int:=if Ak L=0 then K else K.fdiv (Ak L)
def Ps (L:List (Int×Int)) (K:Int) (k:Nat) (w:World) (e:Ending) (w':World):Prop:=∃v u,e=.returned (.tuple #[v,u])/\Aw w' v (Ce (Ak L) (norm L)) (CZ L K) k/\Au w' u (Ak L) k/\Below w.heap.size w w'
theorem Ox {fn:Func} {p q:Tmp} (h:fn.results=#[.cell p 40,.cell q 38]) (tmps:Array Value) (w:World) (g k:Nat) (x y z x' y':Value)
  (hp:tmps.getD p undef=.pointer (some ⟨g,0,none⟩)) (hq:tmps.getD q undef=.pointer (some ⟨k,0,none⟩)) (hg:AK 40 w g #[x,y,z]) (hk:AH w k #[x',y']) :
  (results fn tmps).run Tryz.prog w=.ok (.tuple #[.agg #[x,y,z],.agg #[x',y']]) w:=by
 have hp':tmps[p]?.getD undef=.pointer (some ⟨g,0,none⟩):=by simpa using hp
 have hq':tmps[q]?.getD undef=.pointer (some ⟨k,0,none⟩):=by simpa using hq
 simp[results,h,hp',hq',asAddr,run_loadVar_row w g 40 40 #[x,y,z] (0,0) _ hg Tryz.underlying40 rfl (by kernel_rfl),run_loadVar_row w k 38 38 #[x',y'] (0,0) _ hk Tryz.underlying38 rfl (by kernel_rfl)]
theorem EF {fn:Func} {R:Ending->World->Prop} {a:Act} {w:World} {g k p q:Nat} {x y z x' y':Value} (hres:fn.results=#[.cell p 40,.cell q 38]) (hp:a.tmps.getD p undef=.pointer (some ⟨g,0,none⟩)) (hq:a.tmps.getD q undef=.pointer (some ⟨k,0,none⟩))
  (hb:AK 40 w g #[x,y,z]) (hk:AH w k #[x',y']) (hd:a.defers=[]) (hR:R (.returned (.tuple #[.agg #[x,y,z],.agg #[x',y']])) w):bodyPost Tryz.prog fn R .ret a w:=
 bodyPost_ret (by rw[Ox hres _ _ g k x y z x' y' hp hq hb hk]) hd hR
theorem Nq (v:Value) (L:List (Int×Int)) (K:Int) (k:Nat) (w0:World) (hv:D9 w0 v L K k) (hl:L.length<=1099511) (hk:k<=1099511627):Calls Tryz.prog 61 #[v] w0 (Ps L K (k+L.length) w0):=by
 have hv0:=hv;obtain ⟨A,n,c,s,B,m,d,rfl,-⟩:=hv;obtain ⟨z0,z1,z2,z3,z4⟩:=Cc 40 40 38 w0 #[.slice A n c,.bool s,.slice B m d] #[.slice none 0 0,.bool false,.slice none 0 0] #[.bool false,.slice none 0 0];have hct:=Mi _ L K k _ (hv0.below z3) hl hk;have x0:=z0.c0;have x1:=z0.c1;have x2:=z0.c2;go_enter Tryz.func61,Tryz.ntmps61;go_wp2_with fail;refine hct.mono ?_;rintro e w1 ⟨v1,rfl,r1,b1⟩;obtain ⟨s1,A1,n1,c1,rfl⟩:=r1.form;obtain ⟨y0,y1,y2⟩:=Bh 38 w1 #[.bool s1,.slice A1 n1 c1]
 have HT:=Ac ((z3.next b1).next y1);have q0:=(z0.next b1).next y1;have q1:=(z1.next b1).next y1;have q2:=(z2.next b1).next y1;have r2:=r1.below y1;have hs:=Ef _ (Ak L) _ _ r2.in_ (by omega);unfold CJ at hs;have hw1:w0.heap.size+1+1+1<=w1.heap.size:=by have:=b1.size;omega
 have a0:=q0.c0;have a1:=q0.c1;have a2:=q0.c2;have e0:=AH.c0 y0;have e1:=AH.c1 y0;clear x0 x1 x2 hct z0 z1 z2 z3 z4 b1 r1 y1 y2;by_cases h0:Ak L=0
 · have HN:=Cw.1 h0;have HK:=Ac (show CZ L K=K by unfold CZ;rw[if_pos h0]);have HQ:=Ac (show Ce (Ak L) (norm L)=norm L by rw[HN];rfl);rw[h0]at hs;rw[show Int.sign 0=0 from rfl]at hs;clear h0 HN;go_wp2_with fail;refine hs.mono ?_;rintro e W2 ⟨rfl,b2⟩;have HT2:=Ac (HT.out.next b2);have g0:=q0.next b2;have g1:=q1.next b2;have g2:=q2.next b2;have g4:=AH.next y0 b2;have HZ:=Ac (r2.below b2);have HV0:=Ac (hv0.below HT2.out);clear a0 a1 a2 e0 e1 q0 q1 q2 y0 r2 hs b2 hv0
   go_wp2_with fail;have HPL:=Ac (fun W (h:KT (w0.heap.size+1) (w0.heap.size+1+1) W2 W)=>(show Calls Tryz.prog 59 #[.agg #[.slice A n c,.bool s,.slice B m d]] W (BG (Ce (Ak L) (norm L)) (CZ L K) (k+L.length) W) from by rw[HQ.out,HK.out];exact Fx _ L K k W (HV0.out.kt h) hl hk));unfold BG at HPL
   have SOF:=Ac (show ∀W,KT (w0.heap.size+1) (w0.heap.size+1+1) W2 W->(W.cell? ⟨w0.heap.size,0,none⟩=some (.slice A n c)/\W.cell? ⟨w0.heap.size,1,none⟩=some (.bool s)/\W.cell? ⟨w0.heap.size,2,none⟩=some (.slice B m d)/\W.cell? ⟨w1.heap.size,0,none⟩=some (.bool s1)/\W.cell? ⟨w1.heap.size,1,none⟩=some (.slice A1 n1 c1)) from fun W h=>by
     have h1:=h.box g0 (by omega) (by omega);have h2:AH W w1.heap.size #[.bool s1,.slice A1 n1 c1]:=h.box g4 (by omega) (by omega);exact ⟨h1.c0,h1.c1,h1.c2,AH.c0 h2,AH.c1 h2⟩)
   have HW2:=Ac HT2.out.size;have HM1:=Ac (show ∀v w w',KT (w0.heap.size+1) (w0.heap.size+1+1) w w'->(fun v w=>Aw w v (Ce (Ak L) (norm L)) (CZ L K) (k+L.length)) v w->(fun v w=>Aw w v (Ce (Ak L) (norm L)) (CZ L K) (k+L.length)) v w' from fun v w w' t h=>Aw.kt h t);have HM2:=Ac (show ∀v w w',KT (w0.heap.size+1) (w0.heap.size+1+1) w w'->(fun v w=>Au w v (Ak L) (k+L.length)) v w->(fun v w=>Au w v (Ak L) (k+L.length)) v w' from fun v w w' t h=>Au.kp h t.kp)
   refine AO (by kernel_rfl) (by kernel_rfl) (by kernel_rfl) (KT (w0.heap.size+1) (w0.heap.size+1+1)) (fun j v w=>match j with|0=>v=.agg #[.slice A n c,.bool s,.slice B m d]|1=>Aw w v (Ce (Ak L) (norm L)) (CZ L K) (k+L.length)|2=>v=.agg #[.bool s1,.slice A1 n1 c1]|3=>True|4=>True|_=>True) (G2 W2 (w0.heap.size+1) 3 (fun v w=>Aw w v (Ce (Ak L) (norm L)) (CZ L K) (k+L.length)) (w0.heap.size+1+1) 4 (fun v w=>Au w v (Ak L) (k+L.length))) ?_ (fun _=>G2.start ((g1).drew) ((g2).drew) (Ap W2 1)) ?_ ?_
   · intro j v w w' hT h;match j,h with
     |0,h=>exact h
     |1,h=>exact h.kt hT
     |2,h=>exact h
     |3,h=>trivial
     |4,h=>trivial
     |j+5,h=>trivial
   · refine ⟨?_,?_,?_,?_,?_,trivial⟩
     · intro l9 σ w a hin hout hl hc hp hG hF;refine Ad.none rfl ?_;have e1:a.tmps.getD 1 undef=.pointer (some ⟨w0.heap.size,0,none⟩):=hout 1 (Ae (by kernel_rfl));have CC:=SOF.out w hG.1;obtain ⟨C0,C1,C2,D0,D1⟩:=CC;refine Does.val (.agg #[.slice A n c,.bool s,.slice B m d]) (w':=w) ?_ ⟨KT.refl _ _ _,rfl,G2.next hG (Below.refl _ _) (by decide) (by decide) HM1.out HM2.out⟩;go_simp
     · intro l9 σ w a hin hout hl hc hp hG hF;refine Ad.none rfl ?_;have e11:a.tmps.getD 11 undef=.agg #[.slice A n c,.bool s,.slice B m d]:=Am (hin 0 11) rfl (hp ⟨0,.data⟩ (by simp) rfl) (hF 0);refine Does.call ?_ (HPL.out w hG.1) ?_
       · go_simp
       · rintro e w' ⟨v,rfl,z,hb⟩;exact ⟨_,rfl,KT.of_below hb,z,G2.next hG (hb) (by decide) (by decide) HM1.out HM2.out⟩
     · intro l9 σ w a hin hout hl hc hp hG hF;refine Ad.none rfl ?_;have e4:a.tmps.getD 4 undef=.pointer (some ⟨w1.heap.size,0,none⟩):=hout 4 (Ae (by kernel_rfl));have CC:=SOF.out w hG.1;obtain ⟨C0,C1,C2,D0,D1⟩:=CC;refine Does.val (.agg #[.bool s1,.slice A1 n1 c1]) (w':=w) ?_ ⟨KT.refl _ _ _,rfl,G2.next hG (Below.refl _ _) (by decide) (by decide) HM1.out HM2.out⟩;go_simp
     · intro l9 σ w a hin hout hl hc hp hG hF;refine Ad.none rfl ?_;have e2:a.tmps.getD 2 undef=.pointer (some ⟨w0.heap.size+1,0,none⟩):=hout 2 (Ae (by kernel_rfl));have e12:=hin 1 12 rfl (hp ⟨1,.data⟩ (by simp) rfl);have z1:=hF 1 (hp ⟨1,.data⟩ (by simp) rfl);obtain ⟨A8,n8,c8,s8,B8,m8,d8,ev8⟩:=Aw.form z1;rw[ev8]at e12 z1;have hf:=z1;obtain ⟨h0,⟨Ax,nx,cx,sx,Bx,mx,dx,xb,-⟩,-⟩:=id hG
       refine Does.store_box (T:=40) (cells:=#[.slice A8 n8 c8,.bool s8,.slice B8 m8 d8]) rfl e2 e12 xb (by kernel_rfl) rfl (by simp[Value.oneCell']) (fun w2 x9 o9=>?_);have q9:=G2.st1 (τ:=upd σ 3 undef) hG (by omega) (by decide) x9 o9 hf HM1.out HM2.out;exact ⟨q9.1,trivial,q9.2⟩
     · intro l9 σ w a hin hout hl hc hp hG hF;refine Ad.none rfl ?_;have e3:a.tmps.getD 3 undef=.pointer (some ⟨w0.heap.size+1+1,0,none⟩):=hout 3 (Ae (by kernel_rfl));have e13:=hin 2 13 rfl (hp ⟨2,.data⟩ (by simp) rfl);have z2:=hF 2 (hp ⟨2,.data⟩ (by simp) rfl);rw[z2]at e13;have hf:=HZ.out.kp hG.1.kp;obtain ⟨h0,-,⟨sx,Bx,mx,dx,xb,-⟩⟩:=id hG
       refine Does.store_box (T:=38) (cells:=#[.bool s1,.slice A1 n1 c1]) rfl e3 e13 (AH.box xb) (by kernel_rfl) rfl (by simp[Value.oneCell']) (fun w2 x9 o9=>?_);have q9:=G2.st2 (τ:=upd σ 4 undef) hG (by omega) (by decide) x9 o9 hf HM1.out HM2.out;exact ⟨q9.1,trivial,q9.2⟩
   · intro l9 σ W9 hall hG hF;rw[show mid _ σ l9 _=(Act.put (Act.put (Act.put (Act.put (Act.put _ (some 11) (σ 0)) (some 12) (σ 1)) (some 13) (σ 2)) none (σ 3)) none (σ 4)) from (AU hall).trans rfl];generalize σ 0=tt0;generalize σ 1=tt1;generalize σ 2=tt2;simp only[Act.put,List.setIfInBounds_toArray,List.set_cons_zero,List.set_cons_succ];obtain ⟨TK,⟨A9,n9,c9,s9,B9,m9,d9,X9,Z9⟩,⟨t9,C9,p9,q9,Y9,V9⟩⟩:=hG;have Z9:=Z9 (hall 3 (by decide));have V9:=V9 (hall 4 (by decide))
     clear hF hall;clear σ;have TB:=Ac (HT2.out.trans (KT.below TK HW2.out (by omega) (by omega)));clear SOF HPL TK;go_wp2_with fail;exact EF rfl rfl rfl X9 Y9 rfl ⟨_,_,rfl,Z9,V9,TB.out⟩
 · have HK:=Ac (show CZ L K=K.fdiv (Ak L) by unfold CZ;rw[if_neg h0]);have h1:((Ak L).sign==0)=false:=LZ h0;have H0:=Ac h0;generalize (Ak L).sign=sgn at *;clear h0;go_wp2_with fail;refine hs.mono ?_;rintro e W2 ⟨rfl,b2⟩;have HT2:=Ac (HT.out.next b2);have g0:=q0.next b2;have p1:=q1.next b2;have p2:=q2.next b2;have p4:=AH.next y0 b2;have r3:=r2.below b2;have x0:=g0.c0;have x1:=g0.c1;have x2:=g0.c2
   have hf:=JQ _ L K k (k+L.length) 108 #[.pointer (some ⟨w1.heap.size,0,none⟩)] (fun z=>z.fdiv (Ak L)) W2 (hv0.below HT2.out) (fun W u Z hb hu=>Np _ u (Ak L) Z w1.heap.size (k+L.length) (k+L.length) W ⟨s1,A1,n1,c1,rfl,AK.next p4 hb⟩ (r3.in_.below hb) H0.out hu (by omega) (by omega)) Ke hl hk;clear a0 a1 a2 e0 e1 q0 q1 q2 y0 r2 hs b2;go_wp2_with fail;refine hf.mono ?_;rintro e w3 ⟨v3,rfl,r5,b3⟩;obtain ⟨A3,n3,c3,s3,B3,m3,d3,rfl⟩:=r5.form
   obtain ⟨y3,b4,-⟩:=Bh 40 w3 #[.slice A3 n3 c3,.bool s3,.slice B3 m3 d3];have HZ:=Ac ((r3.below b3).below b4);have HZ3:=Ac (show Aw _ (.agg #[.slice A3 n3 c3,.bool s3,.slice B3 m3 d3]) (Ce (Ak L) (norm L)) (CZ L K) (k+L.length) from by rw[HK.out];exact r5.below b4);have HT4:=Ac ((HT2.out.next b3).next b4);have g1:=(p1.next b3).next b4;have g2:=(p2.next b3).next b4;have g4:=(AH.next p4 b3).next b4;have hw3:w1.heap.size+1<=w3.heap.size:=(by have:=p4.lt;have:=b3.size;omega)
   clear x0 x1 x2 hf p1 p2 p4 r3 r5 b3 b4 g0 hv0;go_wp2_with fail;generalize hW4:w3.alloc (.cells #[.slice A3 n3 c3,.bool s3,.slice B3 m3 d3] 40)=W4 at *;clear hW4
   have SOF:=Ac (show ∀W,KT (w0.heap.size+1) (w0.heap.size+1+1) W4 W->(W.cell? ⟨w3.heap.size,0,none⟩=some (.slice A3 n3 c3)/\W.cell? ⟨w3.heap.size,1,none⟩=some (.bool s3)/\W.cell? ⟨w3.heap.size,2,none⟩=some (.slice B3 m3 d3)/\W.cell? ⟨w1.heap.size,0,none⟩=some (.bool s1)/\W.cell? ⟨w1.heap.size,1,none⟩=some (.slice A1 n1 c1)) from fun W h=>by
     have h1:=h.box y3 (by omega) (by omega);have h2:AH W w1.heap.size #[.bool s1,.slice A1 n1 c1]:=h.box g4 (by omega) (by omega);exact ⟨h1.c0,h1.c1,h1.c2,AH.c0 h2,AH.c1 h2⟩)
   have HW2:=Ac HT4.out.size;have HM1:=Ac (show ∀v w w',KT (w0.heap.size+1) (w0.heap.size+1+1) w w'->(fun v w=>Aw w v (Ce (Ak L) (norm L)) (CZ L K) (k+L.length)) v w->(fun v w=>Aw w v (Ce (Ak L) (norm L)) (CZ L K) (k+L.length)) v w' from fun v w w' t h=>Aw.kt h t);have HM2:=Ac (show ∀v w w',KT (w0.heap.size+1) (w0.heap.size+1+1) w w'->(fun v w=>Au w v (Ak L) (k+L.length)) v w->(fun v w=>Au w v (Ak L) (k+L.length)) v w' from fun v w w' t h=>Au.kp h t.kp)
   refine AO (by kernel_rfl) (by kernel_rfl) (by kernel_rfl) (KT (w0.heap.size+1) (w0.heap.size+1+1)) (fun j v w=>match j with|0=>v=.agg #[.slice A3 n3 c3,.bool s3,.slice B3 m3 d3]|1=>v=.agg #[.bool s1,.slice A1 n1 c1]|2=>True|3=>True|_=>True) (G2 W4 (w0.heap.size+1) 2 (fun v w=>Aw w v (Ce (Ak L) (norm L)) (CZ L K) (k+L.length)) (w0.heap.size+1+1) 3 (fun v w=>Au w v (Ak L) (k+L.length))) ?_ (fun _=>G2.start ((g1).drew) ((g2).drew) (Ap W4 1)) ?_ ?_
   · intro j v w w' hT h;match j,h with
     |0,h=>exact h
     |1,h=>exact h
     |2,h=>trivial
     |3,h=>trivial
     |j+4,h=>trivial
   · refine ⟨?_,?_,?_,?_,trivial⟩
     · intro l9 σ w a hin hout hl hc hp hG hF;refine Ad.none rfl ?_;have e5:a.tmps.getD 5 undef=.pointer (some ⟨w3.heap.size,0,none⟩):=hout 5 (Ae (by kernel_rfl));have CC:=SOF.out w hG.1;obtain ⟨C0,C1,C2,D0,D1⟩:=CC;refine Does.val (.agg #[.slice A3 n3 c3,.bool s3,.slice B3 m3 d3]) (w':=w) ?_ ⟨KT.refl _ _ _,rfl,G2.next hG (Below.refl _ _) (by decide) (by decide) HM1.out HM2.out⟩;go_simp
     · intro l9 σ w a hin hout hl hc hp hG hF;refine Ad.none rfl ?_;have e4:a.tmps.getD 4 undef=.pointer (some ⟨w1.heap.size,0,none⟩):=hout 4 (Ae (by kernel_rfl));have CC:=SOF.out w hG.1;obtain ⟨C0,C1,C2,D0,D1⟩:=CC;refine Does.val (.agg #[.bool s1,.slice A1 n1 c1]) (w':=w) ?_ ⟨KT.refl _ _ _,rfl,G2.next hG (Below.refl _ _) (by decide) (by decide) HM1.out HM2.out⟩;go_simp
     · intro l9 σ w a hin hout hl hc hp hG hF;refine Ad.none rfl ?_;have e2:a.tmps.getD 2 undef=.pointer (some ⟨w0.heap.size+1,0,none⟩):=hout 2 (Ae (by kernel_rfl));have e17:=hin 0 17 rfl (hp ⟨0,.data⟩ (by simp) rfl);have z0:=hF 0 (hp ⟨0,.data⟩ (by simp) rfl);rw[z0]at e17;have hf:=HZ3.out.kt hG.1;obtain ⟨h0,⟨Ax,nx,cx,sx,Bx,mx,dx,xb,-⟩,-⟩:=id hG
       refine Does.store_box (T:=40) (cells:=#[.slice A3 n3 c3,.bool s3,.slice B3 m3 d3]) rfl e2 e17 xb (by kernel_rfl) rfl (by simp[Value.oneCell']) (fun w2 x9 o9=>?_);have q9:=G2.st1 (τ:=upd σ 2 undef) hG (by omega) (by decide) x9 o9 hf HM1.out HM2.out;exact ⟨q9.1,trivial,q9.2⟩
     · intro l9 σ w a hin hout hl hc hp hG hF;refine Ad.none rfl ?_;have e3:a.tmps.getD 3 undef=.pointer (some ⟨w0.heap.size+1+1,0,none⟩):=hout 3 (Ae (by kernel_rfl));have e18:=hin 1 18 rfl (hp ⟨1,.data⟩ (by simp) rfl);have z1:=hF 1 (hp ⟨1,.data⟩ (by simp) rfl);rw[z1]at e18;have hf:=HZ.out.kp hG.1.kp;obtain ⟨h0,-,⟨sx,Bx,mx,dx,xb,-⟩⟩:=id hG
       refine Does.store_box (T:=38) (cells:=#[.bool s1,.slice A1 n1 c1]) rfl e3 e18 (AH.box xb) (by kernel_rfl) rfl (by simp[Value.oneCell']) (fun w2 x9 o9=>?_);have q9:=G2.st2 (τ:=upd σ 3 undef) hG (by omega) (by decide) x9 o9 hf HM1.out HM2.out;exact ⟨q9.1,trivial,q9.2⟩
   · intro l9 σ W9 hall hG hF;rw[show mid _ σ l9 _=(Act.put (Act.put (Act.put (Act.put _ (some 17) (σ 0)) (some 18) (σ 1)) none (σ 2)) none (σ 3)) from (AU hall).trans rfl];generalize σ 0=tt0;generalize σ 1=tt1;simp only[Act.put,List.setIfInBounds_toArray,List.set_cons_zero,List.set_cons_succ];obtain ⟨TK,⟨A9,n9,c9,s9,B9,m9,d9,X9,Z9⟩,⟨t9,C9,p9,q9,Y9,V9⟩⟩:=hG;have Z9:=Z9 (hall 2 (by decide));have V9:=V9 (hall 3 (by decide));clear hF hall;clear σ
     have TB:=Ac (HT4.out.trans (KT.below TK HW2.out (by omega) (by omega)));clear SOF TK;go_wp2_with fail;exact EF rfl rfl rfl X9 Y9 rfl ⟨_,_,rfl,Z9,V9,TB.out⟩
end
section
open Go.RowKit
open Tm
theorem OX (ps:List (Int×Int)):val [] ps=0:=by have h:=Sg [] ps;simpa[E5] using h
def lead:List (Int×Int)->Int
 |[]=>0
 |p::_=>p.2
theorem Mj {L:List (Int×Int)} {v c:Int} (h:L[0]?=some (v,c)):lead L=c:=by
 cases L with
 |nil=>simp at h
 |cons p ps=>simp at h;simp[lead,h]
def AR (L:List (Int×Int)) (K:Int) (e:Bool):Int:=
 if norm L=[] then (if Dh e K=true then 1 else -1) else if e=true/\K.fmod (Ak L)≠0 then -1 else 0
def Cp (L:List (Int×Int)) (e:Bool):Bool:=e&&decide (lead (Ce (Ak L) (norm L))<0)
def K9 (L:List (Int×Int)) (K:Int) (e:Bool):List (Int×Int):=
 if AR L K e≠0 then [] else if Cp L e=true then (Ce (Ak L) (norm L)).map fun p=>(p.1,-1*p.2) else Ce (Ak L) (norm L)
def Mk (L:List (Int×Int)) (K:Int) (e:Bool):Int:=
 if AR L K e≠0 then 0 else if Cp L e=true then -(K.fdiv (Ak L)) else K.fdiv (Ak L)
def FG (L:List (Int×Int)) (K:Int) (e:Bool):Bool:=if AR L K e≠0 then false else e
theorem EG {L:List (Int×Int)} {K:Int} {e:Bool} (h:norm L=[]):AR L K e=if Dh e K=true then 1 else -1:=by unfold AR;rw[if_pos h]
theorem G6 {L:List (Int×Int)} {K:Int} (h:norm L≠[]) (hr:K.fmod (Ak L)≠0):AR L K true=-1:=by unfold AR;rw[if_neg h,if_pos ⟨rfl,hr⟩]
theorem EW {L:List (Int×Int)} {K:Int} (h:norm L≠[]):AR L K false=0:=by unfold AR;rw[if_neg h,if_neg (fun hh=>by cases hh.1)]
theorem En {L:List (Int×Int)} {K:Int} (h:norm L≠[]) (hr:K.fmod (Ak L)=0):AR L K true=0:=by unfold AR;rw[if_neg h,if_neg (fun hh=>hh.2 hr)]
theorem Dx {L:List (Int×Int)} {K:Int} {e:Bool} (h:AR L K e≠0):K9 L K e=[]/\Mk L K e=0/\FG L K e=false:=by unfold K9 Mk FG;exact ⟨if_pos h,if_pos h,if_pos h⟩
theorem Ey {L:List (Int×Int)} {K:Int} {e:Bool} (h:AR L K e=0) (hf:Cp L e=false):K9 L K e=Ce (Ak L) (norm L)/\Mk L K e=K.fdiv (Ak L)/\FG L K e=e:=by unfold K9 Mk FG;rw[if_neg (by simp[h]),if_neg (by simp[hf]),if_neg (by simp[h]),if_neg (by simp[hf]),if_neg (by simp[h])];exact ⟨rfl,rfl,rfl⟩
theorem Hr {L:List (Int×Int)} {K:Int} {e:Bool} (h:AR L K e=0) (hf:Cp L e=true):K9 L K e=(Ce (Ak L) (norm L)).map (fun p=>(p.1,-1*p.2))/\Mk L K e=-(K.fdiv (Ak L))/\FG L K e=e:=by unfold K9 Mk FG;rw[if_neg (by simp[h]),if_pos hf,if_neg (by simp[h]),if_pos hf,if_neg (by simp[h])];exact ⟨rfl,rfl,rfl⟩
theorem Ez (L:List (Int×Int)):(Ce (Ak L) (norm L)).length=(norm L).length:=by unfold Ce;rw[List.length_map]
theorem FV (L:List (Int×Int)):norm (Ce (Ak L) (norm L))=Ce (Ak L) (norm L):=by
 by_cases h:Ak L=0
 · rw[Cw.1 h];rfl
 · exact Kb L h
theorem FW (L:List (Int×Int)):norm ((Ce (Ak L) (norm L)).map fun p=>(p.1,-1*p.2))=(Ce (Ak L) (norm L)).map fun p=>(p.1,-1*p.2):=by rw[Fv (by decide),FV]
theorem Hs {L:List (Int×Int)} {K:Int} (h:norm L≠[]):CZ L K=K.fdiv (Ak L):=by unfold CZ;rw[if_neg (fun hh=>h (Cw.1 hh))]
theorem Oy {fn:Func} {p t:Tmp} (h:fn.results=#[.cell p 42,.tmp t]) (tmps:Array Value) (w:World) (g:Nat) (x y z u:Value)
  (hp:tmps.getD p undef=.pointer (some ⟨g,0,none⟩)) (hg:AK 42 w g #[x,y,z,u]) :
  (results fn tmps).run Tryz.prog w=.ok (.tuple #[.agg #[x,y,z,u],tmps.getD t undef]) w:=by
 have hp':tmps[p]?.getD undef=.pointer (some ⟨g,0,none⟩):=by simpa using hp
 simp[results,h,hp',asAddr,run_loadVar_row w g 42 42 #[x,y,z,u] (0,0) _ hg Tryz.underlying42 rfl (by kernel_rfl)]
theorem Bf {fn:Func} {R:Ending->World->Prop} {a:Act} {w:World} {g p t:Nat} {x y z u v:Value} (hres:fn.results=#[.cell p 42,.tmp t]) (hp:a.tmps.getD p undef=.pointer (some ⟨g,0,none⟩))
  (hv:a.tmps.getD t undef=v) (hb:AK 42 w g #[x,y,z,u]) (hd:a.defers=[]) (hR:R (.returned (.tuple #[.agg #[x,y,z,u],v])) w):bodyPost Tryz.prog fn R .ret a w:=
 bodyPost_ret (by rw[Oy hres _ _ g x y z u hp hb,hv]) hd hR
def Lz (L:List (Int×Int)) (K:Int) (e:Bool) (k:Nat) (w:World) (en:Ending) (w':World):Prop:=
 ∃v,en=.returned (.tuple #[v,.int .i64 (AR L K e)])/\DC w' v (K9 L K e) (Mk L K e) (FG L K e) k/\Below w.heap.size w w'
theorem DC.zero (w:World) (k:Nat):DC w (.agg #[.slice none 0 0,.bool false,.slice none 0 0,.bool false]) [] 0 false k:=
 ⟨none,0,0,false,none,0,0,rfl,none,0,0,false,none,0,0,rfl,CY.nil _ _ _,Nat.le_refl _,by omega,Au.zero w k⟩
end
section
open Go.RowKit
structure RV where
 A:Option Addr
 n:Nat
 c:Nat
 s:Bool
 B:Option Addr
 m:Nat
 d:Nat
 f:Bool
 L:List (Int×Int)
 K:Int
def RV.cells (r:RV):List Value:=[.slice r.A r.n r.c,.bool r.s,.slice r.B r.m r.d,.bool r.f]
def RV.agg (r:RV):Value:=.agg #[.slice r.A r.n r.c,.bool r.s,.slice r.B r.m r.d,.bool r.f]
def RV.trm (r:RV):Value:=.agg #[.slice r.A r.n r.c,.bool r.s,.slice r.B r.m r.d]
def RV.rd (r:RV):List (Int×Int)×Int×Bool:=(r.L,r.K,r.f)
def AL (rs:List RV):List Value:=(rs.map RV.cells).flatten
theorem GP (r:RV) (rs:List RV):AL (r::rs)=r.cells++AL rs:=rfl
theorem Qu (rs:List RV) (i:Nat) (r:RV) (h:rs[i]?=some r):(AL rs)[4*i]?=some (.slice r.A r.n r.c)/\(AL rs)[4*i+1]?=some (.bool r.s)/\(AL rs)[4*i+2]?=some (.slice r.B r.m r.d)/\(AL rs)[4*i+3]?=some (.bool r.f):=by
 induction rs generalizing i with
 |nil=>simp at h
 |cons q rs ih=>
  rw[GP];cases i with
  |zero=>
   simp at h;subst h;exact ⟨rfl,rfl,rfl,rfl⟩
  |succ i=> have h2:=ih i (by simpa using h);have hl:q.cells.length=4:=rfl;rw[show 4*(i+1)=q.cells.length+4*i by rw[hl];omega,show q.cells.length+4*i+1=q.cells.length+(4*i+1) by omega,show q.cells.length+4*i+2=q.cells.length+(4*i+2) by omega,show q.cells.length+4*i+3=q.cells.length+(4*i+3) by omega,List.getElem?_append_right (by omega),List.getElem?_append_right (by omega),List.getElem?_append_right (by omega),List.getElem?_append_right (by omega)];simpa using h2
def Di (w:World) (A:Option Addr) (n:Nat) (rs:List RV):Prop:=
 rs.length=n/\(0<n->∃b o,A=some ⟨b,o,none⟩/\∀j u,(AL rs)[j]?=some u->w.cell? ⟨b,o+j,none⟩=some u)
def EX (w:World) (A:Option Addr) (n:Nat) (rs:List RV) (k:Nat):Prop:=Di w A n rs/\∀r∈rs,D9 w r.trm r.L r.K k
def BD (w:World) (A:Option Addr) (n:Nat) (rs:List RV) (k:Nat):Prop:=Di w A n rs/\∀r∈rs,Aw w r.trm r.L r.K k
theorem Di.below {w w':World} {A:Option Addr} {n:Nat} {rs:List RV} (h:Di w A n rs) (hb:Below w.heap.size w w'):Di w' A n rs:=by refine ⟨h.1,fun hn=>?_⟩;obtain ⟨b,o,e,hc⟩:=h.2 hn;refine ⟨b,o,e,fun j u hu=>?_⟩;have h1:=hc j u hu;have hlt:=World.block_lt_of_cell? w _ h1;exact (World.cell?_of_block (w:=w) (a:=⟨b,o+j,none⟩) (hb.block b hlt)).trans h1
theorem EX.below {w w':World} {A:Option Addr} {n k:Nat} {rs:List RV} (h:EX w A n rs k) (hb:Below w.heap.size w w'):EX w' A n rs k:=⟨h.1.below hb,fun p hp=>(h.2 p hp).below hb⟩
theorem BD.below {w w':World} {A:Option Addr} {n k:Nat} {rs:List RV} (h:BD w A n rs k) (hb:Below w.heap.size w w'):BD w' A n rs k:=⟨h.1.below hb,fun p hp=>(h.2 p hp).below hb⟩
theorem Di.at_ {w:World} {A:Option Addr} {n i:Nat} {rs:List RV} (h:Di w A n rs) (hi:i<n):∃b o r,A=some ⟨b,o,none⟩/\rs[i]?=some r/\w.cell? ⟨b,o+i*4,none⟩=some (.slice r.A r.n r.c)/\w.cell? ⟨b,o+i*4+1,none⟩=some (.bool r.s)/\w.cell? ⟨b,o+i*4+2,none⟩=some (.slice r.B r.m r.d)/\w.cell? ⟨b,o+i*4+3,none⟩=some (.bool r.f):=by
 obtain ⟨b,o,e,hc⟩:=h.2 (by omega);have hl:i<rs.length:=by rw[h.1];exact hi
 obtain ⟨g0,g1,g2,g3⟩:=Qu rs i rs[i] (List.getElem?_eq_getElem hl);refine ⟨b,o,rs[i],e,List.getElem?_eq_getElem hl,?_,?_,?_,?_⟩
 · rw[show o+i*4=o+4*i by omega];exact hc _ _ g0
 · rw[show o+i*4+1=o+(4*i+1) by omega];exact hc _ _ g1
 · rw[show o+i*4+2=o+(4*i+2) by omega];exact hc _ _ g2
 · rw[show o+i*4+3=o+(4*i+3) by omega];exact hc _ _ g3
theorem Di.box {T:TypeId} {w:World} {g:Nat} {rs:List RV} (h:AK T w g (AL rs).toArray):Di w (some ⟨g,0,none⟩) rs.length rs:=
 ⟨rfl,fun _=>⟨g,0,rfl,fun j u hu=>by rw[Nat.zero_add];exact h.cell j u (by simpa using hu)⟩⟩
def VC (ds:List (List (Int×Int)×Int×Bool)) (k:Nat) (w:World) (en:Ending) (w':World):Prop:=
 ∃A c rs,en=.returned (.slice A ds.length c)/\BD w' A ds.length rs k/\rs.map RV.rd=ds/\ds.length<=c/\c<=9223372036854775807/\Below w.heap.size w w'
def AZ (L:List (Int×Int)):List (Int×Int):=Tm.norm (L.map fun p=>(p.1,-1*p.2))
def WM (L:List (Int×Int)) (K:Int) (e:Bool):List (List (Int×Int)×Int×Bool):=
 if e then [(Tm.norm L,K-1,false),(AZ L,-K-1,false)] else [(AZ L,-K-1,false)]
end
section
open Go.Shelf
end
section
open Go.Shelf Go.RowKit
structure BW (B b:Nat) (w w':World):Prop where
 os:w'.os=w.os
 tape:w'.tape=w.tape
 output:w'.output=w.output
 size:w.heap.size<=w'.heap.size
 low:∀k,k<w.heap.size->k<B->k≠b->w'.heap[k]?=w.heap[k]?
 box:∀T g cs,T≠5->g≠b->AK T w g cs->AK T w' g cs
end
section
open Go.Shelf Go.RowKit
def U5:Bool->Bool->List UInt8
 |true,true=>[32,45,32]
 |true,false=>[32,43,32]
 |false,true=>[45]
 |false,false=>[]
end
section
open Go.Shelf Go.RowKit
def Wk (w:World) (A:Option Addr) (n:Nat) (ns:List ByteArray):Prop:=ns.length=n/\(0<n->∃b o,A=some ⟨b,o,none⟩/\∀j s,ns[j]?=some s->w.cell? ⟨b,o+j,none⟩=some (.string s))
def VD (s:ByteArray) (w:World) (e:Ending) (w':World):Prop:=e=.returned (.string s)/\Below w.heap.size w w'
end
section
open Go.RowKit
def WJ (xs:List Nat):List Value:=xs.map fun (x:Nat)=>Value.int .u8 (x:Int)
def Wl (w:World) (g:Nat) (zs:List Nat):Prop:=w.heap[g]?=some (.cells (WJ zs).toArray 5 (0,0))
end
end Go.Proofs.YtmedjkhmadfjlaaGreat
