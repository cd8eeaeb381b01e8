/- Texts of one seat, put together: TwoRes TShrink TightMath RelTight TCoef. -/
import Derived.Test.YtemfjdedjcjegaaGreatDoorL17
import Derived.Test.YtemfjdedjcjegaaGreatDoorL16
import Derived.Test.YtemfjdedjcjegaaGreatDoorL18
import Derived.Test.YtemfjdedjcjegaaGreatDoorL14
import Derived.Test.YtemfjdedjcjegaaGreatDoorL15
set_option linter.unusedVariables false
set_option linter.unusedSimpArgs false
set_option maxRecDepth 100000
set_option maxHeartbeats 16000000
namespace Go.Proofs.YtemfjdedjcjegaaGreatDoor
section
open Go.RowKit
structure KT (r q:Nat) (w w':World):Prop where
 kp:Kp w w'
 parts:∀A n ps k,AC w A n ps k->AC w' A n ps k
 os:w'.os=w.os
 tape:w'.tape=w.tape
 output:w'.output=w.output
 size:w.heap.size<=w'.heap.size
 block:∀b,b<w.heap.size->b≠r->b≠q->w'.heap[b]?=w.heap[b]?
theorem KT.refl (r q:Nat) (w:World):KT r q w w:=⟨Kp.refl w,fun _ _ _ _ h=>h,rfl,rfl,rfl,Nat.le_refl _,fun _ _ _ _=>rfl⟩
theorem KT.trans {r q:Nat} {a b c:World} (h:KT r q a b) (k:KT r q b c):KT r q a c:=
 ⟨h.kp.trans k.kp,fun _ _ _ _ x=>k.parts _ _ _ _ (h.parts _ _ _ _ x),k.os.trans h.os,k.tape.trans h.tape,k.output.trans h.output,Nat.le_trans h.size k.size,fun i hi h1 h2=>(k.block i (Nat.lt_of_lt_of_le hi h.size) h1 h2).trans (h.block i hi h1 h2)⟩
theorem KT.of_below {r q:Nat} {w w':World} (h:Below w.heap.size w w'):KT r q w w':=
 ⟨Kp.of_below h,fun _ _ _ _ x=>x.below h,h.os,h.tape,h.output,h.size,fun i hi _ _=>h.block i hi⟩
theorem KT.term {r q m c d:Nat} {B C:Option Addr} {s:Bool} {n:Nat} {w w':World} (hb:Aw 33 w r #[.slice B m c,.bool s,.slice C n d]) (ho:Ao r w w'):KT r q w w':=
 ⟨hb.kp (QB _ _ _ _ _ _ _) ho,fun _ _ _ _ x=>x.keep ho (hb.kp (QB _ _ _ _ _ _ _) ho) (x.offTerm hb (fun i h=>by cases h) (fun i h=>by cases h) (fun i h=>by cases h)),ho.gb.os,ho.gb.tape,ho.gb.output,ho.gb.size,fun i hi h1 _=>ho.gb.block i hi (fun e=>h1 (by injection e))⟩
theorem KT.num {r q m d:Nat} {B:Option Addr} {s:Bool} {w w':World} (hb:AY w q #[.bool s,.slice B m d]) (ho:Ao q w w'):KT r q w w':=
 ⟨hb.kpI ho,fun A n ps k x=>x.keep ho (hb.kpI ho) (EP.offInt (L:=Ca ps) ⟨ps,x,rfl⟩ hb),ho.gb.os,ho.gb.tape,ho.gb.output,ho.gb.size,fun i hi _ h2=>ho.gb.block i hi (fun e=>h2 (by injection e))⟩
theorem KT.below {r q B:Nat} {w w':World} (h:KT r q w w') (hB:B<=w.heap.size) (hr:B<=r) (hq:B<=q):Below B w w':=
 ⟨h.os,h.tape,h.output,h.size,fun b hb=>h.block b (by omega) (by omega) (by omega)⟩
theorem KT.box {r q g:Nat} {T:TypeId} {cs:Array Value} {w w':World} (h:KT r q w w') (hb:Aw T w g cs) (hr:g≠r) (hq:g≠q):Aw T w' g cs:=(h.block g hb.lt hr hq).trans hb
theorem An.kt {r q:Nat} {w w':World} {v:Value} {L:List (Int×Int)} {K:Int} {k:Nat} (h:An w v L K k) (t:KT r q w w'):An w' v L K k:=by obtain ⟨A,n,c,s,B,m,d,e,⟨ps,h1,h2,h3⟩,h4,h5,h6⟩:=h;exact ⟨A,n,c,s,B,m,d,e,⟨ps,t.parts _ _ _ _ h1,h2,fun p hp=>(h3 p hp).kp t.kp⟩,h4,h5,h6.kp t.kp⟩
theorem Dw.kt {r q:Nat} {w w':World} {v:Value} {L:List (Int×Int)} {K:Int} {k:Nat} (h:Dw w v L K k) (t:KT r q w w'):Dw w' v L K k:=by obtain ⟨A,n,c,s,B,m,d,e,⟨ps,h1,h2⟩,h4,h5,h6⟩:=h;exact ⟨A,n,c,s,B,m,d,e,⟨ps,t.parts _ _ _ _ h1,h2⟩,h4,h5,h6.kp t.kp⟩
def G2 (W0:World) (r s1:Nat) (F1:Value->World->Prop) (q s2:Nat) (F2:Value->World->Prop) (listed:Array Bool) (_σ:Nat->Value) (w:World):Prop:=
 KT r q W0 w/\(∃A n c s B m d,Aw 33 w r #[.slice A n c,.bool s,.slice B m d]/\(listed.getD s1 false=true->F1 (.agg #[.slice A n c,.bool s,.slice B m d]) w)) /\
  (∃s B m d,AY w q #[.bool s,.slice B m d]/\(listed.getD s2 false=true->F2 (.agg #[.bool s,.slice B m d]) w))
section
variable {W0 w w':World} {r s1 q s2:Nat} {F1 F2:Value->World->Prop} {listed:Array Bool} {σ τ:Nat->Value}
theorem G2.start {n:Nat} {A B C:Option Addr} {l c m d m' d':Nat} {s s':Bool} (h1:Aw 33 w r #[.slice A l c,.bool s,.slice B m d]) (h2:AY w q #[.bool s',.slice C m' d']) (hb:Below W0.heap.size W0 w):G2 W0 r s1 F1 q s2 F2 (Array.replicate n false) σ w:=
 ⟨KT.of_below hb,⟨_,_,_,_,_,_,_,h1,fun h=>by rw[BS]at h;cases h⟩,⟨_,_,_,_,h2,fun h=>by rw[BS]at h;cases h⟩⟩
theorem G2.next {i:Nat} (h:G2 W0 r s1 F1 q s2 F2 listed σ w) (hb:Below w.heap.size w w') (h1:i≠s1) (h2:i≠s2) (m1:∀v w w',KT r q w w'->F1 v w->F1 v w') (m2:∀v w w',KT r q w w'->F2 v w->F2 v w'):G2 W0 r s1 F1 q s2 F2 (listed.setIfInBounds i true) τ w':=by
 obtain ⟨h0,⟨A,n,c,s,B,m,d,a1,a2⟩,⟨s',B',m',d',b1,b2⟩⟩:=h;refine ⟨h0.trans (KT.of_below hb),⟨A,n,c,s,B,m,d,a1.next hb,fun hl=>?_⟩,⟨s',B',m',d',b1.next hb,fun hl=>?_⟩⟩
 · rw[getD_set_ne false h1]at hl;exact m1 _ _ _ (KT.of_below hb) (a2 hl)
 · rw[getD_set_ne false h2]at hl;exact m2 _ _ _ (KT.of_below hb) (b2 hl)
theorem G2.st1 {A B:Option Addr} {n c m d:Nat} {s:Bool} (h:G2 W0 r s1 F1 q s2 F2 listed σ w) (hrq:r≠q) (h12:s1≠s2) (x:Aw 33 w' r #[.slice A n c,.bool s,.slice B m d]) (ho:Ao r w w') (hf:F1 (.agg #[.slice A n c,.bool s,.slice B m d]) w) (m1:∀v w w',KT r q w w'->F1 v w->F1 v w') (m2:∀v w w',KT r q w w'->F2 v w->F2 v w') :
  KT r q w w'/\G2 W0 r s1 F1 q s2 F2 (listed.setIfInBounds s1 true) τ w':=by
 obtain ⟨h0,⟨A0,n0,c0,s0,B0,m0,d0,a1,-⟩,⟨s',B',m',d',b1,b2⟩⟩:=h;have t:KT r q w w':=KT.term a1 ho;refine ⟨t,h0.trans t,⟨_,_,_,_,_,_,_,x,fun _=>m1 _ _ _ t hf⟩,⟨s',B',m',d',Aw.other b1 ho (Ne.symm hrq),fun hl=>?_⟩⟩;rw[getD_set_ne false h12]at hl;exact m2 _ _ _ t (b2 hl)
theorem G2.st2 {B:Option Addr} {m d:Nat} {s:Bool} (h:G2 W0 r s1 F1 q s2 F2 listed σ w) (hrq:r≠q) (h12:s1≠s2) (x:AY w' q #[.bool s,.slice B m d]) (ho:Ao q w w') (hf:F2 (.agg #[.bool s,.slice B m d]) w) (m1:∀v w w',KT r q w w'->F1 v w->F1 v w') (m2:∀v w w',KT r q w w'->F2 v w->F2 v w') :
  KT r q w w'/\G2 W0 r s1 F1 q s2 F2 (listed.setIfInBounds s2 true) τ w':=by
 obtain ⟨h0,⟨A0,n0,c0,s0,B0,m0,d0,a1,a2⟩,⟨s',B',m',d',b1,-⟩⟩:=h;have t:KT r q w w':=KT.num b1 ho;refine ⟨t,h0.trans t,⟨_,_,_,_,_,_,_,Aw.other a1 ho hrq,fun hl=>?_⟩,⟨_,_,_,_,x,fun _=>m2 _ _ _ t hf⟩⟩;rw[getD_set_ne false (Ne.symm h12)]at hl;exact m1 _ _ _ t (a2 hl)
end
end
section
open Go.RowKit
open Tm
theorem Mb (v u:Value) (G Z:Int) (g j k:Nat) (w:World) (hb:∃s A n c,v=.agg #[.bool s,.slice A n c]/\AY w g #[.bool s,.slice A n c]) (hv:BF w v G j) (hG:G≠0) (hu:BF w u Z k) (hk:k<=68719476736) (hj:j<=68719476736) :
  Calls Tryz.prog 52 #[u,.pointer (some ⟨g,0,none⟩)] w (CW (Z.fdiv G) k w):=by
 obtain ⟨s,A,n,c,rfl,hb⟩:=hb;have hu0:=hu;obtain ⟨t,B,m,d,ys,rfl,-⟩:=hu;obtain ⟨z0,z1,z2,-⟩:=El w #[.bool t,.slice B m d] #[.bool false,.slice none 0 0];have hf:=Ma _ _ Z G k j _ (hu0.below z2) (hv.below z2) hG hk hj;have q:=hb.next z2;have c0:=z0.c0;have c1:=z0.c1;have d0:=q.c0;have d1:=q.c1;clear hG;go_enter Tryz.func52,Tryz.ntmps52;go_wp2_with fail;refine hf.mono ?_;rintro e w1 ⟨u1,v1,rfl,r1,r2,b1⟩;obtain ⟨s1,A1,n1,c1',rfl⟩:=r1.form;obtain ⟨s2,A2,n2,c2',rfl⟩:=r2.form
 have k1:=z1.next b1;have y1:=Ae w1 (.cells #[.bool s1,.slice A1 n1 c1'] 31);have y2:=Ae (w1.alloc (.cells #[.bool s1,.slice A1 n1 c1'] 31)) (.cells #[.bool s2,.slice A2 n2 c2'] 31);have k2:=(k1.next y1).next y2;have r3:=(r1.below y1).below y2;have HT:=Ad (((z2.next b1).next y1).next y2);clear y1 y2 c0 c1 d0 d1 k1 r1 r2;go_wp2_with (with_reducible refine Al rfl _ _ rfl (w.heap.size+1) _ _ _ _ rfl rfl _ _ k2 ?_;intro w3 k3 ho3);refine Av rfl rfl k3 rfl ?_
 exact ⟨_,rfl,r3.only k2 ho3,AH HT.out (by omega) ho3⟩
theorem II:∀args w,(callFunc 52 args).run Tryz.prog w=.ok (.enter 52 args) w:=enters_of Tryz.func52 (by kernel_rfl) rfl
def Fo (L:List (Int×Int)) (K:Int):Int:=if Ai L=0 then K else K.fdiv (Ai L)
def RY (L:List (Int×Int)) (K:Int) (k:Nat) (w:World) (e:Ending) (w':World):Prop:=∃v u,e=.returned (.tuple #[v,u])/\An w' v (Cm (Ai L) (norm L)) (Fo L K) k/\Au w' u (Ai L) k/\Below w.heap.size w w'
theorem Np {fn:Func} {p q:Tmp} (h:fn.results=#[.cell p 33,.cell q 31]) (tmps:Array Value) (w:World) (g k:Nat) (x y z x' y':Value)
  (hp:tmps.getD p undef=.pointer (some ⟨g,0,none⟩)) (hq:tmps.getD q undef=.pointer (some ⟨k,0,none⟩)) (hg:Aw 33 w g #[x,y,z]) (hk:AY w k #[x',y']) :
  (results fn tmps).run Tryz.prog w=.ok (.tuple #[.agg #[x,y,z],.agg #[x',y']]) w:=by
 have hp':tmps[p]?.getD undef=.pointer (some ⟨g,0,none⟩):=by simpa using hp
 have hq':tmps[q]?.getD undef=.pointer (some ⟨k,0,none⟩):=by simpa using hq
 simp[results,h,hp',hq',asAddr,run_loadVar_row w g 33 33 #[x,y,z] (0,0) _ hg Tryz.underlying33 rfl (by kernel_rfl),run_loadVar_row w k 31 31 #[x',y'] (0,0) _ hk Tryz.underlying31 rfl (by kernel_rfl)]
theorem GV {fn:Func} {R:Ending->World->Prop} {a:Act} {w:World} {g k p q:Nat} {x y z x' y':Value} (hres:fn.results=#[.cell p 33,.cell q 31]) (hp:a.tmps.getD p undef=.pointer (some ⟨g,0,none⟩)) (hq:a.tmps.getD q undef=.pointer (some ⟨k,0,none⟩))
  (hb:Aw 33 w g #[x,y,z]) (hk:AY w k #[x',y']) (hd:a.defers=[]) (hR:R (.returned (.tuple #[.agg #[x,y,z],.agg #[x',y']])) w):bodyPost Tryz.prog fn R .ret a w:=
 bodyPost_ret (by rw[Np hres _ _ g k x y z x' y' hp hq hb hk]) hd hR
theorem Mc (v:Value) (L:List (Int×Int)) (K:Int) (k:Nat) (w0:World) (hv:Dw w0 v L K k) (hl:L.length<=1099511) (hk:k<=1099511627):Calls Tryz.prog 26 #[v] w0 (RY L K (k+L.length) w0):=by
 have hv0:=hv;obtain ⟨A,n,c,s,B,m,d,rfl,-⟩:=hv;obtain ⟨z0,z1,z2,z3,z4⟩:=BQ 33 33 31 w0 #[.slice A n c,.bool s,.slice B m d] #[.slice none 0 0,.bool false,.slice none 0 0] #[.bool false,.slice none 0 0];have hct:=KJ _ L K k _ (hv0.below z3) hl hk;have x0:=z0.c0;have x1:=z0.c1;have x2:=z0.c2;go_enter Tryz.func26,Tryz.ntmps26;go_wp2_with fail;refine hct.mono ?_;rintro e w1 ⟨v1,rfl,r1,b1⟩;obtain ⟨s1,A1,n1,c1,rfl⟩:=r1.form;obtain ⟨y0,y1,y2⟩:=AV 31 w1 #[.bool s1,.slice A1 n1 c1]
 have HT:=Ad ((z3.next b1).next y1);have q0:=(z0.next b1).next y1;have q1:=(z1.next b1).next y1;have q2:=(z2.next b1).next y1;have r2:=r1.below y1;have hs:=Cs _ (Ai L) _ _ r2.in_ (by omega);unfold BA at hs;have hw1:w0.heap.size+1+1+1<=w1.heap.size:=by have:=b1.size;omega
 have a0:=q0.c0;have a1:=q0.c1;have a2:=q0.c2;have e0:=AY.c0 y0;have e1:=AY.c1 y0;clear x0 x1 x2 hct z0 z1 z2 z3 z4 b1 r1 y1 y2;by_cases h0:Ai L=0
 · have HN:=CZ.1 h0;have HK:=Ad (show Fo L K=K by unfold Fo;rw[if_pos h0]);have HQ:=Ad (show Cm (Ai L) (norm L)=norm L by rw[HN];rfl);rw[h0]at hs;rw[show Int.sign 0=0 from rfl]at hs;clear h0 HN;go_wp2_with fail;refine hs.mono ?_;rintro e W2 ⟨rfl,b2⟩;have HT2:=Ad (HT.out.next b2);have g0:=q0.next b2;have g1:=q1.next b2;have g2:=q2.next b2;have g4:=AY.next y0 b2;have HZ:=Ad (r2.below b2);have HV0:=Ad (hv0.below HT2.out);clear a0 a1 a2 e0 e1 q0 q1 q2 y0 r2 hs b2 hv0
   go_wp2_with fail;have HPL:=Ad (fun W (h:KT (w0.heap.size+1) (w0.heap.size+1+1) W2 W)=>(show Calls Tryz.prog 39 #[.agg #[.slice A n c,.bool s,.slice B m d]] W (Bm (Cm (Ai L) (norm L)) (Fo L K) (k+L.length) W) from by rw[HQ.out,HK.out];exact Dh _ L K k W (HV0.out.kt h) hl hk));unfold Bm at HPL
   have SOF:=Ad (show ∀W,KT (w0.heap.size+1) (w0.heap.size+1+1) W2 W->(W.cell? ⟨w0.heap.size,0,none⟩=some (.slice A n c)/\W.cell? ⟨w0.heap.size,1,none⟩=some (.bool s)/\W.cell? ⟨w0.heap.size,2,none⟩=some (.slice B m d)/\W.cell? ⟨w1.heap.size,0,none⟩=some (.bool s1)/\W.cell? ⟨w1.heap.size,1,none⟩=some (.slice A1 n1 c1)) from fun W h=>by
     have h1:=h.box g0 (by omega) (by omega);have h2:AY W w1.heap.size #[.bool s1,.slice A1 n1 c1]:=h.box g4 (by omega) (by omega);exact ⟨h1.c0,h1.c1,h1.c2,AY.c0 h2,AY.c1 h2⟩)
   have HW2:=Ad HT2.out.size;have HM1:=Ad (show ∀v w w',KT (w0.heap.size+1) (w0.heap.size+1+1) w w'->(fun v w=>An w v (Cm (Ai L) (norm L)) (Fo L K) (k+L.length)) v w->(fun v w=>An w v (Cm (Ai L) (norm L)) (Fo L K) (k+L.length)) v w' from fun v w w' t h=>An.kt h t);have HM2:=Ad (show ∀v w w',KT (w0.heap.size+1) (w0.heap.size+1+1) w w'->(fun v w=>Au w v (Ai L) (k+L.length)) v w->(fun v w=>Au w v (Ai L) (k+L.length)) v w' from fun v w w' t h=>Au.kp h t.kp)
   refine BC (by kernel_rfl) (by kernel_rfl) (by kernel_rfl) (KT (w0.heap.size+1) (w0.heap.size+1+1)) (fun j v w=>match j with|0=>v=.agg #[.slice A n c,.bool s,.slice B m d]|1=>An w v (Cm (Ai L) (norm L)) (Fo L K) (k+L.length)|2=>v=.agg #[.bool s1,.slice A1 n1 c1]|3=>True|4=>True|_=>True) (G2 W2 (w0.heap.size+1) 3 (fun v w=>An w v (Cm (Ai L) (norm L)) (Fo L K) (k+L.length)) (w0.heap.size+1+1) 4 (fun v w=>Au w v (Ai L) (k+L.length))) ?_ (fun _=>G2.start ((g1).drew) ((g2).drew) (Ak W2 1)) ?_ ?_
   · intro j v w w' hT h;match j,h with
     |0,h=>exact h
     |1,h=>exact h.kt hT
     |2,h=>exact h
     |3,h=>trivial
     |4,h=>trivial
     |j+5,h=>trivial
   · refine ⟨?_,?_,?_,?_,?_,trivial⟩
     · intro listed σ w a hin hout hl hc hp hG hF;refine Ac.none rfl ?_;have e1:a.tmps.getD 1 undef=.pointer (some ⟨w0.heap.size,0,none⟩):=hout 1 (Af (by kernel_rfl));have CC:=SOF.out w hG.1;obtain ⟨C0,C1,C2,D0,D1⟩:=CC;refine Does.val (.agg #[.slice A n c,.bool s,.slice B m d]) (w':=w) ?_ ⟨KT.refl _ _ _,rfl,G2.next hG (Below.refl _ _) (by decide) (by decide) HM1.out HM2.out⟩;go_simp
     · intro listed σ w a hin hout hl hc hp hG hF;refine Ac.none rfl ?_;have e11:a.tmps.getD 11 undef=.agg #[.slice A n c,.bool s,.slice B m d]:=(hin 0 11 rfl (hp ⟨0,.data⟩ (by simp) rfl)).trans (hF 0 (hp ⟨0,.data⟩ (by simp) rfl));refine Does.call ?_ (HPL.out w hG.1) ?_
       · go_simp
       · rintro e w' ⟨v,rfl,z,hb⟩;exact ⟨_,rfl,KT.of_below hb,z,G2.next hG (hb) (by decide) (by decide) HM1.out HM2.out⟩
     · intro listed σ w a hin hout hl hc hp hG hF;refine Ac.none rfl ?_;have e4:a.tmps.getD 4 undef=.pointer (some ⟨w1.heap.size,0,none⟩):=hout 4 (Af (by kernel_rfl));have CC:=SOF.out w hG.1;obtain ⟨C0,C1,C2,D0,D1⟩:=CC;refine Does.val (.agg #[.bool s1,.slice A1 n1 c1]) (w':=w) ?_ ⟨KT.refl _ _ _,rfl,G2.next hG (Below.refl _ _) (by decide) (by decide) HM1.out HM2.out⟩;go_simp
     · intro listed σ w a hin hout hl hc hp hG hF;refine Ac.none rfl ?_;have e2:a.tmps.getD 2 undef=.pointer (some ⟨w0.heap.size+1,0,none⟩):=hout 2 (Af (by kernel_rfl));have e12:=hin 1 12 rfl (hp ⟨1,.data⟩ (by simp) rfl);have z1:=hF 1 (hp ⟨1,.data⟩ (by simp) rfl);obtain ⟨A8,n8,c8,s8,B8,m8,d8,ev8⟩:=An.form z1;rw[ev8]at e12 z1;have hf:=z1;obtain ⟨h0,⟨Ax,nx,cx,sx,Bx,mx,dx,xb,-⟩,-⟩:=id hG
       refine Does.store_box (T:=33) (cells:=#[.slice A8 n8 c8,.bool s8,.slice B8 m8 d8]) rfl e2 e12 xb (by kernel_rfl) rfl (by simp[Value.oneCell']) (fun w2 x9 o9=>?_);have q9:=G2.st1 (τ:=upd σ 3 undef) hG (by omega) (by decide) x9 o9 hf HM1.out HM2.out;exact ⟨q9.1,trivial,q9.2⟩
     · intro listed σ w a hin hout hl hc hp hG hF;refine Ac.none rfl ?_;have e3:a.tmps.getD 3 undef=.pointer (some ⟨w0.heap.size+1+1,0,none⟩):=hout 3 (Af (by kernel_rfl));have e13:=hin 2 13 rfl (hp ⟨2,.data⟩ (by simp) rfl);have z2:=hF 2 (hp ⟨2,.data⟩ (by simp) rfl);rw[z2]at e13;have hf:=HZ.out.kp hG.1.kp;obtain ⟨h0,-,⟨sx,Bx,mx,dx,xb,-⟩⟩:=id hG
       refine Does.store_box (T:=31) (cells:=#[.bool s1,.slice A1 n1 c1]) rfl e3 e13 (AY.box xb) (by kernel_rfl) rfl (by simp[Value.oneCell']) (fun w2 x9 o9=>?_);have q9:=G2.st2 (τ:=upd σ 4 undef) hG (by omega) (by decide) x9 o9 hf HM1.out HM2.out;exact ⟨q9.1,trivial,q9.2⟩
   · intro listed σ W9 hall hG hF;rw[show mid _ σ listed _=(Act.put (Act.put (Act.put (Act.put (Act.put _ (some 11) (σ 0)) (some 12) (σ 1)) (some 13) (σ 2)) none (σ 3)) none (σ 4)) from (BP hall).trans rfl];generalize σ 0=tt0;generalize σ 1=tt1;generalize σ 2=tt2;simp only[Act.put,List.setIfInBounds_toArray,List.set_cons_zero,List.set_cons_succ];obtain ⟨TK,⟨A9,n9,c9,s9,B9,m9,d9,X9,Z9⟩,⟨t9,C9,p9,q9,Y9,V9⟩⟩:=hG;have Z9:=Z9 (hall 3 (by decide))
     have V9:=V9 (hall 4 (by decide));clear hF hall;clear σ;have TB:=Ad (HT2.out.trans (KT.below TK HW2.out (by omega) (by omega)));clear SOF HPL TK;go_wp2_with fail;exact GV rfl rfl rfl X9 Y9 rfl ⟨_,_,rfl,Z9,V9,TB.out⟩
 · have HK:=Ad (show Fo L K=K.fdiv (Ai L) by unfold Fo;rw[if_neg h0]);have h1:((Ai L).sign==0)=false:=I3 h0;have H0:=Ad h0;generalize (Ai L).sign=sgn at *;clear h0;go_wp2_with fail;refine hs.mono ?_;rintro e W2 ⟨rfl,b2⟩;have HT2:=Ad (HT.out.next b2);have g0:=q0.next b2;have p1:=q1.next b2;have p2:=q2.next b2;have p4:=AY.next y0 b2;have r3:=r2.below b2;have x0:=g0.c0;have x1:=g0.c1;have x2:=g0.c2
   have hf:=Gs _ L K k (k+L.length) 52 #[.pointer (some ⟨w1.heap.size,0,none⟩)] (fun z=>z.fdiv (Ai L)) W2 (hv0.below HT2.out) (fun W u Z hb hu=>Mb _ u (Ai L) Z w1.heap.size (k+L.length) (k+L.length) W ⟨s1,A1,n1,c1,rfl,Aw.next p4 hb⟩ (r3.in_.below hb) H0.out hu (by omega) (by omega)) II hl hk;clear a0 a1 a2 e0 e1 q0 q1 q2 y0 r2 hs b2;go_wp2_with fail;refine hf.mono ?_;rintro e w3 ⟨v3,rfl,r5,b3⟩;obtain ⟨A3,n3,c3,s3,B3,m3,d3,rfl⟩:=r5.form
   obtain ⟨y3,b4,-⟩:=AV 33 w3 #[.slice A3 n3 c3,.bool s3,.slice B3 m3 d3];have HZ:=Ad ((r3.below b3).below b4);have HZ3:=Ad (show An _ (.agg #[.slice A3 n3 c3,.bool s3,.slice B3 m3 d3]) (Cm (Ai L) (norm L)) (Fo L K) (k+L.length) from by rw[HK.out];exact r5.below b4);have HT4:=Ad ((HT2.out.next b3).next b4);have g1:=(p1.next b3).next b4;have g2:=(p2.next b3).next b4;have g4:=(AY.next p4 b3).next b4;have hw3:w1.heap.size+1<=w3.heap.size:=(by have:=p4.lt;have:=b3.size;omega)
   clear x0 x1 x2 hf p1 p2 p4 r3 r5 b3 b4 g0 hv0;go_wp2_with fail;generalize hW4:w3.alloc (.cells #[.slice A3 n3 c3,.bool s3,.slice B3 m3 d3] 33)=W4 at *;clear hW4
   have SOF:=Ad (show ∀W,KT (w0.heap.size+1) (w0.heap.size+1+1) W4 W->(W.cell? ⟨w3.heap.size,0,none⟩=some (.slice A3 n3 c3)/\W.cell? ⟨w3.heap.size,1,none⟩=some (.bool s3)/\W.cell? ⟨w3.heap.size,2,none⟩=some (.slice B3 m3 d3)/\W.cell? ⟨w1.heap.size,0,none⟩=some (.bool s1)/\W.cell? ⟨w1.heap.size,1,none⟩=some (.slice A1 n1 c1)) from fun W h=>by
     have h1:=h.box y3 (by omega) (by omega);have h2:AY W w1.heap.size #[.bool s1,.slice A1 n1 c1]:=h.box g4 (by omega) (by omega);exact ⟨h1.c0,h1.c1,h1.c2,AY.c0 h2,AY.c1 h2⟩)
   have HW2:=Ad HT4.out.size;have HM1:=Ad (show ∀v w w',KT (w0.heap.size+1) (w0.heap.size+1+1) w w'->(fun v w=>An w v (Cm (Ai L) (norm L)) (Fo L K) (k+L.length)) v w->(fun v w=>An w v (Cm (Ai L) (norm L)) (Fo L K) (k+L.length)) v w' from fun v w w' t h=>An.kt h t);have HM2:=Ad (show ∀v w w',KT (w0.heap.size+1) (w0.heap.size+1+1) w w'->(fun v w=>Au w v (Ai L) (k+L.length)) v w->(fun v w=>Au w v (Ai L) (k+L.length)) v w' from fun v w w' t h=>Au.kp h t.kp)
   refine BC (by kernel_rfl) (by kernel_rfl) (by kernel_rfl) (KT (w0.heap.size+1) (w0.heap.size+1+1)) (fun j v w=>match j with|0=>v=.agg #[.slice A3 n3 c3,.bool s3,.slice B3 m3 d3]|1=>v=.agg #[.bool s1,.slice A1 n1 c1]|2=>True|3=>True|_=>True) (G2 W4 (w0.heap.size+1) 2 (fun v w=>An w v (Cm (Ai L) (norm L)) (Fo L K) (k+L.length)) (w0.heap.size+1+1) 3 (fun v w=>Au w v (Ai L) (k+L.length))) ?_ (fun _=>G2.start ((g1).drew) ((g2).drew) (Ak W4 1)) ?_ ?_
   · intro j v w w' hT h;match j,h with
     |0,h=>exact h
     |1,h=>exact h
     |2,h=>trivial
     |3,h=>trivial
     |j+4,h=>trivial
   · refine ⟨?_,?_,?_,?_,trivial⟩
     · intro listed σ w a hin hout hl hc hp hG hF;refine Ac.none rfl ?_;have e5:a.tmps.getD 5 undef=.pointer (some ⟨w3.heap.size,0,none⟩):=hout 5 (Af (by kernel_rfl));have CC:=SOF.out w hG.1;obtain ⟨C0,C1,C2,D0,D1⟩:=CC;refine Does.val (.agg #[.slice A3 n3 c3,.bool s3,.slice B3 m3 d3]) (w':=w) ?_ ⟨KT.refl _ _ _,rfl,G2.next hG (Below.refl _ _) (by decide) (by decide) HM1.out HM2.out⟩;go_simp
     · intro listed σ w a hin hout hl hc hp hG hF;refine Ac.none rfl ?_;have e4:a.tmps.getD 4 undef=.pointer (some ⟨w1.heap.size,0,none⟩):=hout 4 (Af (by kernel_rfl));have CC:=SOF.out w hG.1;obtain ⟨C0,C1,C2,D0,D1⟩:=CC;refine Does.val (.agg #[.bool s1,.slice A1 n1 c1]) (w':=w) ?_ ⟨KT.refl _ _ _,rfl,G2.next hG (Below.refl _ _) (by decide) (by decide) HM1.out HM2.out⟩;go_simp
     · intro listed σ w a hin hout hl hc hp hG hF;refine Ac.none rfl ?_;have e2:a.tmps.getD 2 undef=.pointer (some ⟨w0.heap.size+1,0,none⟩):=hout 2 (Af (by kernel_rfl));have e17:=hin 0 17 rfl (hp ⟨0,.data⟩ (by simp) rfl);have z0:=hF 0 (hp ⟨0,.data⟩ (by simp) rfl);rw[z0]at e17;have hf:=HZ3.out.kt hG.1;obtain ⟨h0,⟨Ax,nx,cx,sx,Bx,mx,dx,xb,-⟩,-⟩:=id hG
       refine Does.store_box (T:=33) (cells:=#[.slice A3 n3 c3,.bool s3,.slice B3 m3 d3]) rfl e2 e17 xb (by kernel_rfl) rfl (by simp[Value.oneCell']) (fun w2 x9 o9=>?_);have q9:=G2.st1 (τ:=upd σ 2 undef) hG (by omega) (by decide) x9 o9 hf HM1.out HM2.out;exact ⟨q9.1,trivial,q9.2⟩
     · intro listed σ w a hin hout hl hc hp hG hF;refine Ac.none rfl ?_;have e3:a.tmps.getD 3 undef=.pointer (some ⟨w0.heap.size+1+1,0,none⟩):=hout 3 (Af (by kernel_rfl));have e18:=hin 1 18 rfl (hp ⟨1,.data⟩ (by simp) rfl);have z1:=hF 1 (hp ⟨1,.data⟩ (by simp) rfl);rw[z1]at e18;have hf:=HZ.out.kp hG.1.kp;obtain ⟨h0,-,⟨sx,Bx,mx,dx,xb,-⟩⟩:=id hG
       refine Does.store_box (T:=31) (cells:=#[.bool s1,.slice A1 n1 c1]) rfl e3 e18 (AY.box xb) (by kernel_rfl) rfl (by simp[Value.oneCell']) (fun w2 x9 o9=>?_);have q9:=G2.st2 (τ:=upd σ 3 undef) hG (by omega) (by decide) x9 o9 hf HM1.out HM2.out;exact ⟨q9.1,trivial,q9.2⟩
   · intro listed σ W9 hall hG hF;rw[show mid _ σ listed _=(Act.put (Act.put (Act.put (Act.put _ (some 17) (σ 0)) (some 18) (σ 1)) none (σ 2)) none (σ 3)) from (BP hall).trans rfl];generalize σ 0=tt0;generalize σ 1=tt1;simp only[Act.put,List.setIfInBounds_toArray,List.set_cons_zero,List.set_cons_succ];obtain ⟨TK,⟨A9,n9,c9,s9,B9,m9,d9,X9,Z9⟩,⟨t9,C9,p9,q9,Y9,V9⟩⟩:=hG;have Z9:=Z9 (hall 2 (by decide));have V9:=V9 (hall 3 (by decide));clear hF hall;clear σ
     have TB:=Ad (HT4.out.trans (KT.below TK HW2.out (by omega) (by omega)));clear SOF TK;go_wp2_with fail;exact GV rfl rfl rfl X9 Y9 rfl ⟨_,_,rfl,Z9,V9,TB.out⟩
end
section
open Go.RowKit
open Tm
theorem NN (ps:List (Int×Int)):val [] ps=0:=by have h:=QA [] ps;simpa[Ec] using h
def lead:List (Int×Int)->Int
 |[]=>0
 |p::_=>p.2
theorem Od {L:List (Int×Int)} {v c:Int} (h:L[0]?=some (v,c)):lead L=c:=by
 cases L with
 |nil=>simp at h
 |cons p ps=>simp at h;simp[lead,h]
def AM (L:List (Int×Int)) (K:Int) (e:Bool):Int:=
 if norm L=[] then (if Dx e K=true then 1 else -1) else if e=true/\K.fmod (Ai L)≠0 then -1 else 0
def Da (L:List (Int×Int)) (e:Bool):Bool:=e&&decide (lead (Cm (Ai L) (norm L))<0)
def IJ (L:List (Int×Int)) (K:Int) (e:Bool):List (Int×Int):=
 if AM L K e≠0 then [] else if Da L e=true then (Cm (Ai L) (norm L)).map fun p=>(p.1,-1*p.2) else Cm (Ai L) (norm L)
def J0 (L:List (Int×Int)) (K:Int) (e:Bool):Int:=
 if AM L K e≠0 then 0 else if Da L e=true then -(K.fdiv (Ai L)) else K.fdiv (Ai L)
def EQ (L:List (Int×Int)) (K:Int) (e:Bool):Bool:=if AM L K e≠0 then false else e
theorem Fp {L:List (Int×Int)} {K:Int} {e:Bool} (h:norm L=[]):AM L K e=if Dx e K=true then 1 else -1:=by unfold AM;rw[if_pos h]
theorem J1 {L:List (Int×Int)} {K:Int} (h:norm L≠[]) (hr:K.fmod (Ai L)≠0):AM L K true=-1:=by unfold AM;rw[if_neg h,if_pos ⟨rfl,hr⟩]
theorem FJ {L:List (Int×Int)} {K:Int} (h:norm L≠[]):AM L K false=0:=by unfold AM;rw[if_neg h,if_neg (fun hh=>by cases hh.1)]
theorem Gw {L:List (Int×Int)} {K:Int} (h:norm L≠[]) (hr:K.fmod (Ai L)=0):AM L K true=0:=by unfold AM;rw[if_neg h,if_neg (fun hh=>hh.2 hr)]
theorem Gx {L:List (Int×Int)} {K:Int} {e:Bool} (h:AM L K e≠0):IJ L K e=[]/\J0 L K e=0/\EQ L K e=false:=by unfold IJ J0 EQ;exact ⟨if_pos h,if_pos h,if_pos h⟩
theorem Fq {L:List (Int×Int)} {K:Int} {e:Bool} (h:AM L K e=0) (hf:Da L e=false):IJ L K e=Cm (Ai L) (norm L)/\J0 L K e=K.fdiv (Ai L)/\EQ L K e=e:=by unfold IJ J0 EQ;rw[if_neg (by simp[h]),if_neg (by simp[hf]),if_neg (by simp[h]),if_neg (by simp[hf]),if_neg (by simp[h])];exact ⟨rfl,rfl,rfl⟩
theorem KL {L:List (Int×Int)} {K:Int} {e:Bool} (h:AM L K e=0) (hf:Da L e=true):IJ L K e=(Cm (Ai L) (norm L)).map (fun p=>(p.1,-1*p.2))/\J0 L K e=-(K.fdiv (Ai L))/\EQ L K e=e:=by unfold IJ J0 EQ;rw[if_neg (by simp[h]),if_pos hf,if_neg (by simp[h]),if_pos hf,if_neg (by simp[h])];exact ⟨rfl,rfl,rfl⟩
theorem Fs (L:List (Int×Int)):(Cm (Ai L) (norm L)).length=(norm L).length:=by unfold Cm;rw[List.length_map]
theorem Ft (L:List (Int×Int)):norm (Cm (Ai L) (norm L))=Cm (Ai L) (norm L):=by
 by_cases h:Ai L=0
 · rw[CZ.1 h];rfl
 · exact IG L h
theorem GW (L:List (Int×Int)):norm ((Cm (Ai L) (norm L)).map fun p=>(p.1,-1*p.2))=(Cm (Ai L) (norm L)).map fun p=>(p.1,-1*p.2):=by rw[Dg (by decide),Ft]
theorem KN {L:List (Int×Int)} {K:Int} (h:norm L≠[]):Fo L K=K.fdiv (Ai L):=by unfold Fo;rw[if_neg (fun hh=>h (CZ.1 hh))]
theorem Nq {fn:Func} {p t:Tmp} (h:fn.results=#[.cell p 35,.tmp t]) (tmps:Array Value) (w:World) (g:Nat) (x y z u:Value)
  (hp:tmps.getD p undef=.pointer (some ⟨g,0,none⟩)) (hg:Aw 35 w g #[x,y,z,u]) :
  (results fn tmps).run Tryz.prog w=.ok (.tuple #[.agg #[x,y,z,u],tmps.getD t undef]) w:=by
 have hp':tmps[p]?.getD undef=.pointer (some ⟨g,0,none⟩):=by simpa using hp
 simp[results,h,hp',asAddr,run_loadVar_row w g 35 35 #[x,y,z,u] (0,0) _ hg Tryz.underlying35 rfl (by kernel_rfl)]
theorem CM {fn:Func} {R:Ending->World->Prop} {a:Act} {w:World} {g p t:Nat} {x y z u v:Value} (hres:fn.results=#[.cell p 35,.tmp t]) (hp:a.tmps.getD p undef=.pointer (some ⟨g,0,none⟩))
  (hv:a.tmps.getD t undef=v) (hb:Aw 35 w g #[x,y,z,u]) (hd:a.defers=[]) (hR:R (.returned (.tuple #[.agg #[x,y,z,u],v])) w):bodyPost Tryz.prog fn R .ret a w:=
 bodyPost_ret (by rw[Nq hres _ _ g x y z u hp hb,hv]) hd hR
def Pe (L:List (Int×Int)) (K:Int) (e:Bool) (k:Nat) (w:World) (en:Ending) (w':World):Prop:=
 ∃v,en=.returned (.tuple #[v,.int .i64 (AM L K e)])/\BO w' v (IJ L K e) (J0 L K e) (EQ L K e) k/\Below w.heap.size w w'
theorem BO.zero (w:World) (k:Nat):BO w (.agg #[.slice none 0 0,.bool false,.slice none 0 0,.bool false]) [] 0 false k:=
 ⟨none,0,0,false,none,0,0,rfl,none,0,0,false,none,0,0,rfl,Cv.nil _ _ _,Nat.le_refl _,by omega,Au.zero w k⟩
end
section
open Go.RowKit
open Tm
theorem Cn (v:Value) (L:List (Int×Int)) (K:Int) (e:Bool) (k:Nat) (w0:World) (hv:JW w0 v L K e k) (hl:L.length<=100000) (hk:k<=100000):Calls Tryz.prog 9 #[v] w0 (Pe L K e (k+L.length+L.length) w0):=by
 have hv0:=hv;obtain ⟨A,n,c,s,B,m,d,rfl,ht⟩:=hv;obtain ⟨z0,z1,z2,-⟩:=Bh 35 35 w0 #[.slice A n c,.bool s,.slice B m d,.bool e] #[.slice none 0 0,.bool false,.slice none 0 0,.bool false];have hsh:=Mc _ L K k _ (ht.below z2) (by omega) (by omega);have HTK:=Ad ht.opn.2.2.2;have x0:=z0.r0;have x1:=z0.r1;have x2:=z0.r2;go_enter Tryz.func9,Tryz.ntmps9;go_wp2_with fail;refine hsh.mono ?_;rintro en w1 ⟨v1,u1,rfl,r1,g1,b1⟩;obtain ⟨As,ns,cs,ss,Bs,ms,ds,rfl⟩:=r1.form
 obtain ⟨sg,Ag,ng,cg,rfl⟩:=g1.form;have y1:=Ae w1 (.cells #[.slice As ns cs,.bool ss,.slice Bs ms ds] 33);have y2:=Ae (w1.alloc (.cells #[.slice As ns cs,.bool ss,.slice Bs ms ds] 33)) (.cells #[.bool sg,.slice Ag ng cg] 31);have t0:=(Aw.new 33 w1 #[.slice As ns cs,.bool ss,.slice Bs ms ds]).next y2;have k0:=AY.new (w1.alloc (.cells #[.slice As ns cs,.bool ss,.slice Bs ms ds] 33)) #[.bool sg,.slice Ag ng cg];rw[size_alloc]at k0;have T2:=Ad (((z2.next b1).next y1).next y2)
 have XR:=Ad (((z0.next b1).next y1).next y2);have XO:=Ad (((z1.next b1).next y1).next y2);have XT:=Ad t0;have XG:=Ad k0;have R1:=Ad ((r1.below y1).below y2);have G1:=Ad ((g1.below y1).below y2);have hs1:=Ad (show w0.heap.size+1+1<=w1.heap.size by have:=b1.size;simp only[size_alloc]at this;omega);have HNS:=Ad (show (norm L).length=ns by rw[<-Fs];exact (R1.out.opn.1).len);have HV0:=Ad hv0;clear x0 x1 x2 z0 z1 z2 hsh ht r1 g1 b1 y1 y2 t0 k0 hv0
 generalize hW:((w1.alloc (.cells #[.slice As ns cs,.bool ss,.slice Bs ms ds] 33)).alloc (.cells #[.bool sg,.slice Ag ng cg] 31))=W at *;by_cases hns:ns=0
 · subst hns;have HNN:=Ad (List.length_eq_zero_iff.1 HNS.out);have hho:=EI _ L K e k 0 none 0 0 [] W (HV0.out.below T2.out) ⟨rfl,fun h=>absurd h (by omega),fun p hp=>by cases hp⟩ (by omega) (by omega) (by omega) (by omega);rw[show K+val (nums []) L=K by rw[show nums []=[] from rfl,NN];omega]at hho;have HKN:=Ad (Fp (K:=K) (e:=e) HNN.out);have x0:=XR.out.r0;have x1:=XR.out.r1;have x2:=XR.out.r2;have x3:=XR.out.r3;have y0:=XT.out.c0;subst hW;go_wp2_with fail;refine hho.mono ?_
   rintro en w2 ⟨rfl,b2⟩;have HB2:=Ad b2;have xo:=XO.out.next b2;have y0':=(XT.out.next b2).c0;clear x0 x1 x2 x3 y0 hho b2;cases hb:Dx e K with
   |true=>
    have hkn:AM L K e=1:=(by rw[HKN.out,if_pos hb]);clear hb;go_wp2_with (with_reducible refine Bt rfl _ _ rfl (w0.heap.size+1) _ _ _ _ _ _ _ _ rfl rfl _ _ _ _ xo ?_;intro w3 k3 ho3);refine CM rfl rfl rfl k3 rfl ?_;obtain ⟨e1,e2,e3⟩:=Gx (L:=L) (K:=K) (e:=e) (by rw[hkn];decide);exact ⟨_,by rw[hkn]<;>rfl,by rw[e1,e2,e3];exact BO.zero _ _,AH (T2.out.next HB2.out) (by omega) ho3⟩
   |false=>
    have hkn:AM L K e=-1:=(by rw[HKN.out,if_neg (by simp[hb])]);clear hb;go_wp2_with (with_reducible refine Bt rfl _ _ rfl (w0.heap.size+1) _ _ _ _ _ _ _ _ rfl rfl _ _ _ _ xo ?_;intro w3 k3 ho3);refine CM rfl rfl rfl k3 rfl ?_;obtain ⟨e1,e2,e3⟩:=Gx (L:=L) (K:=K) (e:=e) (by rw[hkn];decide);exact ⟨_,by rw[hkn]<;>rfl,by rw[e1,e2,e3];exact BO.zero _ _,AH (T2.out.next HB2.out) (by omega) ho3⟩
 · have HNN:=Ad (show norm L≠[] from fun h=>hns (by rw[<-HNS.out,h];rfl));have hnz:¬(ns:Int)=0:=(by omega);have HC0:=Ad (show Ai L≠0 from fun h=>HNN.out (CZ.1 h));have x0:=XR.out.r0;have x1:=XR.out.r1;have x2:=XR.out.r2;have x3:=XR.out.r3;have y0:=XT.out.c0;have y1:=XT.out.c1;have y2:=XT.out.c2;have g0:=AY.c0 XG.out;have g1:=AY.c1 XG.out;have xo:=XO.out;cases e with
   |false=>
    have hkn:=FJ (L:=L) (K:=K) HNN.out;subst hW;go_wp2_with (with_reducible refine Bt rfl _ _ rfl (w0.heap.size+1) _ _ _ _ _ _ _ _ rfl rfl _ _ _ _ xo ?_;intro w3 k3 ho3);refine CM rfl rfl rfl k3 rfl ?_;obtain ⟨e1,e2,e3⟩:=Fq (L:=L) (K:=K) (e:=false) hkn rfl;refine ⟨_,by rw[hkn]<;>rfl,?_,AH T2.out (by omega) ho3⟩
    rw[e1,e2,e3,<-KN HNN.out];exact ⟨_,_,_,_,_,_,_,rfl,(R1.out.mono (by omega)).onlyR XO.out ho3⟩
   |true=>
    have hdv:=Ma _ _ K (Ai L) k (k+L.length) W (HTK.out.below T2.out) G1.out.in_ HC0.out (by omega) (by omega);subst hW;go_wp2_with fail;refine hdv.mono ?_;rintro en w2 ⟨q2,v2,rfl,zq,zr,b2⟩;obtain ⟨s3,A3,n3,c3,rfl⟩:=zq.form;obtain ⟨s4,A4,n4,c4,rfl⟩:=zr.form;have y3:=Ae w2 (.cells #[.bool s3,.slice A3 n3 c3] 31);have y4:=Ae (w2.alloc (.cells #[.bool s3,.slice A3 n3 c3] 31)) (.cells #[.bool s4,.slice A4 n4 c4] 31);have hB2:=(b2.next y3).next y4
    have k4:=AY.new (w2.alloc (.cells #[.bool s3,.slice A3 n3 c3] 31)) #[.bool s4,.slice A4 n4 c4];have zr4:=(zr.below y3).below y4;have hsg:=Cs _ (K.fmod (Ai L)) _ _ zr4.in_ (by omega);unfold BA at hsg;have HB2:=Ad hB2;have c40:=AY.c0 k4;have c41:=AY.c1 k4;have hs2:=Ad (show w1.heap.size+1+1<=w2.heap.size by have:=b2.size;simp only[size_alloc]at this;omega);clear x0 x1 x2 x3 y0 y1 y2 g0 g1 xo hdv zq zr b2 y3 y4 hB2 k4 zr4;go_wp2_with fail;refine hsg.mono ?_
    rintro en w3 ⟨rfl,b3⟩;have T3:=Ad ((T2.out.next HB2.out).next b3);have XO3:=Ad ((XO.out.next HB2.out).next b3);have XT3:=Ad ((XT.out.next HB2.out).next b3);have R3:=Ad ((R1.out.below HB2.out).below b3);have HB3:=Ad b3;clear hsg b3 c40 c41;by_cases hr:K.fmod (Ai L)=0
    · have hkn:=Gw HNN.out hr;have hsz:(K.fmod (Ai L)).sign=0:=(by rw[hr];rfl);rw[hsz];clear hsz hr;obtain ⟨bb,o,p,rfl,hlt,hLp,c0,c1,c2,hz⟩:=(R3.out.opn.1.in_).at_ (i:=0) (by omega);simp only[Nat.zero_mul,Nat.add_zero]at c0 c1 c2;have HLD:=Ad (Od hLp);have hsg:=Cs p.num p.Z _ w3 hz (by omega);unfold BA at hsg;have y0:=XT3.out.c0;have y1:=XT3.out.c1;have y2:=XT3.out.c2;have hlp:L.length<=100000:=hl;clear hLp hz;go_wp2_with fail;refine hsg.mono ?_;rintro en w4 ⟨rfl,b4⟩
      have T4:=Ad (T3.out.next b4);have XO4:=Ad (XO3.out.next b4);have XT4:=Ad (XT3.out.next b4);have R4:=Ad (R3.out.below b4);clear hsg b4 y0 y1 y2 c0 c1 c2;have y0:=XT4.out.c0;have y1:=XT4.out.c1;have y2:=XT4.out.c2;by_cases hn:p.Z<0
      · have hf:Da L true=true:=(by unfold Da;rw[HLD.out];simp[hn]);have hsn:p.Z.sign<0:=Int.sign_neg_iff.2 hn;have HNL:=Ad (AR L);have hng:=Gt _ (Cm (Ai L) (norm L)) (Fo L K) (k+L.length) w4 R4.out.in_ (by rw[Fs];have:=HNL.out;omega) (by omega);have xt4:=XT4.out;go_wp2_with fail;refine hng.mono ?_;rintro en w5 ⟨v5,rfl,r5,b5⟩;obtain ⟨A5,n5,c5,s5,B5,m5,d5,rfl⟩:=r5.form;have xt5:=XT4.out.next b5;have XO5:=Ad (XO4.out.next b5);have R5:=Ad r5;have HB5:=Ad b5
        have hne:w0.heap.size+1≠w1.heap.size:=(by have:=hs1.out;omega);clear hng y0 y1 y2 xt4 r5 b5;go_wp2_with (first|(with_reducible refine AO rfl _ _ rfl w1.heap.size _ _ _ _ _ _ _ rfl rfl _ _ _ xt5 ?_;intro w6 k6 ho6;have y0:=k6.c0;have y1:=k6.c1;have y2:=k6.c2;have xo6:=Aw.other XO5.out ho6 hne;clear xt5)|(with_reducible refine Bt rfl _ _ rfl (w0.heap.size+1) _ _ _ _ _ _ _ _ rfl rfl _ _ _ _ xo6 ?_;intro w7 k7 ho7));refine CM rfl rfl rfl k7 rfl ?_
        obtain ⟨e1,e2,e3⟩:=KL (L:=L) (K:=K) (e:=true) hkn hf;refine ⟨_,by rw[hkn]<;>rfl,?_,AH (AH (T4.out.next HB5.out) (by have:=hs1.out;omega) ho6) (by omega) ho7⟩
        rw[e1,e2,e3,<-GW,<-KN HNN.out];exact ⟨_,_,_,_,_,_,_,rfl,((R5.out.mono (by rw[Fs];have:=HNL.out;omega)).only (XT4.out.next HB5.out) ho6).onlyR xo6 ho7⟩
      · have hf:Da L true=false:=(by unfold Da;rw[HLD.out];simp;omega);have hsn:¬p.Z.sign<0:=(by rw[Int.sign_neg_iff];exact hn);have xo4:=XO4.out;go_wp2_with (with_reducible refine Bt rfl _ _ rfl (w0.heap.size+1) _ _ _ _ _ _ _ _ rfl rfl _ _ _ _ xo4 ?_;intro w7 k7 ho7);refine CM rfl rfl rfl k7 rfl ?_;obtain ⟨e1,e2,e3⟩:=Fq (L:=L) (K:=K) (e:=true) hkn hf;refine ⟨_,by rw[hkn]<;>rfl,?_,AH T4.out (by omega) ho7⟩
        rw[e1,e2,e3,<-KN HNN.out];exact ⟨_,_,_,_,_,_,_,rfl,(R4.out.mono (by omega)).onlyR XO4.out ho7⟩
    · have hkn:=J1 HNN.out hr;have hsz:¬(K.fmod (Ai L)).sign=0:=(by rw[Int.sign_eq_zero_iff_zero];exact hr);have xo3:=XO3.out;go_wp2_with (with_reducible refine Bt rfl _ _ rfl (w0.heap.size+1) _ _ _ _ _ _ _ _ rfl rfl _ _ _ _ xo3 ?_;intro w7 k7 ho7);refine CM rfl rfl rfl k7 rfl ?_;obtain ⟨e1,e2,e3⟩:=Gx (L:=L) (K:=K) (e:=true) (by rw[hkn];decide);exact ⟨_,by rw[hkn]<;>rfl,by rw[e1,e2,e3];exact BO.zero _ _,AH T3.out (by omega) ho7⟩
end
section
open Go.RowKit
open Tm
def Ti (b:Bool) (w:World) (e:Ending) (w':World):Prop:=e=.returned (.bool b)/\Below w.heap.size w w'
end
end Go.Proofs.YtemfjdedjcjegaaGreatDoor
