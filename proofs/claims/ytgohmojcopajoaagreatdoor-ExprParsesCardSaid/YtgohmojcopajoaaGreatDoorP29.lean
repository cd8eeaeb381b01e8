/- Texts of one seat, put together: RelBox RCoef InsertP TVars TValue RelA LogicP ExprFm ExprFn. -/
import Derived.Test.YtgohmojcopajoaaGreatDoorP15
import Derived.Test.YtgohmojcopajoaaGreatDoorP26
import Derived.Test.YtgohmojcopajoaaGreatDoorP19
import Derived.Test.YtgohmojcopajoaaGreatDoorP18
import Derived.Test.YtgohmojcopajoaaGreatDoorP14
import Derived.Test.YtgohmojcopajoaaGreatDoorP28
set_option linter.unusedVariables false
set_option linter.unusedSimpArgs false
set_option maxRecDepth 100000
set_option maxHeartbeats 16000000
namespace Go.Proofs.YtgohmojcopajoaaGreatDoor.Nu
section
open Go.RowKit
section
variable {T:TypeId} {w w':World} {g k j:Nat} {x y z u v:Value} {L:List (Int×Int)} {K:Int} {e:Bool}
theorem Wh (hx:NL x) (hy:NL y) (hz:NL z) (hu:NL u):CQ (#[x,y,z,u]:Array Value).toList:=by intro t ht;simp at ht;rcases ht with rfl|rfl|rfl|rfl<;>assumption
theorem XW (A B:Option Addr) (n c m d:Nat) (s e:Bool):CQ (#[.slice A n c,.bool s,.slice B m d,.bool e]:Array Value).toList:=Wh (NL.slice _ _ _) (NL.bool _) (NL.slice _ _ _) (NL.bool _)
theorem Gj {w:World} {ops:Array Oper} {rest:List Oper} {o:Oper} {a:Act} {Q:Exit->Act->World->Prop} (hgd:o.guard=none) (x y:Operand) (ho:o.op=.store 58 x y)
  (g:Nat) (s e:Bool) (A B:Option Addr) (n c m d:Nat) (hx:a.eval x=.pointer (some ⟨g,0,none⟩)) (hy:a.eval y=.agg #[.slice A n c,.bool s,.slice B m d,.bool e]) (u v z t:Value) (hb:Ao 58 w g #[u,v,z,t])
  (h:∀w',Ao 58 w' g #[.slice A n c,.bool s,.slice B m d,.bool e]->An g w w'->wpList Tryz.prog ops Q rest (a.put o.dst undef) w'):wpList Tryz.prog ops Q (o::rest) a w:=
 Ab hgd 58 x y ho g _ hx hy _ hb (by kernel_rfl) rfl (by simp[Value.oneCell']) h
theorem Hb {fn:Func} {R:Ending->World->Prop} {a:Act} {w:World} {g p:Nat} {x y z u:Value} (hres:fn.results=#[.cell p 58]) (hp:a.tmps.getD p undef=.pointer (some ⟨g,0,none⟩))
  (hb:Ao 58 w g #[x,y,z,u]) (hd:a.defers=[]) (hR:R (.returned (.agg #[x,y,z,u])) w):bodyPost Tryz.prog fn R .ret a w:=
 bodyPost_ret (results_cell_row hres _ _ g _ #[x,y,z,u] _ _ hp hb Tryz.underlying58 rfl (by kernel_rfl)) hd hR
def VJ (w:World) (v:Value) (L:List (Int×Int)) (K:Int) (e:Bool) (k:Nat):Prop:=∃A n c s B m d,v=.agg #[.slice A n c,.bool s,.slice B m d,.bool e]/\Bq w (.agg #[.slice A n c,.bool s,.slice B m d]) L K k
def O7 (w:World) (v:Value) (L:List (Int×Int)) (K:Int) (e:Bool) (k:Nat):Prop:=∃A n c s B m d,v=.agg #[.slice A n c,.bool s,.slice B m d,.bool e]/\Bv w (.agg #[.slice A n c,.bool s,.slice B m d]) L K k
theorem VJ.below (h:VJ w v L K e k) (hb:Below w.heap.size w w'):VJ w' v L K e k:=by obtain ⟨A,n,c,s,B,m,d,rfl,h⟩:=h;exact ⟨A,n,c,s,B,m,d,rfl,h.below hb⟩
theorem O7.below (h:O7 w v L K e k) (hb:Below w.heap.size w w'):O7 w' v L K e k:=by obtain ⟨A,n,c,s,B,m,d,rfl,h⟩:=h;exact ⟨A,n,c,s,B,m,d,rfl,h.below hb⟩
theorem O7.in_ (h:O7 w v L K e k):VJ w v L K e k:=by obtain ⟨A,n,c,s,B,m,d,rfl,h⟩:=h;exact ⟨A,n,c,s,B,m,d,rfl,h.in_⟩
theorem Lp.offRel {A B C:Option Addr} {n m c d q:Nat} {s f:Bool} (h:Lp w A n L k) (hb:Ao 58 w g #[.slice B m c,.bool s,.slice C q d,.bool f]):0<n->Apart A g:=by
 obtain ⟨ps,h,-⟩:=h;intro hn ad had he;obtain ⟨b,o,e,hc⟩:=h.2.1 hn;have hl:0<ps.length:=by rw[h.1];exact hn
 obtain ⟨g0,-,-⟩:=flat_get ps 0 ps[0] (List.getElem?_eq_getElem hl);have h0:=hc 0 _ g0;rw[had]at e;injection e with e
 subst e;have he':b=g:=he;subst he';rw[cell_of_row w b _ _ _ _ hb]at h0;match o,h0 with
 |0,h0=>simp at h0
 |1,h0=>simp at h0
 |2,h0=>simp at h0
 |3,h0=>simp at h0
 |o+4,h0=>simp at h0
theorem Bv.onlyR {B C:Option Addr} {m c d q:Nat} {s f:Bool} (h:Bv w v L K k) (hb:Ao 58 w g #[.slice B m c,.bool s,.slice C q d,.bool f]) (ho:An g w w'):Bv w' v L K k:=by have hk:Kp w w':=hb.kp (XW _ _ _ _ _ _ _ _) ho;obtain ⟨A,n,c,s,B,m,d,e,h1,h2,h3,h4⟩:=h;exact ⟨A,n,c,s,B,m,d,e,h1.keep ho hk (h1.in_.offRel hb),h2,h3,h4.kp hk⟩
end
def Sl (L:List (Int×Int)) (K:Int) (e:Bool) (k:Nat) (w:World) (en:Ending) (w':World):Prop:=∃v,en=.returned v/\O7 w' v L K e k/\Below w.heap.size w w'
end
section
open Go.RowKit
open Tm
def WG (w0 W1:World) (L:List (Int×Int)) (x:Int) (k q:Nat) (wr:World):Prop:=
 ∃s A n c,Dk wr (w0.heap.size+1+1) #[.bool s,.slice A n c]/\Bt wr (.agg #[.bool s,.slice A n c]) (Bo (L.take q) x) (k+q)/\Below (w0.heap.size+1+1) W1 wr
end
section
open Go.RowKit
open Tm
def ints (xs:List Int):List Value:=xs.map fun x=>Value.int .i64 x
def XX (w:World) (A:Option Addr) (n:Nat) (xs:List Int):Prop:=xs.length=n/\(0<n->∃b o,A=some ⟨b,o,none⟩/\∀j u,(ints xs)[j]?=some u->w.cell? ⟨b,o+j,none⟩=some u)
def Sm (v:Int):Bool->List Int->List Int
 |dn,[]=>if dn then [] else [v]
 |dn,u::us=>(if !dn&&decide (v<=u) then [v] else [])++((if u≠v then [u] else [])++Sm v (dn || decide (v<=u)) us)
def Xx (xs:List Int) (w:World) (e:Ending) (w':World):Prop:=∃A c,e=.returned (.slice A xs.length c)/\XX w' A xs.length xs/\xs.length<=c/\c<=9223372036854775807/\Below w.heap.size w w'
def Xf (w0:World) (v:Int) (xs:List Int) (q:Nat) (dn:Bool) (sv:Value) (wr:World):Prop:=
 ∃os:List Int,Am 3 1 wr w0.heap.size sv os.length (ints os)/\os++Sm v dn (xs.drop q)=Sm v false xs/\Below w0.heap.size w0 wr/\os.length<=2*q
end
section
open Go.RowKit
open Tm
def Wi (W1:World) (L:List (Int×Int)) (q:Nat) (sv:Value) (wr:World):Prop:=Am 3 1 wr W1.heap.size sv ((L.take q).map Prod.fst).length (ints ((L.take q).map Prod.fst))/\Below W1.heap.size W1 wr
end
section
open Go.RowKit
open Tm
theorem val_take_succ (vs:List Int) (L:List (Int×Int)) (q:Nat) (u c:Int) (h:L[q]?=some (u,c)):val vs (L.take (q+1))=val vs (L.take q)+(if 0<=u then c*vs.getD u.toNat 0 else 0):=by rw[List.take_add_one,h,val_append];simp[val]
def Xg (g:Nat) (W1:World) (L:List (Int×Int)) (K:Int) (vs:List Int) (k q:Nat) (wr:World):Prop:=
 ∃s A n c,Dk wr g #[.bool s,.slice A n c]/\Bt wr (.agg #[.bool s,.slice A n c]) (K+val vs (L.take q)) (k+q)/\Below g W1 wr
end
section
open Go.RowKit
open Tm
theorem O8 (v:Value) (L:List (Int×Int)) (K:Int) (k:Nat) (w0:World) (hv:Bq w0 v L K k) (hl:L.length<=1099511) (hk:k<=1099511627):Calls Tryz.prog 147 #[v] w0 (Sl (norm L) K false (k+L.length) w0):=by
 have hv0:=hv;obtain ⟨A,n,c,s,B,m,d,rfl,-⟩:=hv;obtain ⟨z0,z1,z2,-⟩:=Aw 56 58 w0 #[.slice A n c,.bool s,.slice B m d] #[.slice none 0 0,.bool false,.slice none 0 0,.bool false];have hpl:=Ey _ L K k _ (hv0.below z2) hl hk;have x0:=z0.c0;have x1:=z0.c1;have x2:=z0.c2;go_enter Tryz.func147,Tryz.ntmps147;go_wp2_with fail;refine hpl.mono ?_;rintro e w1 ⟨v1,rfl,r1,b1⟩;obtain ⟨A1,n1,c1,s1,B1,m1,d1,rfl⟩:=r1.form;have k1:=z1.next b1
 go_wp2_with (with_reducible refine Gj rfl _ _ rfl (w0.heap.size+1) _ _ _ _ _ _ _ _ rfl rfl _ _ _ _ k1 ?_;intro w3 k3 ho3);refine Hb rfl rfl k3 rfl ?_;exact ⟨_,rfl,⟨_,_,_,_,_,_,_,rfl,r1.onlyR k1 ho3⟩,CG (z2.next b1) (by omega) ho3⟩
theorem Qr (v:Value) (L:List (Int×Int)) (K:Int) (k:Nat) (w0:World) (hv:Bq w0 v L K k) (hl:L.length<=1099511) (hk:k<=1099511627):Calls Tryz.prog 144 #[v] w0 (Sl (norm L) K true (k+L.length) w0):=by
 have hv0:=hv;obtain ⟨A,n,c,s,B,m,d,rfl,-⟩:=hv;obtain ⟨z0,z1,z2,-⟩:=Aw 56 58 w0 #[.slice A n c,.bool s,.slice B m d] #[.slice none 0 0,.bool false,.slice none 0 0,.bool false];have hpl:=Ey _ L K k _ (hv0.below z2) hl hk;have x0:=z0.c0;have x1:=z0.c1;have x2:=z0.c2;go_enter Tryz.func144,Tryz.ntmps144;go_wp2_with fail;refine hpl.mono ?_;rintro e w1 ⟨v1,rfl,r1,b1⟩;obtain ⟨A1,n1,c1,s1,B1,m1,d1,rfl⟩:=r1.form;have k1:=z1.next b1
 go_wp2_with (with_reducible refine Gj rfl _ _ rfl (w0.heap.size+1) _ _ _ _ _ _ _ _ rfl rfl _ _ _ _ k1 ?_;intro w3 k3 ho3);refine Hb rfl rfl k3 rfl ?_;exact ⟨_,rfl,⟨_,_,_,_,_,_,_,rfl,r1.onlyR k1 ho3⟩,CG (z2.next b1) (by omega) ho3⟩
def Xy (e:Bool):Int:=if e then 1 else 0
def Xh (e:Bool) (Z:Int):Bool:=if e then decide (Z=0) else decide (0<=Z)
end
section
open Go.RowKit Go.Maps
open Tm
theorem JD (v:Value) (L:List (Int×Int)) (K:Int) (fl:Bool) (k:Nat) (w0:World) (hv:VJ w0 v L K fl k) (hle:L.length<=1099511) (hk:k<=1099511627) :
   Calls Tryz.prog 168 #[v] w0 (Sl (norm L) K fl (k+L.length) w0):=by
 obtain ⟨A,n,c,s,B,m,d,rfl,ht⟩:=hv;obtain ⟨z0,z1,z2,-⟩:=Aw 58 58 w0 #[.slice A n c,.bool s,.slice B m d,.bool fl] #[.slice none 0 0,.bool false,.slice none 0 0,.bool false];go_enter Tryz.func168,Tryz.ntmps168;go_upto_region 1 with fail;generalize hW:((w0.alloc (.cells #[.slice A n c,.bool s,.slice B m d,.bool fl] 58)).alloc (.cells #[.slice none 0 0,.bool false,.slice none 0 0,.bool false] 58))=W0 at *;clear hW;have HX:=Aa z0;have HR8:=Aa z1;have HT8:=Aa z2
 have HV:=Aa (ht.below z2);have SOF:=Aa (show ∀W,Below W0.heap.size W0 W->(W.cell? ⟨w0.heap.size,0,none⟩=some (.slice A n c)/\W.cell? ⟨w0.heap.size,1,none⟩=some (.bool s)/\W.cell? ⟨w0.heap.size,2,none⟩=some (.slice B m d)/\W.cell? ⟨w0.heap.size,3,none⟩=some (.bool fl)) from fun W h=>⟨(HX.out.next h).cell 0 _ rfl,(HX.out.next h).cell 1 _ rfl,(HX.out.next h).cell 2 _ rfl,(HX.out.next h).cell 3 _ rfl⟩);clear z0 z1 z2 ht
 refine Cx (by kernel_rfl) (by kernel_rfl) (by kernel_rfl) (by kernel_rfl) (fun w w'=>Below w.heap.size w w') (fun j v w=>match j with|0=>v=.pointer (some ⟨w0.heap.size,0,none⟩)|1=>v=.agg #[.slice A n c,.bool s,.slice B m d]|2=>Bv w v (norm L) K (k+L.length)|3=>v=.pointer (some ⟨w0.heap.size,3,none⟩)|4=>v=.bool fl|5=>O7 w v (norm L) K fl (k+L.length)|_=>True) (fun _ _ w=>Below W0.heap.size W0 w) ?_ (fun _=>Ai W0 1) ?_ ?_
 · intro j v w w' hT h;match j,h with
   |0,h=>exact h
   |1,h=>exact h
   |2,h=>exact h.below hT
   |3,h=>exact h
   |4,h=>exact h
   |5,h=>exact h.below hT
   |j+6,h=>trivial
 · refine ⟨?_,?_,?_,?_,?_,?_,trivial⟩
   · intro listed σ w a hin hout hl hla hs hc hp hG hF;refine Ac.none rfl ?_;have e1:a.tmps.getD 1 undef=.pointer (some ⟨w0.heap.size,0,none⟩):=hout 1 (Af (by kernel_rfl));refine Does.val (.pointer (some ⟨w0.heap.size,0,none⟩)) (w':=w) ?_ ⟨Below.refl _ _,rfl,hG⟩;simp only[Array.getD_eq_getD_getElem?]at e1;go_simp
   · intro listed σ w a hin hout hl hla hs hc hp hG hF;refine Ac.none rfl ?_;have e3:a.tmps.getD 3 undef=.pointer (some ⟨w0.heap.size,0,none⟩):=(hin 0 3 rfl (hp ⟨0,.data⟩ (by simp) rfl)).trans (hF 0 (hp ⟨0,.data⟩ (by simp) rfl));have CC:=SOF.out w hG;obtain ⟨C0,C1,C2,C3⟩:=CC;refine Does.val (.agg #[.slice A n c,.bool s,.slice B m d]) (w':=w) ?_ ⟨Below.refl _ _,rfl,hG⟩;go_simp
   · intro listed σ w a hin hout hl hla hs hc hp hG hF;refine Ac.none rfl ?_;have e4:a.tmps.getD 4 undef=.agg #[.slice A n c,.bool s,.slice B m d]:=(hin 1 4 rfl (hp ⟨1,.data⟩ (by simp) rfl)).trans (hF 1 (hp ⟨1,.data⟩ (by simp) rfl));refine Does.call ?_ (Ey _ L K k w (HV.out.below hG) hle hk) ?_
     · go_simp
     · rintro e w' ⟨v,rfl,z,hb⟩;exact ⟨_,rfl,hb,z,hG.next hb⟩
   · intro listed σ w a hin hout hl hla hs hc hp hG hF;refine Ac.none rfl ?_;have e1:a.tmps.getD 1 undef=.pointer (some ⟨w0.heap.size,0,none⟩):=hout 1 (Af (by kernel_rfl));refine Does.val (.pointer (some ⟨w0.heap.size,3,none⟩)) (w':=w) ?_ ⟨Below.refl _ _,rfl,hG⟩;simp only[Array.getD_eq_getD_getElem?]at e1;go_simp
   · intro listed σ w a hin hout hl hla hs hc hp hG hF;refine Ac.none rfl ?_;have e6:a.tmps.getD 6 undef=.pointer (some ⟨w0.heap.size,3,none⟩):=(hin 3 6 rfl (hp ⟨3,.data⟩ (by simp) rfl)).trans (hF 3 (hp ⟨3,.data⟩ (by simp) rfl));have CC:=SOF.out w hG;obtain ⟨C0,C1,C2,C3⟩:=CC;refine Does.val (.bool fl) (w':=w) ?_ ⟨Below.refl _ _,rfl,hG⟩;go_simp
   · intro listed σ w a hin hout hl hla hs hc hp hG hF;refine Ac.none rfl ?_;have e5:=hin 2 5 rfl (hp ⟨2,.data⟩ (by simp) rfl);have z2:=hF 2 (hp ⟨2,.data⟩ (by simp) rfl);have e7:a.tmps.getD 7 undef=.bool fl:=(hin 4 7 rfl (hp ⟨4,.data⟩ (by simp) rfl)).trans (hF 4 (hp ⟨4,.data⟩ (by simp) rfl));obtain ⟨A7,n7,c7,s7,B7,m7,d7,ev7⟩:=Bv.form z2;rw[ev7]at e5 z2
     refine Does.val (.agg #[.slice A7 n7 c7,.bool s7,.slice B7 m7 d7,.bool fl]) (w':=w) ?_ ⟨Below.refl _ _,⟨A7,n7,c7,s7,B7,m7,d7,rfl,z2⟩,hG⟩;simp only[Array.getD_eq_getD_getElem?]at e5 e7;go_simp
 · intro o ho;injection ho with ho;subst ho
   intro listed σ w a hall hin hout hG hF;refine Ac.none rfl ?_;have e2:a.tmps.getD 2 undef=.pointer (some ⟨w0.heap.size+1,0,none⟩):=hout 2 (Re (by kernel_rfl));have e8:=hin 5 8 rfl (by decide);have z5:=hF 5 (by decide);obtain ⟨A8,n8,c8,s8,B8,m8,d8,ev8,t8⟩:=z5;rw[ev8]at e8;refine Does.store_box (T:=58) (cells:=#[.slice A8 n8 c8,.bool s8,.slice B8 m8 d8,.bool fl]) rfl e2 e8 (HR8.out.next hG) (by kernel_rfl) rfl (by simp[Value.oneCell']) (fun w2 x9 o9=>?_)
   rw[show JS _ σ undef _=(Act.put (Act.put (Act.put (Act.put (Act.put (Act.put (Act.put _ (some 3) (σ 0)) (some 4) (σ 1)) (some 5) (σ 2)) (some 6) (σ 3)) (some 7) (σ 4)) (some 8) (σ 5)) none undef) from (DL hall).trans rfl];simp only[Act.put,List.setIfInBounds_toArray,List.set_cons_zero,List.set_cons_succ];have HZ8:=Aa (t8.onlyR (HR8.out.next hG) o9);have HO:=Aa (CG (HT8.out.next hG) (by omega) o9)
   generalize σ 0=tt0 at *;generalize σ 1=tt1 at *;generalize σ 2=tt2 at *;generalize σ 3=tt3 at *;generalize σ 4=tt4 at *;generalize σ 5=tt5 at *;clear hF hG hall hin hout SOF t8 o9 e2 e8 ev8;go_wp2_with fail;refine Hb rfl rfl x9 rfl ?_;exact ⟨_,rfl,⟨_,_,_,_,_,_,_,rfl,HZ8.out⟩,HO.out⟩
end
end Go.Proofs.YtgohmojcopajoaaGreatDoor.Nu
namespace Go.Proofs.YtgohmojcopajoaaGreatDoor
section
open Go.RowKit
open Lx Ex
theorem EB {fn:Func} {R:Ending->World->Prop} {a:Act} {w:World} {g p:Nat} {x1 x2 x3 x4 x5 x6:Value} (hres:fn.results=#[.cell p 61]) (hp:a.tmps.getD p undef=.pointer (some ⟨g,0,none⟩))
  (hb:Ao 61 w g #[x1,x2,x3,x4,x5,x6]) (hd:a.defers=[]) (hR:R (.returned (.agg #[x1,x2,x3,x4,x5,x6])) w):bodyPost Tryz.prog fn R .ret a w:=
 bodyPost_ret (results_cell_row hres _ _ g _ #[x1,x2,x3,x4,x5,x6] _ _ hp hb Tryz.underlying61 rfl (by kernel_rfl)) hd hR
theorem O9 {fn:Func} {p t:Tmp} (h:fn.results=#[.cell p 61,.tmp t]) (tmps:Array Value) (w:World) (g:Nat) (x1 x2 x3 x4 x5 x6:Value)
  (hq:tmps.getD p undef=.pointer (some ⟨g,0,none⟩)) (hg:Ao 61 w g #[x1,x2,x3,x4,x5,x6]):(results fn tmps).run Tryz.prog w=.ok (.tuple #[.agg #[x1,x2,x3,x4,x5,x6],tmps.getD t undef]) w:=by
 have hq':tmps[p]?.getD undef=.pointer (some ⟨g,0,none⟩):=by simpa using hq
 simp[results,h,hq',asAddr,run_loadVar_row w g 61 61 #[x1,x2,x3,x4,x5,x6] (0,0) _ hg Tryz.underlying61 rfl (by kernel_rfl)]
theorem BM {fn:Func} {R:Ending->World->Prop} {a:Act} {w:World} {g p t:Nat} {x1 x2 x3 x4 x5 x6 v:Value} (hres:fn.results=#[.cell p 61,.tmp t]) (hp:a.tmps.getD p undef=.pointer (some ⟨g,0,none⟩))
  (hv:a.tmps.getD t undef=v) (hb:Ao 61 w g #[x1,x2,x3,x4,x5,x6]) (hd:a.defers=[]) (hR:R (.returned (.tuple #[.agg #[x1,x2,x3,x4,x5,x6],v])) w):bodyPost Tryz.prog fn R .ret a w:=
 bodyPost_ret (by rw[O9 hres _ _ g x1 x2 x3 x4 x5 x6 hp hb,hv]) hd hR
def Wj (k:Int) (w:World) (e:Ending) (w':World):Prop:=∃(A:Option Addr) (n c:Nat) (s:Bool) (B:Option Addr) (m d:Nat) (f:Bool) (C:Option Addr) (p q:Nat),e=.returned (.agg #[.int .i64 k,.slice A n c,.bool s,.slice B m d,.bool f,.slice C p q])/\Below w.heap.size w w'
def VK (k:Int) (ok:Bool) (w:World) (e:Ending) (w':World):Prop:=∃(A:Option Addr) (n c:Nat) (s:Bool) (B:Option Addr) (m d:Nat) (f:Bool) (C:Option Addr) (p q:Nat),e=.returned (.tuple #[.agg #[.int .i64 k,.slice A n c,.bool s,.slice B m d,.bool f,.slice C p q],.bool ok])/\Below w.heap.size w w'
theorem IG (v:Value) (L:List (Int×Int)) (K:Int) (fl:Bool) (k:Nat) (w0:World) (hv:Nu.VJ w0 v L K fl k) (hle:L.length<=1099511) (hk:k<=1099511627):Calls Tryz.prog 143 #[v] w0 (Wj 2 w0):=by
 have hv0:=hv;obtain ⟨A,n,c,s,B,m,d,rfl,ht⟩:=hv;obtain ⟨x1,xf,hb,-⟩:=Aw 58 61 w0 #[.slice A n c,.bool s,.slice B m d,.bool fl] #[.int .i64 0,.slice none 0 0,.bool false,.slice none 0 0,.bool false,.slice none 0 0];have HPL:=Aa (Nu.JD _ L K fl k _ (hv0.below hb) hle hk);have XF:=Aa xf;have HB:=Aa hb;have c0:=x1.cell 0 _ rfl;have c1:=x1.cell 1 _ rfl;have c2:=x1.cell 2 _ rfl;have c3:=x1.cell 3 _ rfl;clear hv0 ht x1 xf hb;go_enter Tryz.func143,Tryz.ntmps143;go_wp2_with fail
 refine HPL.out.mono ?_;rintro e w2 ⟨v2,rfl,⟨A2,n2,c2,s2,B2,m2,d2,rfl,-⟩,b2⟩;have xf2:=XF.out.next b2;have HB2:=Aa (HB.out.next b2);clear b2;go_wp2_with (with_reducible refine Ab rfl 61 _ _ rfl (w0.heap.size+1) #[.int .i64 2,.slice A2 n2 c2,.bool s2,.slice B2 m2 d2,.bool fl,.slice none 0 0] rfl rfl _ xf2 (by kernel_rfl) rfl (by simp[Value.oneCell']) ?_;intro w9 k9 o9);refine EB rfl rfl k9 rfl ?_
 exact ⟨_,_,_,_,_,_,_,_,_,_,_,rfl,HB2.out.trans (o9.below HB2.out.size (by omega))⟩
theorem Nj (b:Bool) (w0:World):Calls Tryz.prog 43 #[.bool b] w0 (Wj (if b then 0 else 1) w0):=by
 obtain ⟨xf,hb,-⟩:=Ax 61 w0 #[.int .i64 0,.slice none 0 0,.bool false,.slice none 0 0,.bool false,.slice none 0 0];have HB:=Aa hb;clear hb;cases b
 ·
   go_enter Tryz.func43,Tryz.ntmps43;go_wp2_with (with_reducible refine Ab rfl 61 _ _ rfl w0.heap.size #[.int .i64 1,.slice none 0 0,.bool false,.slice none 0 0,.bool false,.slice none 0 0] rfl rfl _ xf (by kernel_rfl) rfl (by simp[Value.oneCell']) ?_;intro w9 k9 o9);refine EB rfl rfl k9 rfl ?_;exact ⟨_,_,_,_,_,_,_,_,_,_,_,rfl,HB.out.trans (o9.below HB.out.size (Nat.le_refl _))⟩
 ·
   go_enter Tryz.func43,Tryz.ntmps43;go_wp2_with (with_reducible refine Ab rfl 61 _ _ rfl w0.heap.size #[.int .i64 0,.slice none 0 0,.bool false,.slice none 0 0,.bool false,.slice none 0 0] rfl rfl _ xf (by kernel_rfl) rfl (by simp[Value.oneCell']) ?_;intro w9 k9 o9);refine EB rfl rfl k9 rfl ?_;exact ⟨_,_,_,_,_,_,_,_,_,_,_,rfl,HB.out.trans (o9.below HB.out.size (Nat.le_refl _))⟩
theorem OA (v u:Value) (L M:List (Int×Int)) (K J:Int) (w0:World) (hv:Nu.Bq w0 v L K 9000) (hu:Nu.Bq w0 u M J 9000) (hl:L.length<=64) (hm:M.length<=64):Calls Tryz.prog 110 #[.int .i64 0,v,u] w0 (Wj 2 w0):=by
 have hv0:=hv;have hu0:=hu;obtain ⟨A,n,c,s,B,m,d,rfl,-⟩:=hv;obtain ⟨A2,n2,c2,s2,B2,m2,d2,rfl,-⟩:=hu;obtain ⟨x1,x2,xf,hb,hsz⟩:=Dq 56 56 61 w0 #[.slice A n c,.bool s,.slice B m d] #[.slice A2 n2 c2,.bool s2,.slice B2 m2 d2] #[.int .i64 0,.slice none 0 0,.bool false,.slice none 0 0,.bool false,.slice none 0 0];have HSB:=Aa (Nu.MR _ _ L M K J 9000 _ (hv0.below hb) (hu0.below hb) (by omega) (by omega) (by omega))
 have HLN:=Aa (show (Tm.norm (L++M.map fun p=>(p.1,-1*p.2))).length<=128 from by have:=Nu.Bm (L++M.map fun p=>(p.1,-1*p.2));rw[List.length_append,List.length_map]at this;omega)
 have HLE:=Aa (show L.length<=64/\M.length<=64 from by omega);have XF:=Aa xf;have HB:=Aa hb;have c0:=x1.cell 0 _ rfl;have c1:=x1.cell 1 _ rfl;have c2:=x1.cell 2 _ rfl;have d0:=x2.cell 0 _ rfl;have d1:=x2.cell 1 _ rfl;have d2:=x2.cell 2 _ rfl;clear hv0 hu0 x1 x2 xf hb hl hm;go_enter Tryz.func110,Tryz.ntmps110;go_wp2_with fail;refine HSB.out.mono ?_;rintro e w2 ⟨v2,rfl,r2,b2⟩;have HRL:=Aa (Nu.Qr v2 _ _ _ w2 r2.in_ (by have:=HLN.out;omega) (by have:=HLE.out;omega))
 have XF2:=Aa (XF.out.next b2);have HB2:=Aa (HB.out.next b2);clear b2 r2 c0 c1 c2 d0 d1 d2;go_wp2_with fail;refine HRL.out.mono ?_;rintro e w3 ⟨v3,rfl,r3,b3⟩;have HOF:=Aa (IG v3 _ _ _ _ w3 r3.in_ (by have h1:=HLN.out;have h2:=Nu.Bm (Tm.norm (L++M.map fun p=>(p.1,-1*p.2)));omega) (by have h1:=HLN.out;have:=HLE.out;omega));have XF3:=Aa (XF2.out.next b3);have HB3:=Aa (HB2.out.next b3);clear b3 r3;go_wp2_with fail;refine HOF.out.mono ?_
 rintro e w4 ⟨A9,n9,c9,s9,B9,m9,d9,f9,C9,p9,q9,rfl,b4⟩;have xf4:=XF3.out.next b4;have HB4:=Aa (HB3.out.next b4);clear b4;go_wp2_with (with_reducible refine Ab rfl 61 _ _ rfl (w0.heap.size+1+1) #[.int .i64 2,.slice A9 n9 c9,.bool s9,.slice B9 m9 d9,.bool f9,.slice C9 p9 q9] rfl rfl _ xf4 (by kernel_rfl) rfl (by simp[Value.oneCell']) ?_;intro w9 k9 o9);refine EB rfl rfl k9 rfl ?_;exact ⟨_,_,_,_,_,_,_,_,_,_,_,rfl,HB4.out.trans (o9.below HB4.out.size (by omega))⟩
theorem OB (v u:Value) (L M:List (Int×Int)) (K J:Int) (w0:World) (hv:Nu.Bq w0 v L K 9000) (hu:Nu.Bq w0 u M J 9000) (hl:L.length<=64) (hm:M.length<=64):Calls Tryz.prog 110 #[.int .i64 3,v,u] w0 (Wj 2 w0):=by
 have hv0:=hv;have hu0:=hu;obtain ⟨A,n,c,s,B,m,d,rfl,-⟩:=hv;obtain ⟨A2,n2,c2,s2,B2,m2,d2,rfl,-⟩:=hu;obtain ⟨x1,x2,xf,hb,hsz⟩:=Dq 56 56 61 w0 #[.slice A n c,.bool s,.slice B m d] #[.slice A2 n2 c2,.bool s2,.slice B2 m2 d2] #[.int .i64 0,.slice none 0 0,.bool false,.slice none 0 0,.bool false,.slice none 0 0];have HSB:=Aa (Nu.MR _ _ M L J K 9000 _ (hu0.below hb) (hv0.below hb) (by omega) (by omega) (by omega))
 have HLN:=Aa (show (Tm.norm (M++L.map fun p=>(p.1,-1*p.2))).length<=128 from by have:=Nu.Bm (M++L.map fun p=>(p.1,-1*p.2));rw[List.length_append,List.length_map]at this;omega)
 have HLE:=Aa (show M.length<=64/\L.length<=64 from by omega);have XF:=Aa xf;have HB:=Aa hb;have c0:=x1.cell 0 _ rfl;have c1:=x1.cell 1 _ rfl;have c2:=x1.cell 2 _ rfl;have d0:=x2.cell 0 _ rfl;have d1:=x2.cell 1 _ rfl;have d2:=x2.cell 2 _ rfl;clear hv0 hu0 x1 x2 xf hb hl hm;go_enter Tryz.func110,Tryz.ntmps110;go_wp2_with fail;refine HSB.out.mono ?_;rintro e w2 ⟨v2,rfl,r2,b2⟩;have HRL:=Aa (Nu.O8 v2 _ _ _ w2 r2.in_ (by have:=HLN.out;omega) (by have:=HLE.out;omega))
 have XF2:=Aa (XF.out.next b2);have HB2:=Aa (HB.out.next b2);clear b2 r2 c0 c1 c2 d0 d1 d2;go_wp2_with fail;refine HRL.out.mono ?_;rintro e w3 ⟨v3,rfl,r3,b3⟩;have HOF:=Aa (IG v3 _ _ _ _ w3 r3.in_ (by have h1:=HLN.out;have h2:=Nu.Bm (Tm.norm (M++L.map fun p=>(p.1,-1*p.2)));omega) (by have h1:=HLN.out;have:=HLE.out;omega));have XF3:=Aa (XF2.out.next b3);have HB3:=Aa (HB2.out.next b3);clear b3 r3;go_wp2_with fail;refine HOF.out.mono ?_
 rintro e w4 ⟨A9,n9,c9,s9,B9,m9,d9,f9,C9,p9,q9,rfl,b4⟩;have xf4:=XF3.out.next b4;have HB4:=Aa (HB3.out.next b4);clear b4;go_wp2_with (with_reducible refine Ab rfl 61 _ _ rfl (w0.heap.size+1+1) #[.int .i64 2,.slice A9 n9 c9,.bool s9,.slice B9 m9 d9,.bool f9,.slice C9 p9 q9] rfl rfl _ xf4 (by kernel_rfl) rfl (by simp[Value.oneCell']) ?_;intro w9 k9 o9);refine EB rfl rfl k9 rfl ?_;exact ⟨_,_,_,_,_,_,_,_,_,_,_,rfl,HB4.out.trans (o9.below HB4.out.size (by omega))⟩
end
section
open Go.RowKit
open Lx Ex
theorem Pp (vs:List ByteArray) (l:List Mn):∀(s r:List (Int×Int)×Int),H7 vs l s=some r->r.1.length<=s.1.length+l.length:=by
 induction l with
 |nil=>intro s r h;rw[H7]at h;injection h with h;subst h;exact Nat.le_add_right _ _
 |cons m l ih=>
  intro s r h;rw[H7]at h;split at h
  · have h1:=ih _ _ h;have h2:=Nu.Bm (s.1++U4 m vs);have h3:=JB m vs;rw[List.length_append]at h2;simp only[List.length_cons]at *;omega
  · cases h
theorem Pq {l:List Mn} (h:BF l=true):l.length<=64:=by unfold BF at h;simp at h;omega
def Pr (op:Int):Prop:=∀(v u:Value) (L M:List (Int×Int)) (K J:Int) (W:World),Nu.Bq W v L K 9000->Nu.Bq W u M J 9000->L.length<=64->M.length<=64->Calls Tryz.prog 110 #[.int .i64 op,v,u] W (Wj 2 W)
theorem Vv:Pr 0:=fun v u L M K J W h1 h2 h3 h4=>OA v u L M K J W h1 h2 h3 h4
theorem Vw:Pr 3:=fun v u L M K J W h1 h2 h3 h4=>OB v u L M K J W h1 h2 h3 h4
theorem OC {S:Nat->Prop} {t:GT} {kd:Int} {Al:Option Addr} {nl cl:Nat} {Ar:Option Addr} {nr cr:Nat} {op:Int} {p q:ByteArray} {A:Option Addr} {n c:Nat} (V:Option Addr) (mv dv:Nat) (vs:List ByteArray) (w0:World) (l r:List Mn) (hl:De S w0 Al nl l) (hr:De S w0 Ar nr r) (hzl:On l) (hzr:On r) (h9:nl<=64) (h8:nr<=64) (hS:Gy w0 V mv vs) (hm:mv<=9223372036854775807) (hsl:BF l=true) (hsr:BF r=true) (hop:Pr op) :
   Calls Tryz.prog 73 #[.agg #[.int .i64 kd,.slice Al nl cl,.slice Ar nr cr,.int .i64 op,.string p,.string q,.slice A n c],.slice V mv dv] w0 (VK 2 ((H7 vs l ([],0)).isSome&&(H7 vs r ([],0)).isSome) w0):=by
 obtain ⟨x1,xf,hb,-⟩:=Aw 33 61 w0 #[.int .i64 kd,.slice Al nl cl,.slice Ar nr cr,.int .i64 op,.string p,.string q,.slice A n c] #[.int .i64 0,.slice none 0 0,.bool false,.slice none 0 0,.bool false,.slice none 0 0];have HB:=Aa hb;have X1:=Aa x1;have XF:=Aa xf;have HTL:=Aa (fun W (hW:Below w0.heap.size w0 W)=>JC S Al nl cl l V mv dv vs W (hl.keep (As.of_below hW)) (by omega) hzl (hS.below hW) hm)
 have HTR:=Aa (fun W (hW:Below w0.heap.size w0 W)=>JC S Ar nr cr r V mv dv vs W (hr.keep (As.of_below hW)) (by omega) hzr (hS.below hW) hm);have HLL:=Aa (show ((H7 vs l ([],0)).getD ([],0)).1.length<=64 from by
   cases h:H7 vs l ([],0) with
   |none=>exact Nat.zero_le _
   |some q=>have h1:=Pp vs l _ _ h;have h2:=Pq hsl;simpa using Nat.le_trans h1 (by simpa using h2))
 have HLR:=Aa (show ((H7 vs r ([],0)).getD ([],0)).1.length<=64 from by
   cases h:H7 vs r ([],0) with
   |none=>exact Nat.zero_le _
   |some q=>have h1:=Pp vs r _ _ h;have h2:=Pq hsr;simpa using Nat.le_trans h1 (by simpa using h2))
 rw[hsl]at HTL;rw[hsr]at HTR;simp only[if_true]at HTL HTR;have HOP:=Aa hop;have g0:=x1.cell 0 _ rfl;have g1:=x1.cell 1 _ rfl;have g2:=x1.cell 2 _ rfl;have g3:=x1.cell 3 _ rfl;have g4:=x1.cell 4 _ rfl;have g5:=x1.cell 5 _ rfl;have g6:=x1.cell 6 _ rfl;generalize H7 vs l ([],0)=tl at *;generalize H7 vs r ([],0)=tr at *;clear hl hr hzl hzr hS hm hsl hsr hop x1 xf hb;go_enter Tryz.func73,Tryz.ntmps73;go_wp2_with fail;refine (HTL.out _ HB.out).mono ?_;rintro e w2 ⟨v2,rfl,r2,b2⟩
 obtain ⟨A2,n2,c2,s2,B2,m2,d2,rfl⟩:=r2.form;have HB2:=Aa (HB.out.next b2);have X2:=Aa (X1.out.next b2);have XF2:=Aa (XF.out.next b2);have R2:=Aa r2;have z6:Ao 56 (w2.alloc (.cells #[.slice none 0 0,.bool false,.slice none 0 0] 56)) w2.heap.size #[.slice none 0 0,.bool false,.slice none 0 0]:=Ao.new _ _ _;have hs2:=World.size_alloc w2 (.cells #[.slice none 0 0,.bool false,.slice none 0 0] 56);have hs0:=XF2.out.lt
 have HK2:=Aa (fun W (ho:An w2.heap.size (w2.alloc (.cells #[.slice none 0 0,.bool false,.slice none 0 0] 56)) W)=>(R2.out.below (Ae w2 _)).only z6 ho);clear b2 r2 g0 g1 g2 g3 g4 g5 g6
 go_wp2_with (with_reducible refine Ab rfl 56 _ _ rfl w2.heap.size #[.slice A2 n2 c2,.bool s2,.slice B2 m2 d2] rfl rfl _ z6 (by kernel_rfl) rfl (by simp[Value.oneCell']) ?_;intro w3 k3 o3;have HB3:=Aa (show Below w2.heap.size w2 w3 from (Ae w2 _).trans (o3.below (Ae w2 _).size (Nat.le_refl _)));have R3:=Aa (HK2.out w3 o3);have K3:=Aa k3;have X3:=Aa (X2.out.next HB3.out);have c2r:=X3.out.cell 2 _ rfl;clear o3 k3);refine (HTR.out _ (HB2.out.next HB3.out)).mono ?_
 rintro e w4 ⟨v4,rfl,r4,b4⟩;obtain ⟨A4,n4,c4,s4,B4,m4,d4,rfl⟩:=r4.form;have HB4:=Aa ((HB2.out.next HB3.out).next b4);have X4:=Aa (X3.out.next b4);have XF4:=Aa ((XF2.out.next HB3.out).next b4);have K4:=Aa (K3.out.next b4);have R4:=Aa (R3.out.below b4);have Q4:=Aa r4;have z8:Ao 56 (w4.alloc (.cells #[.slice none 0 0,.bool false,.slice none 0 0] 56)) w4.heap.size #[.slice none 0 0,.bool false,.slice none 0 0]:=Ao.new _ _ _
 have hs4:=World.size_alloc w4 (.cells #[.slice none 0 0,.bool false,.slice none 0 0] 56);have hs3:=XF4.out.lt;have HK4:=Aa (fun W (ho:An w4.heap.size (w4.alloc (.cells #[.slice none 0 0,.bool false,.slice none 0 0] 56)) W)=>(R4.out.below (Ae w4 _)).only z8 ho);have HQ4:=Aa (fun W (ho:An w4.heap.size (w4.alloc (.cells #[.slice none 0 0,.bool false,.slice none 0 0] 56)) W)=>(Q4.out.below (Ae w4 _)).only z8 ho);clear b4 r4 c2r;generalize hbl:tl.isSome=bl at *
 generalize hbr:tr.isSome=br at *;have HLT:=Aa (fun W (h1:Nu.Bv W (.agg #[.slice A2 n2 c2,.bool s2,.slice B2 m2 d2]) (tl.getD ([],0)).1 (tl.getD ([],0)).2 9000) (h2:Nu.Bv W (.agg #[.slice A4 n4 c4,.bool s4,.slice B4 m4 d4]) (tr.getD ([],0)).1 (tr.getD ([],0)).2 9000)=>HOP.out _ _ _ _ _ _ W h1.in_ h2.in_ HLL.out HLR.out);clear hbl hbr;cases bl
 · go_wp2_with (with_reducible refine Ab rfl 56 _ _ rfl w4.heap.size #[.slice A4 n4 c4,.bool s4,.slice B4 m4 d4] rfl rfl _ z8 (by kernel_rfl) rfl (by simp[Value.oneCell']) ?_;intro w5 k5 o5;have HB5:=Aa (show Below w4.heap.size w4 w5 from (Ae w4 _).trans (o5.below (Ae w4 _).size (Nat.le_refl _)));have R5:=Aa (HK4.out w5 o5);have Q5:=Aa (HQ4.out w5 o5);have X5:=Aa (X4.out.next HB5.out);have K5:=Aa (K4.out.next HB5.out);have XF5:=Aa (XF4.out.next HB5.out);have c3r:=X5.out.cell 3 _ rfl;have a0:=K5.out.cell 0 _ rfl;have a1:=K5.out.cell 1 _ rfl;have a2:=K5.out.cell 2 _ rfl;have b0:=k5.cell 0 _ rfl;have b1:=k5.cell 1 _ rfl;have b2:=k5.cell 2 _ rfl;clear o5)
   refine (HLT.out _ R5.out Q5.out).mono ?_;rintro e w6 ⟨fA9,fn9,fc9,fs9,fB9,fm9,fd9,ff9,fC9,fp9,fq9,rfl,b6⟩;have xf6:=XF5.out.next b6;have HB6:=Aa ((HB4.out.next HB5.out).next b6);clear b6 a0 a1 a2 b0 b1 b2 c3r;go_wp2_with (with_reducible refine Ab rfl 61 _ _ rfl (w0.heap.size+1) #[.int .i64 2,.slice fA9 fn9 fc9,.bool fs9,.slice fB9 fm9 fd9,.bool ff9,.slice fC9 fp9 fq9] rfl rfl _ xf6 (by kernel_rfl) rfl (by simp[Value.oneCell']) ?_;intro w9 k9 o9)
   refine BM rfl rfl rfl k9 rfl ?_;exact ⟨_,_,_,_,_,_,_,_,_,_,_,rfl,HB6.out.trans (o9.below HB6.out.size (by omega))⟩
 · go_wp2_with (with_reducible refine Ab rfl 56 _ _ rfl w4.heap.size #[.slice A4 n4 c4,.bool s4,.slice B4 m4 d4] rfl rfl _ z8 (by kernel_rfl) rfl (by simp[Value.oneCell']) ?_;intro w5 k5 o5;have HB5:=Aa (show Below w4.heap.size w4 w5 from (Ae w4 _).trans (o5.below (Ae w4 _).size (Nat.le_refl _)));have R5:=Aa (HK4.out w5 o5);have Q5:=Aa (HQ4.out w5 o5);have X5:=Aa (X4.out.next HB5.out);have K5:=Aa (K4.out.next HB5.out);have XF5:=Aa (XF4.out.next HB5.out);have c3r:=X5.out.cell 3 _ rfl;have a0:=K5.out.cell 0 _ rfl;have a1:=K5.out.cell 1 _ rfl;have a2:=K5.out.cell 2 _ rfl;have b0:=k5.cell 0 _ rfl;have b1:=k5.cell 1 _ rfl;have b2:=k5.cell 2 _ rfl;clear o5)
   refine (HLT.out _ R5.out Q5.out).mono ?_;rintro e w6 ⟨fA9,fn9,fc9,fs9,fB9,fm9,fd9,ff9,fC9,fp9,fq9,rfl,b6⟩;have xf6:=XF5.out.next b6;have HB6:=Aa ((HB4.out.next HB5.out).next b6);clear b6 a0 a1 a2 b0 b1 b2 c3r;go_wp2_with (with_reducible refine Ab rfl 61 _ _ rfl (w0.heap.size+1) #[.int .i64 2,.slice fA9 fn9 fc9,.bool fs9,.slice fB9 fm9 fd9,.bool ff9,.slice fC9 fp9 fq9] rfl rfl _ xf6 (by kernel_rfl) rfl (by simp[Value.oneCell']) ?_;intro w9 k9 o9)
   refine BM rfl rfl rfl k9 rfl ?_;exact ⟨_,_,_,_,_,_,_,_,_,_,_,rfl,HB6.out.trans (o9.below HB6.out.size (by omega))⟩
end
end Go.Proofs.YtgohmojcopajoaaGreatDoor
