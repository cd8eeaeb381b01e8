/- Texts of one seat, put together: RelA LogicP ExprFm ExprFn ExprFo. -/
import Derived.Test.YtgohmojcopajoaaGreatDoorH28
import Derived.Test.YtgohmojcopajoaaGreatDoorH19
import Derived.Test.YtgohmojcopajoaaGreatDoorH15
set_option linter.unusedVariables false
set_option linter.unusedSimpArgs false
set_option maxRecDepth 100000
set_option maxHeartbeats 16000000
namespace Go.Proofs.YtgohmojcopajoaaGreatDoor.Nu
section
open Go.RowKit
open Tm
theorem Hd (v:Value) (L:List (Int×Int)) (K:Int) (k:Nat) (w0:World) (hv:AW w0 v L K k) (hl:L.length<=1099511) (hk:k<=1099511627):Calls Tryz.prog 147 #[v] w0 (Um (norm L) K false (k+L.length) w0):=by
 have hv0:=hv;obtain ⟨A,n,c,s,B,m,d,rfl,-⟩:=hv;obtain ⟨z0,z1,z2,-⟩:=Ax 56 58 w0 #[.slice A n c,.bool s,.slice B m d] #[.slice none 0 0,.bool false,.slice none 0 0,.bool false];have hpl:=Ew _ L K k _ (hv0.below z2) hl hk;have x0:=z0.c0;have x1:=z0.c1;have x2:=z0.c2;go_enter Tryz.func147,Tryz.ntmps147;go_wp2_with fail;refine hpl.mono ?_;rintro e w1 ⟨v1,rfl,r1,b1⟩;obtain ⟨A1,n1,c1,s1,B1,m1,d1,rfl⟩:=r1.form;have k1:=z1.next b1
 go_wp2_with (with_reducible refine Gk rfl _ _ rfl (w0.heap.size+1) _ _ _ _ _ _ _ _ rfl rfl _ _ _ _ k1 ?_;intro w3 k3 ho3);refine Hc rfl rfl k3 rfl ?_;exact ⟨_,rfl,⟨_,_,_,_,_,_,_,rfl,r1.onlyR k1 ho3⟩,Bg (z2.next b1) (by omega) ho3⟩
theorem L0 (v:Value) (L:List (Int×Int)) (K:Int) (k:Nat) (w0:World) (hv:AW w0 v L K k) (hl:L.length<=1099511) (hk:k<=1099511627):Calls Tryz.prog 144 #[v] w0 (Um (norm L) K true (k+L.length) w0):=by
 have hv0:=hv;obtain ⟨A,n,c,s,B,m,d,rfl,-⟩:=hv;obtain ⟨z0,z1,z2,-⟩:=Ax 56 58 w0 #[.slice A n c,.bool s,.slice B m d] #[.slice none 0 0,.bool false,.slice none 0 0,.bool false];have hpl:=Ew _ L K k _ (hv0.below z2) hl hk;have x0:=z0.c0;have x1:=z0.c1;have x2:=z0.c2;go_enter Tryz.func144,Tryz.ntmps144;go_wp2_with fail;refine hpl.mono ?_;rintro e w1 ⟨v1,rfl,r1,b1⟩;obtain ⟨A1,n1,c1,s1,B1,m1,d1,rfl⟩:=r1.form;have k1:=z1.next b1
 go_wp2_with (with_reducible refine Gk rfl _ _ rfl (w0.heap.size+1) _ _ _ _ _ _ _ _ rfl rfl _ _ _ _ k1 ?_;intro w3 k3 ho3);refine Hc rfl rfl k3 rfl ?_;exact ⟨_,rfl,⟨_,_,_,_,_,_,_,rfl,r1.onlyR k1 ho3⟩,Bg (z2.next b1) (by omega) ho3⟩
def Zy (e:Bool):Int:=if e then 1 else 0
def E4 (e:Bool) (Z:Int):Bool:=if e then decide (Z=0) else decide (0<=Z)
end
section
open Go.RowKit Go.Maps
open Tm
theorem E5 (v:Value) (L:List (Int×Int)) (K:Int) (fl:Bool) (k:Nat) (w0:World) (hv:Sj w0 v L K fl k) (hle:L.length<=1099511) (hk:k<=1099511627) :
   Calls Tryz.prog 168 #[v] w0 (Um (norm L) K fl (k+L.length) w0):=by
 obtain ⟨A,n,c,s,B,m,d,rfl,ht⟩:=hv;obtain ⟨z0,z1,z2,-⟩:=Ax 58 58 w0 #[.slice A n c,.bool s,.slice B m d,.bool fl] #[.slice none 0 0,.bool false,.slice none 0 0,.bool false];go_enter Tryz.func168,Tryz.ntmps168;go_upto_region 1 with fail;generalize hW:((w0.alloc (.cells #[.slice A n c,.bool s,.slice B m d,.bool fl] 58)).alloc (.cells #[.slice none 0 0,.bool false,.slice none 0 0,.bool false] 58))=W0 at *;clear hW;have HX:=Aa z0;have HR8:=Aa z1;have HT8:=Aa z2
 have HV:=Aa (ht.below z2);have SOF:=Aa (show ∀W,Below W0.heap.size W0 W->(W.cell? ⟨w0.heap.size,0,none⟩=some (.slice A n c)/\W.cell? ⟨w0.heap.size,1,none⟩=some (.bool s)/\W.cell? ⟨w0.heap.size,2,none⟩=some (.slice B m d)/\W.cell? ⟨w0.heap.size,3,none⟩=some (.bool fl)) from fun W h=>⟨(HX.out.next h).cell 0 _ rfl,(HX.out.next h).cell 1 _ rfl,(HX.out.next h).cell 2 _ rfl,(HX.out.next h).cell 3 _ rfl⟩);clear z0 z1 z2 ht
 refine BI (by kernel_rfl) (by kernel_rfl) (by kernel_rfl) (by kernel_rfl) (fun w w'=>Below w.heap.size w w') (fun j v w=>match j with|0=>v=.pointer (some ⟨w0.heap.size,0,none⟩)|1=>v=.agg #[.slice A n c,.bool s,.slice B m d]|2=>AP w v (norm L) K (k+L.length)|3=>v=.pointer (some ⟨w0.heap.size,3,none⟩)|4=>v=.bool fl|5=>Ph w v (norm L) K fl (k+L.length)|_=>True) (fun _ _ w=>Below W0.heap.size W0 w) ?_ (fun _=>Ao W0 1) ?_ ?_
 · intro j v w w' hT h;match j,h with
   |0,h=>exact h
   |1,h=>exact h
   |2,h=>exact h.below hT
   |3,h=>exact h
   |4,h=>exact h
   |5,h=>exact h.below hT
   |j+6,h=>trivial
 · refine ⟨?_,?_,?_,?_,?_,?_,trivial⟩
   · intro listed σ w a hin hout hl hla hs hc hp hG hF;refine Ac.none rfl ?_;have e1:a.tmps.getD 1 undef=.pointer (some ⟨w0.heap.size,0,none⟩):=hout 1 (Ag (by kernel_rfl));refine Does.val (.pointer (some ⟨w0.heap.size,0,none⟩)) (w':=w) ?_ ⟨Below.refl _ _,rfl,hG⟩;simp only[Array.getD_eq_getD_getElem?]at e1;go_simp
   · intro listed σ w a hin hout hl hla hs hc hp hG hF;refine Ac.none rfl ?_;have e3:a.tmps.getD 3 undef=.pointer (some ⟨w0.heap.size,0,none⟩):=(hin 0 3 rfl (hp ⟨0,.data⟩ (by simp) rfl)).trans (hF 0 (hp ⟨0,.data⟩ (by simp) rfl));have CC:=SOF.out w hG;obtain ⟨C0,C1,C2,C3⟩:=CC;refine Does.val (.agg #[.slice A n c,.bool s,.slice B m d]) (w':=w) ?_ ⟨Below.refl _ _,rfl,hG⟩;go_simp
   · intro listed σ w a hin hout hl hla hs hc hp hG hF;refine Ac.none rfl ?_;have e4:a.tmps.getD 4 undef=.agg #[.slice A n c,.bool s,.slice B m d]:=(hin 1 4 rfl (hp ⟨1,.data⟩ (by simp) rfl)).trans (hF 1 (hp ⟨1,.data⟩ (by simp) rfl));refine Does.call ?_ (Ew _ L K k w (HV.out.below hG) hle hk) ?_
     · go_simp
     · rintro e w' ⟨v,rfl,z,hb⟩;exact ⟨_,rfl,hb,z,hG.next hb⟩
   · intro listed σ w a hin hout hl hla hs hc hp hG hF;refine Ac.none rfl ?_;have e1:a.tmps.getD 1 undef=.pointer (some ⟨w0.heap.size,0,none⟩):=hout 1 (Ag (by kernel_rfl));refine Does.val (.pointer (some ⟨w0.heap.size,3,none⟩)) (w':=w) ?_ ⟨Below.refl _ _,rfl,hG⟩;simp only[Array.getD_eq_getD_getElem?]at e1;go_simp
   · intro listed σ w a hin hout hl hla hs hc hp hG hF;refine Ac.none rfl ?_;have e6:a.tmps.getD 6 undef=.pointer (some ⟨w0.heap.size,3,none⟩):=(hin 3 6 rfl (hp ⟨3,.data⟩ (by simp) rfl)).trans (hF 3 (hp ⟨3,.data⟩ (by simp) rfl));have CC:=SOF.out w hG;obtain ⟨C0,C1,C2,C3⟩:=CC;refine Does.val (.bool fl) (w':=w) ?_ ⟨Below.refl _ _,rfl,hG⟩;go_simp
   · intro listed σ w a hin hout hl hla hs hc hp hG hF;refine Ac.none rfl ?_;have e5:=hin 2 5 rfl (hp ⟨2,.data⟩ (by simp) rfl);have z2:=hF 2 (hp ⟨2,.data⟩ (by simp) rfl);have e7:a.tmps.getD 7 undef=.bool fl:=(hin 4 7 rfl (hp ⟨4,.data⟩ (by simp) rfl)).trans (hF 4 (hp ⟨4,.data⟩ (by simp) rfl));obtain ⟨A7,n7,c7,s7,B7,m7,d7,ev7⟩:=AP.form z2;rw[ev7]at e5 z2
     refine Does.val (.agg #[.slice A7 n7 c7,.bool s7,.slice B7 m7 d7,.bool fl]) (w':=w) ?_ ⟨Below.refl _ _,⟨A7,n7,c7,s7,B7,m7,d7,rfl,z2⟩,hG⟩;simp only[Array.getD_eq_getD_getElem?]at e5 e7;go_simp
 · intro o ho;injection ho with ho;subst ho
   intro listed σ w a hall hin hout hG hF;refine Ac.none rfl ?_;have e2:a.tmps.getD 2 undef=.pointer (some ⟨w0.heap.size+1,0,none⟩):=hout 2 (MI (by kernel_rfl));have e8:=hin 5 8 rfl (by decide);have z5:=hF 5 (by decide);obtain ⟨A8,n8,c8,s8,B8,m8,d8,ev8,t8⟩:=z5;rw[ev8]at e8;refine Does.store_box (T:=58) (cells:=#[.slice A8 n8 c8,.bool s8,.slice B8 m8 d8,.bool fl]) rfl e2 e8 (HR8.out.next hG) (by kernel_rfl) rfl (by simp[Value.oneCell']) (fun w2 x9 o9=>?_)
   rw[show IW _ σ undef _=(Act.put (Act.put (Act.put (Act.put (Act.put (Act.put (Act.put _ (some 3) (σ 0)) (some 4) (σ 1)) (some 5) (σ 2)) (some 6) (σ 3)) (some 7) (σ 4)) (some 8) (σ 5)) none undef) from (CL hall).trans rfl];simp only[Act.put,List.setIfInBounds_toArray,List.set_cons_zero,List.set_cons_succ];have HZ8:=Aa (t8.onlyR (HR8.out.next hG) o9);have HO:=Aa (Bg (HT8.out.next hG) (by omega) o9)
   generalize σ 0=tt0 at *;generalize σ 1=tt1 at *;generalize σ 2=tt2 at *;generalize σ 3=tt3 at *;generalize σ 4=tt4 at *;generalize σ 5=tt5 at *;clear hF hG hall hin hout SOF t8 o9 e2 e8 ev8;go_wp2_with fail;refine Hc rfl rfl x9 rfl ?_;exact ⟨_,rfl,⟨_,_,_,_,_,_,_,rfl,HZ8.out⟩,HO.out⟩
end
end Go.Proofs.YtgohmojcopajoaaGreatDoor.Nu
namespace Go.Proofs.YtgohmojcopajoaaGreatDoor
section
open Go.RowKit
open Lx Ex
theorem Be {fn:Func} {R:Ending->World->Prop} {a:Act} {w:World} {g p:Nat} {x1 x2 x3 x4 x5 x6:Value} (hres:fn.results=#[.cell p 61]) (hp:a.tmps.getD p undef=.pointer (some ⟨g,0,none⟩))
  (hb:Am 61 w g #[x1,x2,x3,x4,x5,x6]) (hd:a.defers=[]) (hR:R (.returned (.agg #[x1,x2,x3,x4,x5,x6])) w):bodyPost Tryz.prog fn R .ret a w:=
 bodyPost_ret (results_cell_row hres _ _ g _ #[x1,x2,x3,x4,x5,x6] _ _ hp hb Tryz.underlying61 rfl (by kernel_rfl)) hd hR
theorem Pi {fn:Func} {p t:Tmp} (h:fn.results=#[.cell p 61,.tmp t]) (tmps:Array Value) (w:World) (g:Nat) (x1 x2 x3 x4 x5 x6:Value)
  (hq:tmps.getD p undef=.pointer (some ⟨g,0,none⟩)) (hg:Am 61 w g #[x1,x2,x3,x4,x5,x6]):(results fn tmps).run Tryz.prog w=.ok (.tuple #[.agg #[x1,x2,x3,x4,x5,x6],tmps.getD t undef]) w:=by
 have hq':tmps[p]?.getD undef=.pointer (some ⟨g,0,none⟩):=by simpa using hq
 simp[results,h,hq',asAddr,run_loadVar_row w g 61 61 #[x1,x2,x3,x4,x5,x6] (0,0) _ hg Tryz.underlying61 rfl (by kernel_rfl)]
theorem A0 {fn:Func} {R:Ending->World->Prop} {a:Act} {w:World} {g p t:Nat} {x1 x2 x3 x4 x5 x6 v:Value} (hres:fn.results=#[.cell p 61,.tmp t]) (hp:a.tmps.getD p undef=.pointer (some ⟨g,0,none⟩))
  (hv:a.tmps.getD t undef=v) (hb:Am 61 w g #[x1,x2,x3,x4,x5,x6]) (hd:a.defers=[]) (hR:R (.returned (.tuple #[.agg #[x1,x2,x3,x4,x5,x6],v])) w):bodyPost Tryz.prog fn R .ret a w:=
 bodyPost_ret (by rw[Pi hres _ _ g x1 x2 x3 x4 x5 x6 hp hb,hv]) hd hR
def XS (k:Int) (w:World) (e:Ending) (w':World):Prop:=∃(A:Option Addr) (n c:Nat) (s:Bool) (B:Option Addr) (m d:Nat) (f:Bool) (C:Option Addr) (p q:Nat),e=.returned (.agg #[.int .i64 k,.slice A n c,.bool s,.slice B m d,.bool f,.slice C p q])/\Below w.heap.size w w'
def Xn (k:Int) (ok:Bool) (w:World) (e:Ending) (w':World):Prop:=∃(A:Option Addr) (n c:Nat) (s:Bool) (B:Option Addr) (m d:Nat) (f:Bool) (C:Option Addr) (p q:Nat),e=.returned (.tuple #[.agg #[.int .i64 k,.slice A n c,.bool s,.slice B m d,.bool f,.slice C p q],.bool ok])/\Below w.heap.size w w'
theorem IB (v:Value) (L:List (Int×Int)) (K:Int) (fl:Bool) (k:Nat) (w0:World) (hv:Nu.Sj w0 v L K fl k) (hle:L.length<=1099511) (hk:k<=1099511627):Calls Tryz.prog 143 #[v] w0 (XS 2 w0):=by
 have hv0:=hv;obtain ⟨A,n,c,s,B,m,d,rfl,ht⟩:=hv;obtain ⟨x1,xf,hb,-⟩:=Ax 58 61 w0 #[.slice A n c,.bool s,.slice B m d,.bool fl] #[.int .i64 0,.slice none 0 0,.bool false,.slice none 0 0,.bool false,.slice none 0 0];have HPL:=Aa (Nu.E5 _ L K fl k _ (hv0.below hb) hle hk);have XF:=Aa xf;have HB:=Aa hb;have c0:=x1.cell 0 _ rfl;have c1:=x1.cell 1 _ rfl;have c2:=x1.cell 2 _ rfl;have c3:=x1.cell 3 _ rfl;clear hv0 ht x1 xf hb;go_enter Tryz.func143,Tryz.ntmps143;go_wp2_with fail
 refine HPL.out.mono ?_;rintro e w2 ⟨v2,rfl,⟨A2,n2,c2,s2,B2,m2,d2,rfl,-⟩,b2⟩;have xf2:=XF.out.next b2;have HB2:=Aa (HB.out.next b2);clear b2;go_wp2_with (with_reducible refine Ab rfl 61 _ _ rfl (w0.heap.size+1) #[.int .i64 2,.slice A2 n2 c2,.bool s2,.slice B2 m2 d2,.bool fl,.slice none 0 0] rfl rfl _ xf2 (by kernel_rfl) rfl (by simp[Value.oneCell']) ?_;intro w9 k9 o9);refine Be rfl rfl k9 rfl ?_
 exact ⟨_,_,_,_,_,_,_,_,_,_,_,rfl,HB2.out.trans (o9.below HB2.out.size (by omega))⟩
theorem NH (b:Bool) (w0:World):Calls Tryz.prog 43 #[.bool b] w0 (XS (if b then 0 else 1) w0):=by
 obtain ⟨xf,hb,-⟩:=Ap 61 w0 #[.int .i64 0,.slice none 0 0,.bool false,.slice none 0 0,.bool false,.slice none 0 0];have HB:=Aa hb;clear hb;cases b
 ·
   go_enter Tryz.func43,Tryz.ntmps43;go_wp2_with (with_reducible refine Ab rfl 61 _ _ rfl w0.heap.size #[.int .i64 1,.slice none 0 0,.bool false,.slice none 0 0,.bool false,.slice none 0 0] rfl rfl _ xf (by kernel_rfl) rfl (by simp[Value.oneCell']) ?_;intro w9 k9 o9);refine Be rfl rfl k9 rfl ?_;exact ⟨_,_,_,_,_,_,_,_,_,_,_,rfl,HB.out.trans (o9.below HB.out.size (Nat.le_refl _))⟩
 ·
   go_enter Tryz.func43,Tryz.ntmps43;go_wp2_with (with_reducible refine Ab rfl 61 _ _ rfl w0.heap.size #[.int .i64 0,.slice none 0 0,.bool false,.slice none 0 0,.bool false,.slice none 0 0] rfl rfl _ xf (by kernel_rfl) rfl (by simp[Value.oneCell']) ?_;intro w9 k9 o9);refine Be rfl rfl k9 rfl ?_;exact ⟨_,_,_,_,_,_,_,_,_,_,_,rfl,HB.out.trans (o9.below HB.out.size (Nat.le_refl _))⟩
theorem Pj (v u:Value) (L M:List (Int×Int)) (K J:Int) (w0:World) (hv:Nu.AW w0 v L K 9000) (hu:Nu.AW w0 u M J 9000) (hl:L.length<=64) (hm:M.length<=64):Calls Tryz.prog 110 #[.int .i64 0,v,u] w0 (XS 2 w0):=by
 have hv0:=hv;have hu0:=hu;obtain ⟨A,n,c,s,B,m,d,rfl,-⟩:=hv;obtain ⟨A2,n2,c2,s2,B2,m2,d2,rfl,-⟩:=hu;obtain ⟨x1,x2,xf,hb,hsz⟩:=Cm 56 56 61 w0 #[.slice A n c,.bool s,.slice B m d] #[.slice A2 n2 c2,.bool s2,.slice B2 m2 d2] #[.int .i64 0,.slice none 0 0,.bool false,.slice none 0 0,.bool false,.slice none 0 0];have HSB:=Aa (Nu.EY _ _ L M K J 9000 _ (hv0.below hb) (hu0.below hb) (by omega) (by omega) (by omega))
 have HLN:=Aa (show (Tm.norm (L++M.map fun p=>(p.1,-1*p.2))).length<=128 from by have:=Nu.Bb (L++M.map fun p=>(p.1,-1*p.2));rw[List.length_append,List.length_map]at this;omega)
 have HLE:=Aa (show L.length<=64/\M.length<=64 from by omega);have XF:=Aa xf;have HB:=Aa hb;have c0:=x1.cell 0 _ rfl;have c1:=x1.cell 1 _ rfl;have c2:=x1.cell 2 _ rfl;have d0:=x2.cell 0 _ rfl;have d1:=x2.cell 1 _ rfl;have d2:=x2.cell 2 _ rfl;clear hv0 hu0 x1 x2 xf hb hl hm;go_enter Tryz.func110,Tryz.ntmps110;go_wp2_with fail;refine HSB.out.mono ?_;rintro e w2 ⟨v2,rfl,r2,b2⟩;have HRL:=Aa (Nu.L0 v2 _ _ _ w2 r2.in_ (by have:=HLN.out;omega) (by have:=HLE.out;omega))
 have XF2:=Aa (XF.out.next b2);have HB2:=Aa (HB.out.next b2);clear b2 r2 c0 c1 c2 d0 d1 d2;go_wp2_with fail;refine HRL.out.mono ?_;rintro e w3 ⟨v3,rfl,r3,b3⟩;have HOF:=Aa (IB v3 _ _ _ _ w3 r3.in_ (by have h1:=HLN.out;have h2:=Nu.Bb (Tm.norm (L++M.map fun p=>(p.1,-1*p.2)));omega) (by have h1:=HLN.out;have:=HLE.out;omega));have XF3:=Aa (XF2.out.next b3);have HB3:=Aa (HB2.out.next b3);clear b3 r3;go_wp2_with fail;refine HOF.out.mono ?_
 rintro e w4 ⟨A9,n9,c9,s9,B9,m9,d9,f9,C9,p9,q9,rfl,b4⟩;have xf4:=XF3.out.next b4;have HB4:=Aa (HB3.out.next b4);clear b4;go_wp2_with (with_reducible refine Ab rfl 61 _ _ rfl (w0.heap.size+1+1) #[.int .i64 2,.slice A9 n9 c9,.bool s9,.slice B9 m9 d9,.bool f9,.slice C9 p9 q9] rfl rfl _ xf4 (by kernel_rfl) rfl (by simp[Value.oneCell']) ?_;intro w9 k9 o9);refine Be rfl rfl k9 rfl ?_;exact ⟨_,_,_,_,_,_,_,_,_,_,_,rfl,HB4.out.trans (o9.below HB4.out.size (by omega))⟩
theorem Pk (v u:Value) (L M:List (Int×Int)) (K J:Int) (w0:World) (hv:Nu.AW w0 v L K 9000) (hu:Nu.AW w0 u M J 9000) (hl:L.length<=64) (hm:M.length<=64):Calls Tryz.prog 110 #[.int .i64 3,v,u] w0 (XS 2 w0):=by
 have hv0:=hv;have hu0:=hu;obtain ⟨A,n,c,s,B,m,d,rfl,-⟩:=hv;obtain ⟨A2,n2,c2,s2,B2,m2,d2,rfl,-⟩:=hu;obtain ⟨x1,x2,xf,hb,hsz⟩:=Cm 56 56 61 w0 #[.slice A n c,.bool s,.slice B m d] #[.slice A2 n2 c2,.bool s2,.slice B2 m2 d2] #[.int .i64 0,.slice none 0 0,.bool false,.slice none 0 0,.bool false,.slice none 0 0];have HSB:=Aa (Nu.EY _ _ M L J K 9000 _ (hu0.below hb) (hv0.below hb) (by omega) (by omega) (by omega))
 have HLN:=Aa (show (Tm.norm (M++L.map fun p=>(p.1,-1*p.2))).length<=128 from by have:=Nu.Bb (M++L.map fun p=>(p.1,-1*p.2));rw[List.length_append,List.length_map]at this;omega)
 have HLE:=Aa (show M.length<=64/\L.length<=64 from by omega);have XF:=Aa xf;have HB:=Aa hb;have c0:=x1.cell 0 _ rfl;have c1:=x1.cell 1 _ rfl;have c2:=x1.cell 2 _ rfl;have d0:=x2.cell 0 _ rfl;have d1:=x2.cell 1 _ rfl;have d2:=x2.cell 2 _ rfl;clear hv0 hu0 x1 x2 xf hb hl hm;go_enter Tryz.func110,Tryz.ntmps110;go_wp2_with fail;refine HSB.out.mono ?_;rintro e w2 ⟨v2,rfl,r2,b2⟩;have HRL:=Aa (Nu.Hd v2 _ _ _ w2 r2.in_ (by have:=HLN.out;omega) (by have:=HLE.out;omega))
 have XF2:=Aa (XF.out.next b2);have HB2:=Aa (HB.out.next b2);clear b2 r2 c0 c1 c2 d0 d1 d2;go_wp2_with fail;refine HRL.out.mono ?_;rintro e w3 ⟨v3,rfl,r3,b3⟩;have HOF:=Aa (IB v3 _ _ _ _ w3 r3.in_ (by have h1:=HLN.out;have h2:=Nu.Bb (Tm.norm (M++L.map fun p=>(p.1,-1*p.2)));omega) (by have h1:=HLN.out;have:=HLE.out;omega));have XF3:=Aa (XF2.out.next b3);have HB3:=Aa (HB2.out.next b3);clear b3 r3;go_wp2_with fail;refine HOF.out.mono ?_
 rintro e w4 ⟨A9,n9,c9,s9,B9,m9,d9,f9,C9,p9,q9,rfl,b4⟩;have xf4:=XF3.out.next b4;have HB4:=Aa (HB3.out.next b4);clear b4;go_wp2_with (with_reducible refine Ab rfl 61 _ _ rfl (w0.heap.size+1+1) #[.int .i64 2,.slice A9 n9 c9,.bool s9,.slice B9 m9 d9,.bool f9,.slice C9 p9 q9] rfl rfl _ xf4 (by kernel_rfl) rfl (by simp[Value.oneCell']) ?_;intro w9 k9 o9);refine Be rfl rfl k9 rfl ?_;exact ⟨_,_,_,_,_,_,_,_,_,_,_,rfl,HB4.out.trans (o9.below HB4.out.size (by omega))⟩
end
section
open Go.RowKit
open Lx Ex
theorem Jb (vs:List ByteArray) (l:List Mn):∀(s r:List (Int×Int)×Int),Ef vs l s=some r->r.1.length<=s.1.length+l.length:=by
 induction l with
 |nil=>intro s r h;rw[Ef]at h;injection h with h;subst h;exact Nat.le_add_right _ _
 |cons m l ih=>
  intro s r h;rw[Ef]at h;split at h
  · have h1:=ih _ _ h;have h2:=Nu.Bb (s.1++UA m vs);have h3:=JS m vs;rw[List.length_append]at h2;simp only[List.length_cons]at *;omega
  · cases h
theorem GD {l:List Mn} (h:Bl l=true):l.length<=64:=by unfold Bl at h;simp at h;omega
def Qk (op:Int):Prop:=∀(v u:Value) (L M:List (Int×Int)) (K J:Int) (W:World),Nu.AW W v L K 9000->Nu.AW W u M J 9000->L.length<=64->M.length<=64->Calls Tryz.prog 110 #[.int .i64 op,v,u] W (XS 2 W)
theorem WV:Qk 0:=fun v u L M K J W h1 h2 h3 h4=>Pj v u L M K J W h1 h2 h3 h4
theorem WW:Qk 3:=fun v u L M K J W h1 h2 h3 h4=>Pk v u L M K J W h1 h2 h3 h4
theorem Pm {S:Nat->Prop} {t:GT} {kd:Int} {Al:Option Addr} {nl cl:Nat} {Ar:Option Addr} {nr cr:Nat} {op:Int} {p q:ByteArray} {A:Option Addr} {n c:Nat} (V:Option Addr) (mv dv:Nat) (vs:List ByteArray) (w0:World) (l r:List Mn) (hl:Du S w0 Al nl l) (hr:Du S w0 Ar nr r) (hzl:JQ l) (hzr:JQ r) (h9:nl<=64) (h8:nr<=64) (hS:EN w0 V mv vs) (hm:mv<=9223372036854775807) (hsl:Bl l=true) (hsr:Bl r=true) (hop:Qk op) :
   Calls Tryz.prog 73 #[.agg #[.int .i64 kd,.slice Al nl cl,.slice Ar nr cr,.int .i64 op,.string p,.string q,.slice A n c],.slice V mv dv] w0 (Xn 2 ((Ef vs l ([],0)).isSome&&(Ef vs r ([],0)).isSome) w0):=by
 obtain ⟨x1,xf,hb,-⟩:=Ax 33 61 w0 #[.int .i64 kd,.slice Al nl cl,.slice Ar nr cr,.int .i64 op,.string p,.string q,.slice A n c] #[.int .i64 0,.slice none 0 0,.bool false,.slice none 0 0,.bool false,.slice none 0 0];have HB:=Aa hb;have X1:=Aa x1;have XF:=Aa xf;have HTL:=Aa (fun W (hW:Below w0.heap.size w0 W)=>Gj S Al nl cl l V mv dv vs W (hl.keep (AJ.of_below hW)) (by omega) hzl (hS.below hW) hm)
 have HTR:=Aa (fun W (hW:Below w0.heap.size w0 W)=>Gj S Ar nr cr r V mv dv vs W (hr.keep (AJ.of_below hW)) (by omega) hzr (hS.below hW) hm);have HLL:=Aa (show ((Ef vs l ([],0)).getD ([],0)).1.length<=64 from by
   cases h:Ef vs l ([],0) with
   |none=>exact Nat.zero_le _
   |some q=>have h1:=Jb vs l _ _ h;have h2:=GD hsl;simpa using Nat.le_trans h1 (by simpa using h2))
 have HLR:=Aa (show ((Ef vs r ([],0)).getD ([],0)).1.length<=64 from by
   cases h:Ef vs r ([],0) with
   |none=>exact Nat.zero_le _
   |some q=>have h1:=Jb vs r _ _ h;have h2:=GD hsr;simpa using Nat.le_trans h1 (by simpa using h2))
 rw[hsl]at HTL;rw[hsr]at HTR;simp only[if_true]at HTL HTR;have HOP:=Aa hop;have g0:=x1.cell 0 _ rfl;have g1:=x1.cell 1 _ rfl;have g2:=x1.cell 2 _ rfl;have g3:=x1.cell 3 _ rfl;have g4:=x1.cell 4 _ rfl;have g5:=x1.cell 5 _ rfl;have g6:=x1.cell 6 _ rfl;generalize Ef vs l ([],0)=tl at *;generalize Ef vs r ([],0)=tr at *;clear hl hr hzl hzr hS hm hsl hsr hop x1 xf hb;go_enter Tryz.func73,Tryz.ntmps73;go_wp2_with fail;refine (HTL.out _ HB.out).mono ?_;rintro e w2 ⟨v2,rfl,r2,b2⟩
 obtain ⟨A2,n2,c2,s2,B2,m2,d2,rfl⟩:=r2.form;have HB2:=Aa (HB.out.next b2);have X2:=Aa (X1.out.next b2);have XF2:=Aa (XF.out.next b2);have R2:=Aa r2;have z6:Am 56 (w2.alloc (.cells #[.slice none 0 0,.bool false,.slice none 0 0] 56)) w2.heap.size #[.slice none 0 0,.bool false,.slice none 0 0]:=Am.new _ _ _;have hs2:=World.size_alloc w2 (.cells #[.slice none 0 0,.bool false,.slice none 0 0] 56);have hs0:=XF2.out.lt
 have HK2:=Aa (fun W (ho:Ai w2.heap.size (w2.alloc (.cells #[.slice none 0 0,.bool false,.slice none 0 0] 56)) W)=>(R2.out.below (Ae w2 _)).only z6 ho);clear b2 r2 g0 g1 g2 g3 g4 g5 g6
 go_wp2_with (with_reducible refine Ab rfl 56 _ _ rfl w2.heap.size #[.slice A2 n2 c2,.bool s2,.slice B2 m2 d2] rfl rfl _ z6 (by kernel_rfl) rfl (by simp[Value.oneCell']) ?_;intro w3 k3 o3;have HB3:=Aa (show Below w2.heap.size w2 w3 from (Ae w2 _).trans (o3.below (Ae w2 _).size (Nat.le_refl _)));have R3:=Aa (HK2.out w3 o3);have K3:=Aa k3;have X3:=Aa (X2.out.next HB3.out);have c2r:=X3.out.cell 2 _ rfl;clear o3 k3);refine (HTR.out _ (HB2.out.next HB3.out)).mono ?_
 rintro e w4 ⟨v4,rfl,r4,b4⟩;obtain ⟨A4,n4,c4,s4,B4,m4,d4,rfl⟩:=r4.form;have HB4:=Aa ((HB2.out.next HB3.out).next b4);have X4:=Aa (X3.out.next b4);have XF4:=Aa ((XF2.out.next HB3.out).next b4);have K4:=Aa (K3.out.next b4);have R4:=Aa (R3.out.below b4);have Q4:=Aa r4;have z8:Am 56 (w4.alloc (.cells #[.slice none 0 0,.bool false,.slice none 0 0] 56)) w4.heap.size #[.slice none 0 0,.bool false,.slice none 0 0]:=Am.new _ _ _
 have hs4:=World.size_alloc w4 (.cells #[.slice none 0 0,.bool false,.slice none 0 0] 56);have hs3:=XF4.out.lt;have HK4:=Aa (fun W (ho:Ai w4.heap.size (w4.alloc (.cells #[.slice none 0 0,.bool false,.slice none 0 0] 56)) W)=>(R4.out.below (Ae w4 _)).only z8 ho);have HQ4:=Aa (fun W (ho:Ai w4.heap.size (w4.alloc (.cells #[.slice none 0 0,.bool false,.slice none 0 0] 56)) W)=>(Q4.out.below (Ae w4 _)).only z8 ho);clear b4 r4 c2r;generalize hbl:tl.isSome=bl at *
 generalize hbr:tr.isSome=br at *;have HLT:=Aa (fun W (h1:Nu.AP W (.agg #[.slice A2 n2 c2,.bool s2,.slice B2 m2 d2]) (tl.getD ([],0)).1 (tl.getD ([],0)).2 9000) (h2:Nu.AP W (.agg #[.slice A4 n4 c4,.bool s4,.slice B4 m4 d4]) (tr.getD ([],0)).1 (tr.getD ([],0)).2 9000)=>HOP.out _ _ _ _ _ _ W h1.in_ h2.in_ HLL.out HLR.out);clear hbl hbr;cases bl
 · go_wp2_with (with_reducible refine Ab rfl 56 _ _ rfl w4.heap.size #[.slice A4 n4 c4,.bool s4,.slice B4 m4 d4] rfl rfl _ z8 (by kernel_rfl) rfl (by simp[Value.oneCell']) ?_;intro w5 k5 o5;have HB5:=Aa (show Below w4.heap.size w4 w5 from (Ae w4 _).trans (o5.below (Ae w4 _).size (Nat.le_refl _)));have R5:=Aa (HK4.out w5 o5);have Q5:=Aa (HQ4.out w5 o5);have X5:=Aa (X4.out.next HB5.out);have K5:=Aa (K4.out.next HB5.out);have XF5:=Aa (XF4.out.next HB5.out);have c3r:=X5.out.cell 3 _ rfl;have a0:=K5.out.cell 0 _ rfl;have a1:=K5.out.cell 1 _ rfl;have a2:=K5.out.cell 2 _ rfl;have b0:=k5.cell 0 _ rfl;have b1:=k5.cell 1 _ rfl;have b2:=k5.cell 2 _ rfl;clear o5)
   refine (HLT.out _ R5.out Q5.out).mono ?_;rintro e w6 ⟨fA9,fn9,fc9,fs9,fB9,fm9,fd9,ff9,fC9,fp9,fq9,rfl,b6⟩;have xf6:=XF5.out.next b6;have HB6:=Aa ((HB4.out.next HB5.out).next b6);clear b6 a0 a1 a2 b0 b1 b2 c3r;go_wp2_with (with_reducible refine Ab rfl 61 _ _ rfl (w0.heap.size+1) #[.int .i64 2,.slice fA9 fn9 fc9,.bool fs9,.slice fB9 fm9 fd9,.bool ff9,.slice fC9 fp9 fq9] rfl rfl _ xf6 (by kernel_rfl) rfl (by simp[Value.oneCell']) ?_;intro w9 k9 o9)
   refine A0 rfl rfl rfl k9 rfl ?_;exact ⟨_,_,_,_,_,_,_,_,_,_,_,rfl,HB6.out.trans (o9.below HB6.out.size (by omega))⟩
 · go_wp2_with (with_reducible refine Ab rfl 56 _ _ rfl w4.heap.size #[.slice A4 n4 c4,.bool s4,.slice B4 m4 d4] rfl rfl _ z8 (by kernel_rfl) rfl (by simp[Value.oneCell']) ?_;intro w5 k5 o5;have HB5:=Aa (show Below w4.heap.size w4 w5 from (Ae w4 _).trans (o5.below (Ae w4 _).size (Nat.le_refl _)));have R5:=Aa (HK4.out w5 o5);have Q5:=Aa (HQ4.out w5 o5);have X5:=Aa (X4.out.next HB5.out);have K5:=Aa (K4.out.next HB5.out);have XF5:=Aa (XF4.out.next HB5.out);have c3r:=X5.out.cell 3 _ rfl;have a0:=K5.out.cell 0 _ rfl;have a1:=K5.out.cell 1 _ rfl;have a2:=K5.out.cell 2 _ rfl;have b0:=k5.cell 0 _ rfl;have b1:=k5.cell 1 _ rfl;have b2:=k5.cell 2 _ rfl;clear o5)
   refine (HLT.out _ R5.out Q5.out).mono ?_;rintro e w6 ⟨fA9,fn9,fc9,fs9,fB9,fm9,fd9,ff9,fC9,fp9,fq9,rfl,b6⟩;have xf6:=XF5.out.next b6;have HB6:=Aa ((HB4.out.next HB5.out).next b6);clear b6 a0 a1 a2 b0 b1 b2 c3r;go_wp2_with (with_reducible refine Ab rfl 61 _ _ rfl (w0.heap.size+1) #[.int .i64 2,.slice fA9 fn9 fc9,.bool fs9,.slice fB9 fm9 fd9,.bool ff9,.slice fC9 fp9 fq9] rfl rfl _ xf6 (by kernel_rfl) rfl (by simp[Value.oneCell']) ?_;intro w9 k9 o9)
   refine A0 rfl rfl rfl k9 rfl ?_;exact ⟨_,_,_,_,_,_,_,_,_,_,_,rfl,HB6.out.trans (o9.below HB6.out.size (by omega))⟩
end
section
open Go.RowKit
open Lx Ex
theorem NI {T:TypeId} {w:World} {g:Nat} {a b c d e f:Value} (h:Am T w g #[a,b,c,d,e,f]) (x:Value):Am T (w.setCell ⟨g,5,none⟩ x) g #[a,b,c,d,e,x]:=by unfold Am at h ⊢;simp[World.setCell,Array.getElem?_modify,h]
theorem Iy:(Tryz.prog.info? 61).map (fun i=>(i.zero,i.size,i.bytes))=some (some (.agg #[.int .i64 0,.slice none 0 0,.bool false,.slice none 0 0,.bool false,.slice none 0 0]),6,96):=by kernel_rfl
theorem Xo {a d:Int} {A B C:Option Addr} {n c m k p q:Nat} {s f:Bool}:Cw [.int .i64 a,.slice A n c,.bool s,.slice B m k,.bool f,.slice C p q]:=by
 intro u hu;simp only[List.mem_cons,List.not_mem_nil,or_false]at hu;rcases hu with rfl|rfl|rfl|rfl|rfl|rfl
 · exact NL.i64 _
 · exact NL.slice _ _ _
 · exact NL.bool _
 · exact NL.slice _ _ _
 · exact NL.bool _
 · exact NL.slice _ _ _
theorem He {w:World} {ops:Array Oper} {rest:List Oper} {o:Oper} {a:Act} {Q:Exit->Act->World->Prop} (hgd:o.guard=none) (s x:Operand)
  (ho:o.op=.call { callee:=.builtin .append,args:=#[s,x],argTypes:=#[59,59] }) (base:Nat) (v:Value) (k:Nat) (xs:List Value) (hs:a.eval s=v) (hown:Ak 61 6 w base v k xs)
  (b:Nat) (kq:Int) (A B C:Option Addr) (n c m d p q:Nat) (s1 f1:Bool) (hx:a.eval x=.slice (some ⟨b,0,none⟩) 1 1) (hb:w.heap[b]?=some (.cells #[.int .i64 kq,.slice A n c,.bool s1,.slice B m d,.bool f1,.slice C p q] 61 (0,0))) (hn:k+1<=109951162777) (hbase:base<=w.heap.size)
  (h:∀v' w' ys,Ak 61 6 w' base v' (k+1) ys->w.grownBy w' v.ownBlock->wpList Tryz.prog ops Q rest (a.put o.dst v') w'):wpList Tryz.prog ops Q (o::rest) a w:=by
 obtain ⟨i0,hi0,hz0,hz1,hz2⟩:=info_parts Iy;refine Ba hgd s x 59 ho base 61 i0 _ 6 96 Tryz.underlying59 hi0 hz0 hz1 hz2 rfl (by decide) (Xo (d:=0)) v k xs hs hown ⟨b,0,none⟩ 1 1 [.int .i64 kq,.slice A n c,.bool s1,.slice B m d,.bool f1,.slice C p q] hx rfl
  (fun j u hu=>by rw[addr_add,Nat.zero_add,cell_of_row w b j _ _ _ hb];simpa using hu) (fun u hu=>by
   simp only[List.mem_cons,List.not_mem_nil,or_false]at hu;rcases hu with rfl|rfl|rfl|rfl|rfl|rfl<;>rfl) (Xo (d:=0)) (by unfold maxLen;omega) (by omega) hbase ?_
 intro v' w' h1 h2;exact h v' w' _ h1 h2
theorem Iz (kk:Int) (A:Option Addr) (n c:Nat) (V:Option Addr) (mv dv:Nat) (vs:List ByteArray) (w0:World) (hn:n<=1000) (hc:n<=c) (hc9:c<=9223372036854775807)
  (hk:∀j,j<n->∃(ba oa:Nat) (k2:Int) (Al2:Option Addr) (BO cl2:Nat) (Ar2:Option Addr) (nr2 cr2:Nat) (op2:Int) (p2 q2:ByteArray) (A2:Option Addr) (n2 c2:Nat) (kq:Int),A=some ⟨ba,oa,none⟩/\ba<w0.heap.size/\w0.cell? ⟨ba,oa+j*7,none⟩=some (.int .i64 k2)/\w0.cell? ⟨ba,oa+j*7+1,none⟩=some (.slice Al2 BO cl2)/\w0.cell? ⟨ba,oa+j*7+2,none⟩=some (.slice Ar2 nr2 cr2)/\w0.cell? ⟨ba,oa+j*7+3,none⟩=some (.int .i64 op2)/\w0.cell? ⟨ba,oa+j*7+4,none⟩=some (.string p2)/\w0.cell? ⟨ba,oa+j*7+5,none⟩=some (.string q2)/\w0.cell? ⟨ba,oa+j*7+6,none⟩=some (.slice A2 n2 c2)/\∀W,Below w0.heap.size w0 W->Calls Tryz.prog 44 #[.agg #[.int .i64 k2,.slice Al2 BO cl2,.slice Ar2 nr2 cr2,.int .i64 op2,.string p2,.string q2,.slice A2 n2 c2],.slice V mv dv] W (Xn kq true W)) :
  Calls Tryz.prog 74 #[.int .i64 kk,.slice A n c,.slice V mv dv] w0 (Xn kk true w0):=by
 obtain ⟨x6,x8,hb,hsz⟩:=Ax 61 61 w0 #[.int .i64 0,.slice none 0 0,.bool false,.slice none 0 0,.bool false,.slice none 0 0] #[.int .i64 kk,.slice none 0 0,.bool false,.slice none 0 0,.bool false,.slice none 0 0];have HB1:=Aa hb;have Y6:=Aa x6;have Y8:=Aa x8;have HK:=Aa hk;clear hk x6 x8 hb;go_enter Tryz.func74,Tryz.ntmps74;go_wp2_with fail
 generalize hW1:(w0.alloc (.cells #[.int .i64 0,.slice none 0 0,.bool false,.slice none 0 0,.bool false,.slice none 0 0] 61)).alloc (.cells #[.int .i64 kk,.slice none 0 0,.bool false,.slice none 0 0,.bool false,.slice none 0 0] 61)=W1 at *;clear hW1
 go_loopw [17] (fun i wr=>∃x:Nat,x<=n/\i=.int .i64 x/\Hid (∃v ys,Am 61 wr (w0.heap.size+1) #[.int .i64 kk,.slice none 0 0,.bool false,.slice none 0 0,.bool false,v]/\Ak 61 6 wr (w0.heap.size+2) v x ys)/\Hid (Am 61 wr w0.heap.size #[.int .i64 0,.slice none 0 0,.bool false,.slice none 0 0,.bool false,.slice none 0 0])/\Hid (Below w0.heap.size w0 wr)/\w0.heap.size+2<=wr.heap.size) (fun i _=>n-(intOf i).toNat)
 case atStart=>exact ⟨0,Nat.zero_le _,rfl,Aa ⟨_,[],Y8.out,Ak.nil _ _ _ _⟩,Y6,HB1,by omega⟩
 case round=>
  obtain ⟨x,hx,rfl,HER,XR6,HR,hwr⟩:=hrel;obtain ⟨v,ys,xr8,lr⟩:=HER.out;obtain ⟨vA,vc,rfl,hv1,hv2,-⟩:=lr.len;by_cases hxn:x<n
  · obtain ⟨ba,oa,k2,Al2,BO,cl2,Ar2,nr2,cr2,op2,p2,q2,A2,n2,c2,kq,rfl,hba,e0,e1,e2,e3,e4,e5,e6,hrec⟩:=HK.out x hxn;have e0:=(Af HR.out hba).trans e0;have e1:=(Af HR.out hba).trans e1;have e2:=(Af HR.out hba).trans e2;have e3:=(Af HR.out hba).trans e3;have e4:=(Af HR.out hba).trans e4;have e5:=(Af HR.out hba).trans e5;have e6:=(Af HR.out hba).trans e6;have hba2:ba<wr.heap.size:=Nat.lt_of_lt_of_le hba HR.out.size;have HREC:=Aa hrec;have X8r:=Aa xr8;have LR:=Aa lr
    have z10:Am 33 (wr.alloc (.cells #[.int .i64 0,.slice none 0 0,.slice none 0 0,.int .i64 0,.string ⟨#[]⟩,.string ⟨#[]⟩,.slice none 0 0] 33)) wr.heap.size #[.int .i64 0,.slice none 0 0,.slice none 0 0,.int .i64 0,.string ⟨#[]⟩,.string ⟨#[]⟩,.slice none 0 0]:=Am.new _ _ _;have g17:(x:Int)<(n:Int):=(by omega);clear hrec xr8 lr HER
    go_wp2_with (with_reducible refine Ab rfl 33 _ _ rfl wr.heap.size #[.int .i64 k2,.slice Al2 BO cl2,.slice Ar2 nr2 cr2,.int .i64 op2,.string p2,.string q2,.slice A2 n2 c2] rfl rfl _ z10 (by kernel_rfl) rfl (by simp[Value.oneCell']) ?_;intro w2 k2x o2;have HB2:=Aa (show Below wr.heap.size wr w2 from (Ae wr _).trans (o2.below (Ae wr _).size (Nat.le_refl _)));have y0:=k2x.cell 0 _ rfl;  have y1:=k2x.cell 1 _ rfl;  have y2:=k2x.cell 2 _ rfl;  have y3:=k2x.cell 3 _ rfl;  have y4:=k2x.cell 4 _ rfl;  have y5:=k2x.cell 5 _ rfl;  have y6:=k2x.cell 6 _ rfl;clear o2 k2x e0 e1 e2 e3 e4 e5 e6 z10)
    refine (HREC.out _ (HR.out.next HB2.out)).mono ?_;rintro e w4 ⟨fA9,fn9,fc9,fs9,fB9,fm9,fd9,ff9,fC9,fp9,fq9,rfl,b4⟩;have HB4:=Aa (show Below wr.heap.size wr w4 from HB2.out.trans (b4.mono HB2.out.size));have z11:Am 61 (w4.alloc (.cells #[.int .i64 0,.slice none 0 0,.bool false,.slice none 0 0,.bool false,.slice none 0 0] 61)) w4.heap.size #[.int .i64 0,.slice none 0 0,.bool false,.slice none 0 0,.bool false,.slice none 0 0]:=Am.new _ _ _
    have hs4:wr.heap.size<=w4.heap.size:=HB4.out.size;clear b4 y0 y1 y2 y3 y4 y5 y6 HREC HB2;go_wp2_with (first
     |(with_reducible refine Ab rfl 61 _ _ rfl w4.heap.size #[.int .i64 kq,.slice fA9 fn9 fc9,.bool fs9,.slice fB9 fm9 fd9,.bool ff9,.slice fC9 fp9 fq9] rfl rfl _ z11 (by kernel_rfl) rfl (by simp[Value.oneCell']) ?_;intro w5 k5 o5;have HB5:=Aa (show Below wr.heap.size wr w5 from HB4.out.trans (((Ae w4 _).trans (o5.below (Ae w4 _).size (Nat.le_refl _))).mono HB4.out.size));have hs5:=HB5.out.size;have X85:=Aa (X8r.out.next HB5.out);have f0:=k5.cell 0 _ rfl;  have f1:=k5.cell 1 _ rfl;  have f2:=k5.cell 2 _ rfl;  have f3:=k5.cell 3 _ rfl;  have f4:=k5.cell 4 _ rfl;  have f5:=k5.cell 5 _ rfl;have f8:=X85.out.cell 5 _ rfl;have hb7:=Ae w5 (.cells #[.int .i64 kq,.slice fA9 fn9 fc9,.bool fs9,.slice fB9 fm9 fd9,.bool ff9,.slice fC9 fp9 fq9] 61);have HN7:=Aa (heap_alloc_new w5 (.cells #[.int .i64 kq,.slice fA9 fn9 fc9,.bool fs9,.slice fB9 fm9 fd9,.bool ff9,.slice fC9 fp9 fq9] 61));have L7:=Aa ((LR.out.below HB5.out).below hb7);clear o5 k5)
     |(at_builtin;refine He rfl _ _ rfl (w0.heap.size+2) _ x ys rfl L7.out w5.heap.size kq fA9 fB9 fC9 fn9 fc9 fm9 fd9 fp9 fq9 fs9 ff9 rfl HN7.out (by omega) (by simp only[World.size_alloc];omega) ?_;intro v3 w7 zs l7 g7;obtain ⟨vB,vd,hv3,hw1,hw2,-⟩:=l7.len;subst hv3;have HG7:=Aa g7;have LN7:=Aa l7;have X87:=Aa ((X85.out.next hb7).grown g7 (fun e=>by have:=(L7.out.lt _ e.symm).1;omega));have x6q:=((XR6.out.next HB5.out).next hb7).grown g7 (fun e=>by have:=(L7.out.lt _ e.symm).1;omega);have X67:=Aa x6q;have HBL:=Aa (L7.out.old ((HR.out.next HB5.out).next hb7) g7 (show w0.heap.size<=w0.heap.size+2 from by omega) (Nat.le_refl _));have hs7:=g7.size;have q8:=X87.out.cell 5 _ rfl;have q9:=X87.out.fr 5;clear l7 g7 x6q f0 f1 f2 f3 f4 f5 f8 hb7))
    have o8:=Db w7 (w0.heap.size+1) 5 (.slice vB (x+1) vd);have hlt7:=X87.out.lt;go_roundw
    case rel=>exact ⟨x+1,by omega,by go_num,Aa ⟨_,zs,NI X87.out _,LN7.out.other o8 (Or.inl (by omega))⟩,Aa (X67.out.other o8 (by omega)),Aa (HBL.out.trans (o8.below HBL.out.size (by omega))),by have:=o8.size;have:=HBL.out.size;have:=X87.out.lt;omega⟩
    case measure=>simp[intOf];omega
  · obtain rfl:x=n:=(by omega);have X8r:=Aa xr8;have x6r:=XR6.out;have f0:=xr8.cell 0 _ rfl;have f1:=xr8.cell 1 _ rfl;have f2:=xr8.cell 2 _ rfl;have f3:=xr8.cell 3 _ rfl;have f4:=xr8.cell 4 _ rfl;have f5:=xr8.cell 5 _ rfl;clear xr8 lr HER;go_wp2_with (with_reducible refine Ab rfl 61 _ _ rfl w0.heap.size #[.int .i64 kk,.slice none 0 0,.bool false,.slice none 0 0,.bool false,.slice vA x vc] rfl rfl _ x6r (by kernel_rfl) rfl (by simp[Value.oneCell']) ?_;intro w9 k9 o9)
    refine A0 rfl rfl rfl k9 rfl ?_;exact ⟨_,_,_,_,_,_,_,_,_,_,_,rfl,HR.out.trans (o9.below HR.out.size (Nat.le_refl _))⟩
end
end Go.Proofs.YtgohmojcopajoaaGreatDoor
