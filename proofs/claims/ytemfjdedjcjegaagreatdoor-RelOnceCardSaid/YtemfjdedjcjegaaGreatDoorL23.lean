/- Texts of one seat, put together: RelsIn RNumber RBoth RAdd RScale RSub Summing RelDeny ShelfB Build WSign. -/
import Derived.Test.YtemfjdedjcjegaaGreatDoorL17
import Derived.Test.YtemfjdedjcjegaaGreatDoorL15
import Derived.Test.YtemfjdedjcjegaaGreatDoorL16
import Derived.Shelf.Strings.Builder1
import Derived.Shelf.Strconv.Itoa3
import Derived.Test.YtemfjdedjcjegaaGreatDoorL01
set_option linter.unusedVariables false
set_option linter.unusedSimpArgs false
set_option maxRecDepth 100000
set_option maxHeartbeats 16000000
namespace Go.Proofs.YtemfjdedjcjegaaGreatDoor
section
open Go.RowKit
structure RV where
 A:Option Addr
 n:Nat
 c:Nat
 s:Bool
 B:Option Addr
 m:Nat
 d:Nat
 f:Bool
 L:List (Int×Int)
 K:Int
def RV.cells (r:RV):List Value:=[.slice r.A r.n r.c,.bool r.s,.slice r.B r.m r.d,.bool r.f]
def RV.agg (r:RV):Value:=.agg #[.slice r.A r.n r.c,.bool r.s,.slice r.B r.m r.d,.bool r.f]
def RV.trm (r:RV):Value:=.agg #[.slice r.A r.n r.c,.bool r.s,.slice r.B r.m r.d]
def RV.rd (r:RV):List (Int×Int)×Int×Bool:=(r.L,r.K,r.f)
def AB (rs:List RV):List Value:=(rs.map RV.cells).flatten
theorem FV (r:RV) (rs:List RV):AB (r::rs)=r.cells++AB rs:=rfl
theorem Kc (rs:List RV) (i:Nat) (r:RV) (h:rs[i]?=some r):(AB rs)[4*i]?=some (.slice r.A r.n r.c)/\(AB rs)[4*i+1]?=some (.bool r.s)/\(AB rs)[4*i+2]?=some (.slice r.B r.m r.d)/\(AB rs)[4*i+3]?=some (.bool r.f):=by
 induction rs generalizing i with
 |nil=>simp at h
 |cons q rs ih=>
  rw[FV];cases i with
  |zero=>
   simp at h;subst h;exact ⟨rfl,rfl,rfl,rfl⟩
  |succ i=> have h2:=ih i (by simpa using h);have hl:q.cells.length=4:=rfl;rw[show 4*(i+1)=q.cells.length+4*i by rw[hl];omega,show q.cells.length+4*i+1=q.cells.length+(4*i+1) by omega,show q.cells.length+4*i+2=q.cells.length+(4*i+2) by omega,show q.cells.length+4*i+3=q.cells.length+(4*i+3) by omega,List.getElem?_append_right (by omega),List.getElem?_append_right (by omega),List.getElem?_append_right (by omega),List.getElem?_append_right (by omega)];simpa using h2
def CB (w:World) (A:Option Addr) (n:Nat) (rs:List RV):Prop:=
 rs.length=n/\(0<n->∃b o,A=some ⟨b,o,none⟩/\∀j u,(AB rs)[j]?=some u->w.cell? ⟨b,o+j,none⟩=some u)
def Eu (w:World) (A:Option Addr) (n:Nat) (rs:List RV) (k:Nat):Prop:=CB w A n rs/\∀r∈rs,Dw w r.trm r.L r.K k
def Dm (w:World) (A:Option Addr) (n:Nat) (rs:List RV) (k:Nat):Prop:=CB w A n rs/\∀r∈rs,An w r.trm r.L r.K k
theorem CB.below {w w':World} {A:Option Addr} {n:Nat} {rs:List RV} (h:CB w A n rs) (hb:Below w.heap.size w w'):CB w' A n rs:=by refine ⟨h.1,fun hn=>?_⟩;obtain ⟨b,o,e,hc⟩:=h.2 hn;refine ⟨b,o,e,fun j u hu=>?_⟩;have h1:=hc j u hu;have hlt:=World.block_lt_of_cell? w _ h1;exact (World.cell?_of_block (w:=w) (a:=⟨b,o+j,none⟩) (hb.block b hlt)).trans h1
theorem Eu.below {w w':World} {A:Option Addr} {n k:Nat} {rs:List RV} (h:Eu w A n rs k) (hb:Below w.heap.size w w'):Eu w' A n rs k:=⟨h.1.below hb,fun p hp=>(h.2 p hp).below hb⟩
theorem Dm.below {w w':World} {A:Option Addr} {n k:Nat} {rs:List RV} (h:Dm w A n rs k) (hb:Below w.heap.size w w'):Dm w' A n rs k:=⟨h.1.below hb,fun p hp=>(h.2 p hp).below hb⟩
theorem Dm.in_ {w:World} {A:Option Addr} {n k:Nat} {rs:List RV} (h:Dm w A n rs k):Eu w A n rs k:=⟨h.1,fun p hp=>(h.2 p hp).in_⟩
theorem CB.at_ {w:World} {A:Option Addr} {n i:Nat} {rs:List RV} (h:CB w A n rs) (hi:i<n):∃b o r,A=some ⟨b,o,none⟩/\rs[i]?=some r/\w.cell? ⟨b,o+i*4,none⟩=some (.slice r.A r.n r.c)/\w.cell? ⟨b,o+i*4+1,none⟩=some (.bool r.s)/\w.cell? ⟨b,o+i*4+2,none⟩=some (.slice r.B r.m r.d)/\w.cell? ⟨b,o+i*4+3,none⟩=some (.bool r.f):=by
 obtain ⟨b,o,e,hc⟩:=h.2 (by omega);have hl:i<rs.length:=by rw[h.1];exact hi
 obtain ⟨g0,g1,g2,g3⟩:=Kc rs i rs[i] (List.getElem?_eq_getElem hl);refine ⟨b,o,rs[i],e,List.getElem?_eq_getElem hl,?_,?_,?_,?_⟩
 · rw[show o+i*4=o+4*i by omega];exact hc _ _ g0
 · rw[show o+i*4+1=o+(4*i+1) by omega];exact hc _ _ g1
 · rw[show o+i*4+2=o+(4*i+2) by omega];exact hc _ _ g2
 · rw[show o+i*4+3=o+(4*i+3) by omega];exact hc _ _ g3
theorem CB.box {T:TypeId} {w:World} {g:Nat} {rs:List RV} (h:Aw T w g (AB rs).toArray):CB w (some ⟨g,0,none⟩) rs.length rs:=
 ⟨rfl,fun _=>⟨g,0,rfl,fun j u hu=>by rw[Nat.zero_add];exact h.cell j u (by simpa using hu)⟩⟩
def IR (ds:List (List (Int×Int)×Int×Bool)) (k:Nat) (w:World) (en:Ending) (w':World):Prop:=
 ∃A c rs,en=.returned (.slice A ds.length c)/\Dm w' A ds.length rs k/\rs.map RV.rd=ds/\ds.length<=c/\c<=9223372036854775807/\Below w.heap.size w w'
def Bl (L:List (Int×Int)):List (Int×Int):=Tm.norm (L.map fun p=>(p.1,-1*p.2))
def UN (L:List (Int×Int)) (K:Int) (e:Bool):List (List (Int×Int)×Int×Bool):=
 if e then [(Tm.norm L,K-1,false),(Bl L,-K-1,false)] else [(Bl L,-K-1,false)]
theorem KO {w0 w:World} {A B:Option Addr} {n c m d k g:Nat} {s f:Bool} {L:List (Int×Int)} {K:Int} (x:Aw 35 w g #[.slice A n c,.bool s,.slice B m d,.bool f]) (h:An w (.agg #[.slice A n c,.bool s,.slice B m d]) L K k) (hb:Below w0.heap.size w0 w) :
  IR [(L,K,f)] k w0 (.returned (.slice (some ⟨g,0,none⟩) 1 1)) w:=
 ⟨_,_,[⟨A,n,c,s,B,m,d,f,L,K⟩],rfl,⟨CB.box (rs:=[⟨A,n,c,s,B,m,d,f,L,K⟩]) x,fun r hr=>by simp only[List.mem_cons,List.not_mem_nil,or_false]at hr;subst hr;exact h⟩,rfl,Nat.le_refl _,by simp,hb⟩
theorem KP {w0 w:World} {A B A2 B2:Option Addr} {n c m d n2 c2 m2 d2 k g:Nat} {s f s2 f2:Bool} {L M:List (Int×Int)} {K J:Int} (x:Aw 35 w g #[.slice A n c,.bool s,.slice B m d,.bool f,.slice A2 n2 c2,.bool s2,.slice B2 m2 d2,.bool f2]) (h:An w (.agg #[.slice A n c,.bool s,.slice B m d]) L K k) (h2:An w (.agg #[.slice A2 n2 c2,.bool s2,.slice B2 m2 d2]) M J k) (hb:Below w0.heap.size w0 w) :
  IR [(L,K,f),(M,J,f2)] k w0 (.returned (.slice (some ⟨g,0,none⟩) 2 2)) w:=
 ⟨_,_,[⟨A,n,c,s,B,m,d,f,L,K⟩,⟨A2,n2,c2,s2,B2,m2,d2,f2,M,J⟩],rfl,⟨CB.box (rs:=[⟨A,n,c,s,B,m,d,f,L,K⟩,⟨A2,n2,c2,s2,B2,m2,d2,f2,M,J⟩]) x,fun r hr=>by
  simp only[List.mem_cons,List.not_mem_nil,or_false]at hr;rcases hr with rfl|rfl
  · exact h
  · exact h2⟩,rfl,Nat.le_refl _,by simp,hb⟩
end
section
open Go.RowKit
end
section
open Go.RowKit
open Tm
def Ui (w0:World) (os:List PV) (s:Value) (wr:World):Prop:=Az 59 3 wr w0.heap.size s os.length (flat os)/\Below w0.heap.size w0 wr
end
section
open Go.RowKit
open Tm
end
section
open Go.RowKit
open Tm
end
section
open Go.RowKit
open Tm
end
section
open Go.RowKit
open Tm
theorem An.ofEq {w:World} {v:Value} {L M:List (Int×Int)} {K J:Int} {k:Nat} (h:An w v L K k) (e:L=M) (f:K=J):An w v M J k:=e▸f▸h
end
section
open Go.RowKit
open Tm
theorem Mh (v:Value) (L:List (Int×Int)) (K:Int) (e:Bool) (k:Nat) (w0:World) (hv:JW w0 v L K e k) (hle:L.length<=100000) (hk:k<=100000):Calls Tryz.prog 21 #[v] w0 (IR (UN L K e) (k+L.length+3+L.length) w0):=by
 obtain ⟨A,n,c,s,B,m,d,rfl,ht⟩:=hv;obtain ⟨z0,z1,-⟩:=AV 35 w0 #[.slice A n c,.bool s,.slice B m d,.bool e];have HNG:=Ad (show (Bl L).length<=L.length by unfold Bl;refine Nat.le_trans (AR _) ?_;rw[List.length_map];exact Nat.le_refl _);have HNL:=Ad (AR L);go_enter Tryz.func21,Tryz.ntmps21;go_wp2_with fail;refine (TQ 1 _ (by decide) (by decide)).mono ?_;rintro en wa ⟨va,rfl,ra,ba⟩;have hnm:=Ey va 1 2 wa ra.in_ (by decide);have Z0:=Ad (z0.next ba);have Z1:=Ad (z1.next ba)
 have HT0:=Ad ht;clear ra ba z0 z1 ht;go_wp2_with fail;refine hnm.mono ?_;rintro en w1 ⟨v1,rfl,r1,b1⟩;obtain ⟨A1,n1,c1,s1,B1,m1,d1,rfl⟩:=r1.form;have y1:=Ae w1 (.cells #[.slice A1 n1 c1,.bool s1,.slice B1 m1 d1] 33);have HT:=Ad ((Z1.out.next b1).next y1);have XR:=Ad ((Z0.out.next b1).next y1);have X1:=Ad (Aw.new 33 w1 #[.slice A1 n1 c1,.bool s1,.slice B1 m1 d1]);have HONE:=Ad (r1.below y1);have HV:=Ad (HT0.out.below HT.out);clear hnm r1 b1 y1 Z0 Z1;go_upto_region 2 with fail
 generalize hW:(w1.alloc (.cells #[.slice A1 n1 c1,.bool s1,.slice B1 m1 d1] 33))=W0 at *;clear hW
 have SOF:=Ad (show ∀W,Below W0.heap.size W0 W->(W.cell? ⟨w0.heap.size,0,none⟩=some (.slice A n c)/\W.cell? ⟨w0.heap.size,1,none⟩=some (.bool s)/\W.cell? ⟨w0.heap.size,2,none⟩=some (.slice B m d)/\W.cell? ⟨w1.heap.size,0,none⟩=some (.slice A1 n1 c1)/\W.cell? ⟨w1.heap.size,1,none⟩=some (.bool s1)/\W.cell? ⟨w1.heap.size,2,none⟩=some (.slice B1 m1 d1)) from fun W h=>⟨(XR.out.next h).r0,(XR.out.next h).r1,(XR.out.next h).r2,(X1.out.next h).c0,(X1.out.next h).c1,(X1.out.next h).c2⟩)
 refine AJ (by kernel_rfl) (by kernel_rfl) (by kernel_rfl) (by kernel_rfl) (fun w w'=>Below w.heap.size w w') (fun j v w=>match j with|0=>v=.pointer (some ⟨w0.heap.size,0,none⟩)|1=>v=.agg #[.slice A n c,.bool s,.slice B m d]|2=>An w v (Bl L) (-K) (k+L.length)|3=>v=.agg #[.slice A1 n1 c1,.bool s1,.slice B1 m1 d1]|4=>An w v (Bl L) (-K-1) (k+L.length+3+L.length)|5=>BO w v (Bl L) (-K-1) false (k+L.length+3+L.length)|6=>∃g,v=.pointer (some ⟨g,0,none⟩)/\W0.heap.size<=g/\Aw 35 w g #[.slice none 0 0,.bool false,.slice none 0 0,.bool false]|_=>True) (fun _ _ w=>Below W0.heap.size W0 w) ?_ (fun _=>Ak W0 1) ?_ ?_
 · intro j v w w' hT h;match j,h with
   |0,h=>exact h
   |1,h=>exact h
   |2,h=>exact h.below hT
   |3,h=>exact h
   |4,h=>exact h.below hT
   |5,h=>exact h.below hT
   |6,h=>exact (by obtain ⟨g,e,h1,h2⟩:=h;exact ⟨g,e,h1,h2.next hT⟩)
   |j+7,h=>trivial
 · refine ⟨?_,?_,?_,?_,?_,?_,?_,trivial⟩
   · intro listed σ w a hin hout hl hla hs hc hp hG hF;refine Ac.none rfl ?_;have e1:a.tmps.getD 1 undef=.pointer (some ⟨w0.heap.size,0,none⟩):=hout 1 (Af (by kernel_rfl));refine Does.val (.pointer (some ⟨w0.heap.size,0,none⟩)) (w':=w) ?_ ⟨Below.refl _ _,rfl,hG⟩;simp only[Array.getD_eq_getD_getElem?]at e1;go_simp
   · intro listed σ w a hin hout hl hla hs hc hp hG hF;refine Ac.none rfl ?_;have e7:a.tmps.getD 7 undef=.pointer (some ⟨w0.heap.size,0,none⟩):=(hin 0 7 rfl (hp ⟨0,.data⟩ (by simp) rfl)).trans (hF 0 (hp ⟨0,.data⟩ (by simp) rfl));have CC:=SOF.out w hG;obtain ⟨C0,C1,C2,D0,D1,D2⟩:=CC;refine Does.val (.agg #[.slice A n c,.bool s,.slice B m d]) (w':=w) ?_ ⟨Below.refl _ _,rfl,hG⟩;go_simp
   · intro listed σ w a hin hout hl hla hs hc hp hG hF;refine Ac.none rfl ?_;have e8:a.tmps.getD 8 undef=.agg #[.slice A n c,.bool s,.slice B m d]:=(hin 1 8 rfl (hp ⟨1,.data⟩ (by simp) rfl)).trans (hF 1 (hp ⟨1,.data⟩ (by simp) rfl));refine Does.call ?_ (Gt _ L K k w (HV.out.below hG) (by omega) (by omega)) ?_
     · go_simp
     · rintro e w' ⟨v,rfl,z,hb⟩;exact ⟨_,rfl,hb,z,hG.next hb⟩
   · intro listed σ w a hin hout hl hla hs hc hp hG hF;refine Ac.none rfl ?_;have e3:a.tmps.getD 3 undef=.pointer (some ⟨w1.heap.size,0,none⟩):=hout 3 (Af (by kernel_rfl));have CC:=SOF.out w hG;obtain ⟨C0,C1,C2,D0,D1,D2⟩:=CC;refine Does.val (.agg #[.slice A1 n1 c1,.bool s1,.slice B1 m1 d1]) (w':=w) ?_ ⟨Below.refl _ _,rfl,hG⟩;go_simp
   · intro listed σ w a hin hout hl hla hs hc hp hG hF;refine Ac.none rfl ?_;have e9:=hin 2 9 rfl (hp ⟨2,.data⟩ (by simp) rfl);have z2:=hF 2 (hp ⟨2,.data⟩ (by simp) rfl);have e10:a.tmps.getD 10 undef=.agg #[.slice A1 n1 c1,.bool s1,.slice B1 m1 d1]:=(hin 3 10 rfl (hp ⟨3,.data⟩ (by simp) rfl)).trans (hF 3 (hp ⟨3,.data⟩ (by simp) rfl))
     refine Does.call ?_ (DW _ _ (Bl L) [] (-K) 1 (k+L.length+2) w (z2.in_.mono (by omega)) ((HONE.out.below hG).in_.mono (by omega)) (by have:=HNG.out;omega) (by simp) (by omega)) ?_
     · go_simp
     · rintro e w' ⟨v,rfl,z,hb⟩;exact ⟨_,rfl,hb,(z.ofEq (by rw[List.map_nil,List.append_nil];exact JR _) rfl).mono (by have:=HNG.out;simp;omega),hG.next hb⟩
   · intro listed σ w a hin hout hl hla hs hc hp hG hF;refine Ac.none rfl ?_;have e11:=hin 4 11 rfl (hp ⟨4,.data⟩ (by simp) rfl);have z4:=hF 4 (hp ⟨4,.data⟩ (by simp) rfl);obtain ⟨A7,n7,c7,s7,B7,m7,d7,ev7⟩:=An.form z4;rw[ev7]at e11 z4;refine Does.val (.agg #[.slice A7 n7 c7,.bool s7,.slice B7 m7 d7,.bool false]) (w':=w) ?_ ⟨Below.refl _ _,⟨A7,n7,c7,s7,B7,m7,d7,rfl,z4⟩,hG⟩;simp only[Array.getD_eq_getD_getElem?]at e11;go_simp
   · intro listed σ w a hin hout hl hla hs hc hp hG hF;refine Ac.none rfl ?_;refine Does.val (.pointer (some ⟨w.heap.size,0,none⟩)) (w':=w.alloc (.cells #[.slice none 0 0,.bool false,.slice none 0 0,.bool false] 35)) ?_ ⟨Ae w _,⟨w.heap.size,rfl,hG.size,Aw.new _ _ _⟩,hG.next (Ae w _)⟩;go_simp
 · intro o ho;injection ho with ho;subst ho
   intro listed σ w a hall hin hout hG hF;refine Ac.none rfl ?_;have e4:=hin 6 4 rfl (by decide);obtain ⟨g6,ev6,hg6,x6⟩:=hF 6 (by decide);rw[ev6]at e4;have e12:=hin 5 12 rfl (by decide);have z5:=hF 5 (by decide);obtain ⟨A8,n8,c8,s8,B8,m8,d8,ev8,t8⟩:=z5;rw[ev8]at e12;have hne:w0.heap.size≠g6:=(by have:=XR.out.lt;omega)
   refine Does.store_box (T:=35) (cells:=#[.slice A8 n8 c8,.bool s8,.slice B8 m8 d8,.bool false]) rfl e4 e12 x6 (by kernel_rfl) rfl (by simp[Value.oneCell']) (fun w2 x9 o9=>?_);rw[show fin _ σ undef _=(Act.put (Act.put (Act.put (Act.put (Act.put (Act.put (Act.put (Act.put _ (some 7) (σ 0)) (some 8) (σ 1)) (some 9) (σ 2)) (some 10) (σ 3)) (some 11) (σ 4)) (some 12) (σ 5)) (some 4) (σ 6)) none undef) from (Bn hall).trans rfl]
   simp only[Act.put,List.setIfInBounds_toArray,List.set_cons_zero,List.set_cons_succ];rw[ev6];have b9:Below W0.heap.size W0 w2:=hG.trans (o9.below hG.size hg6);have HLOW:=Ad (t8.onlyR x6 o9);have X9:=Ad x9;have HT9:=Ad (HT.out.next b9);have XR9:=Ad (XR.out.next b9);have X19:=Ad (X1.out.next b9);have HV9:=Ad (HV.out.below b9);have HONE9:=Ad (HONE.out.below b9)
   generalize σ 0=tt0 at *;generalize σ 1=tt1 at *;generalize σ 2=tt2 at *;generalize σ 3=tt3 at *;generalize σ 4=tt4 at *;generalize σ 5=tt5 at *;clear hF hG hall hin hout SOF t8 o9 e4 e12 ev8 ev6 hg6 x6 b9 x9;have HV:=HV9;have HONE:=HONE9;generalize w2=W0 at *;have q3:=XR9.out.r3;cases e with
   |false=>
     have y0:=X9.out.r0;have y1:=X9.out.r1;have y2:=X9.out.r2;have y3:=X9.out.r3;go_wp2_with fail;go_ret
     exact KO (Aw.new _ _ _) (HLOW.out.below (Ae _ _)) (HT9.out.next (Ae _ _))
   |true=>
     go_upto_region 5 with fail
     have SOF:=Ad (show ∀W,Below W0.heap.size W0 W->(W.cell? ⟨w0.heap.size,0,none⟩=some (.slice A n c)/\W.cell? ⟨w0.heap.size,1,none⟩=some (.bool s)/\W.cell? ⟨w0.heap.size,2,none⟩=some (.slice B m d)/\W.cell? ⟨w1.heap.size,0,none⟩=some (.slice A1 n1 c1)/\W.cell? ⟨w1.heap.size,1,none⟩=some (.bool s1)/\W.cell? ⟨w1.heap.size,2,none⟩=some (.slice B1 m1 d1)/\W.cell? ⟨g6,0,none⟩=some (.slice A8 n8 c8)/\W.cell? ⟨g6,1,none⟩=some (.bool s8)/\W.cell? ⟨g6,2,none⟩=some (.slice B8 m8 d8)/\W.cell? ⟨g6,3,none⟩=some (.bool false)) from fun W h=>⟨(XR9.out.next h).r0,(XR9.out.next h).r1,(XR9.out.next h).r2,(X19.out.next h).c0,(X19.out.next h).c1,(X19.out.next h).c2,(X9.out.next h).r0,(X9.out.next h).r1,(X9.out.next h).r2,(X9.out.next h).r3⟩)
     clear q3
     refine BC (by kernel_rfl) (by kernel_rfl) (by kernel_rfl) (fun w w'=>Below w.heap.size w w') (fun j v w=>match j with|0=>v=.pointer (some ⟨w0.heap.size,0,none⟩)|1=>v=.agg #[.slice A n c,.bool s,.slice B m d]|2=>v=.agg #[.slice A1 n1 c1,.bool s1,.slice B1 m1 d1]|3=>An w v (norm L) (K-1) (k+L.length+3+L.length)|4=>BO w v (norm L) (K-1) false (k+L.length+3+L.length)|5=>v=.agg #[.slice A8 n8 c8,.bool s8,.slice B8 m8 d8,.bool false]|6=>∃g A n c s B m d A2 n2 c2 s2 B2 m2 d2,v=.slice (some ⟨g,0,none⟩) 2 2/\Aw 35 w g #[.slice A n c,.bool s,.slice B m d,.bool false,.slice A2 n2 c2,.bool s2,.slice B2 m2 d2,.bool false]/\An w (.agg #[.slice A n c,.bool s,.slice B m d]) (norm L) (K-1) (k+L.length+3+L.length)/\An w (.agg #[.slice A2 n2 c2,.bool s2,.slice B2 m2 d2]) (Bl L) (-K-1) (k+L.length+3+L.length)|7=>∃g A n c s B m d A2 n2 c2 s2 B2 m2 d2,v=.slice (some ⟨g,0,none⟩) 2 2/\Aw 35 w g #[.slice A n c,.bool s,.slice B m d,.bool false,.slice A2 n2 c2,.bool s2,.slice B2 m2 d2,.bool false]/\An w (.agg #[.slice A n c,.bool s,.slice B m d]) (norm L) (K-1) (k+L.length+3+L.length)/\An w (.agg #[.slice A2 n2 c2,.bool s2,.slice B2 m2 d2]) (Bl L) (-K-1) (k+L.length+3+L.length)|_=>True) (fun _ _ w=>Below W0.heap.size W0 w) ?_ (fun _=>Ak W0 1) ?_ ?_
     · intro j v w w' hT h;match j,h with
       |0,h=>exact h
       |1,h=>exact h
       |2,h=>exact h
       |3,h=>exact h.below hT
       |4,h=>exact h.below hT
       |5,h=>exact h
       |6,h=>exact (by obtain ⟨g,A,n,c,s,B,m,d,A2,n2,c2,s2,B2,m2,d2,e,h1,h2,h3⟩:=h;exact ⟨g,A,n,c,s,B,m,d,A2,n2,c2,s2,B2,m2,d2,e,h1.next hT,h2.below hT,h3.below hT⟩)
       |7,h=>exact (by obtain ⟨g,A,n,c,s,B,m,d,A2,n2,c2,s2,B2,m2,d2,e,h1,h2,h3⟩:=h;exact ⟨g,A,n,c,s,B,m,d,A2,n2,c2,s2,B2,m2,d2,e,h1.next hT,h2.below hT,h3.below hT⟩)
       |j+8,h=>trivial
     · refine ⟨?_,?_,?_,?_,?_,?_,?_,?_,trivial⟩
       · intro listed σ w a hin hout hl hc hp hG hF;refine Ac.none rfl ?_;have e1:a.tmps.getD 1 undef=.pointer (some ⟨w0.heap.size,0,none⟩):=hout 1 (Af (by kernel_rfl));refine Does.val (.pointer (some ⟨w0.heap.size,0,none⟩)) (w':=w) ?_ ⟨Below.refl _ _,rfl,hG⟩;simp only[Array.getD_eq_getD_getElem?]at e1;go_simp
       · intro listed σ w a hin hout hl hc hp hG hF;refine Ac.none rfl ?_;have e18:a.tmps.getD 18 undef=.pointer (some ⟨w0.heap.size,0,none⟩):=(hin 0 18 rfl (hp ⟨0,.data⟩ (by simp) rfl)).trans (hF 0 (hp ⟨0,.data⟩ (by simp) rfl));have CC:=SOF.out w hG;obtain ⟨C0,C1,C2,D0,D1,D2,E0,E1,E2,E3⟩:=CC;refine Does.val (.agg #[.slice A n c,.bool s,.slice B m d]) (w':=w) ?_ ⟨Below.refl _ _,rfl,hG⟩;go_simp
       · intro listed σ w a hin hout hl hc hp hG hF;refine Ac.none rfl ?_;have e3:a.tmps.getD 3 undef=.pointer (some ⟨w1.heap.size,0,none⟩):=hout 3 (Af (by kernel_rfl));have CC:=SOF.out w hG;obtain ⟨C0,C1,C2,D0,D1,D2,E0,E1,E2,E3⟩:=CC;refine Does.val (.agg #[.slice A1 n1 c1,.bool s1,.slice B1 m1 d1]) (w':=w) ?_ ⟨Below.refl _ _,rfl,hG⟩;go_simp
       · intro listed σ w a hin hout hl hc hp hG hF;refine Ac.none rfl ?_;have e19:a.tmps.getD 19 undef=.agg #[.slice A n c,.bool s,.slice B m d]:=(hin 1 19 rfl (hp ⟨1,.data⟩ (by simp) rfl)).trans (hF 1 (hp ⟨1,.data⟩ (by simp) rfl));have e20:a.tmps.getD 20 undef=.agg #[.slice A1 n1 c1,.bool s1,.slice B1 m1 d1]:=(hin 2 20 rfl (hp ⟨2,.data⟩ (by simp) rfl)).trans (hF 2 (hp ⟨2,.data⟩ (by simp) rfl))
         refine Does.call ?_ (DW _ _ L [] K 1 (k+L.length+2) w ((HV.out.below hG).mono (by omega)) ((HONE.out.below hG).in_.mono (by omega)) (by omega) (by simp) (by omega)) ?_
         · go_simp
         · rintro e w' ⟨v,rfl,z,hb⟩;exact ⟨_,rfl,hb,(z.ofEq (by rw[List.map_nil,List.append_nil]) rfl).mono (by simp<;>omega),hG.next hb⟩
       · intro listed σ w a hin hout hl hc hp hG hF;refine Ac.none rfl ?_;have e21:=hin 3 21 rfl (hp ⟨3,.data⟩ (by simp) rfl);have z3:=hF 3 (hp ⟨3,.data⟩ (by simp) rfl);obtain ⟨A7,n7,c7,s7,B7,m7,d7,ev7⟩:=An.form z3;rw[ev7]at e21 z3;refine Does.val (.agg #[.slice A7 n7 c7,.bool s7,.slice B7 m7 d7,.bool false]) (w':=w) ?_ ⟨Below.refl _ _,⟨A7,n7,c7,s7,B7,m7,d7,rfl,z3⟩,hG⟩;simp only[Array.getD_eq_getD_getElem?]at e21;go_simp
       · intro listed σ w a hin hout hl hc hp hG hF;refine Ac.none rfl ?_;have e4:a.tmps.getD 4 undef=.pointer (some ⟨g6,0,none⟩):=hout 4 (Af (by kernel_rfl));have CC:=SOF.out w hG;obtain ⟨C0,C1,C2,D0,D1,D2,E0,E1,E2,E3⟩:=CC;refine Does.val (.agg #[.slice A8 n8 c8,.bool s8,.slice B8 m8 d8,.bool false]) (w':=w) ?_ ⟨Below.refl _ _,rfl,hG⟩;go_simp
       · intro listed σ w a hin hout hl hc hp hG hF;refine Ac.none rfl ?_;have e22:=hin 4 22 rfl (hp ⟨4,.data⟩ (by simp) rfl);have z4:=hF 4 (hp ⟨4,.data⟩ (by simp) rfl);have e23:a.tmps.getD 23 undef=.agg #[.slice A8 n8 c8,.bool s8,.slice B8 m8 d8,.bool false]:=(hin 5 23 rfl (hp ⟨5,.data⟩ (by simp) rfl)).trans (hF 5 (hp ⟨5,.data⟩ (by simp) rfl));obtain ⟨A7,n7,c7,s7,B7,m7,d7,ev7,z7⟩:=z4;rw[ev7]at e22
         refine Does.val (.slice (some ⟨w.heap.size,0,none⟩) 2 2) (w':=w.alloc (.cells #[.slice A7 n7 c7,.bool s7,.slice B7 m7 d7,.bool false,.slice A8 n8 c8,.bool s8,.slice B8 m8 d8,.bool false] 35)) ?_ ⟨Ae w _,⟨w.heap.size,A7,n7,c7,s7,B7,m7,d7,A8,n8,c8,s8,B8,m8,d8,rfl,Aw.new _ _ _,z7.below (Ae w _),(HLOW.out.below hG).below (Ae w _)⟩,hG.next (Ae w _)⟩;simp only[Array.getD_eq_getD_getElem?]at e22 e23;go_simp
       · intro listed σ w a hin hout hl hc hp hG hF;refine Ac.none rfl ?_;have e24:=hin 6 24 rfl (hp ⟨6,.data⟩ (by simp) rfl);have z6:=hF 6 (hp ⟨6,.data⟩ (by simp) rfl);obtain ⟨g,A,n,c,s,B,m,d,A2,n2,c2,s2,B2,m2,d2,ev,h1,h2,h3⟩:=z6;rw[ev]at e24;refine Does.val (.slice (some ⟨g,0,none⟩) 2 2) (w':=w) ?_ ⟨Below.refl _ _,⟨g,A,n,c,s,B,m,d,A2,n2,c2,s2,B2,m2,d2,rfl,h1,h2,h3⟩,hG⟩;simp only[Array.getD_eq_getD_getElem?]at e24;go_simp
     · intro listed σ W9 hall hG hF;have F7:=hF 7 (by decide);rw[show mid _ σ listed _=(Act.put (Act.put (Act.put (Act.put (Act.put (Act.put (Act.put (Act.put _ (some 18) (σ 0)) (some 19) (σ 1)) (some 20) (σ 2)) (some 21) (σ 3)) (some 22) (σ 4)) (some 23) (σ 5)) (some 24) (σ 6)) (some 2) (σ 7)) from (BP hall).trans rfl];generalize σ 0=tt0;generalize σ 1=tt1;generalize σ 2=tt2;generalize σ 3=tt3;generalize σ 4=tt4;generalize σ 5=tt5;generalize σ 6=tt6
       generalize σ 7=tt7 at F7 ⊢;simp only[Act.put,List.setIfInBounds_toArray,List.set_cons_zero,List.set_cons_succ];have TG:=hG;clear hF hG hall;clear σ;obtain ⟨g,A',n',c',s',B',m',d',A2,n2,c2,s2,B2,m2,d2,ev,h1,h2,h3⟩:=F7;subst ev;go_wp2_with fail;go_ret
       exact KP h1 h2 h3 (HT9.out.next TG)
end
section
open Go.Shelf
def Tryz.bString_ren:Go.Shelf.Ren:=⟨fun|169=>81|n=>n,fun|70=>115|9=>9|0=>0|72=>118|37=>116|127=>157|3=>3|5=>5|n=>n,fun|n=>n⟩
theorem Tryz.bString:Go.Proofs.Lays.n169 Tryz.prog Tryz.bString_ren:={
 mixed:=by kernel_rfl
 f169:=Tryz.func81.trans (congrArg some (by kernel_rfl))
 t0:=Tryz.underlying0
 a0:=Tryz.isAgg0
 z0:=Tryz.sizeOf0
 v0:=Tryz.zeroValue0
 t3:=Tryz.underlying3
 a3:=Tryz.isAgg3
 z3:=Tryz.sizeOf3
 v3:=Tryz.zeroValue3
 t9:=Tryz.underlying9
 a9:=Tryz.isAgg9
 z9:=Tryz.sizeOf9
 v9:=Tryz.zeroValue9
 t37:=Tryz.underlying116
 a37:=Tryz.isAgg116
 z37:=Tryz.sizeOf116
 v37:=Tryz.zeroValue116
 t70:=Tryz.underlying115
 a70:=Tryz.isAgg115
 z70:=Tryz.sizeOf115
 v70:=Tryz.zeroValue115
 t72:=Tryz.underlying118
 a72:=Tryz.isAgg118
 z72:=Tryz.sizeOf118
 v72:=Tryz.zeroValue118
 t127:=Tryz.underlying157
 a127:=Tryz.isAgg157
 z127:=Tryz.sizeOf157
 v127:=Tryz.zeroValue157 }
def Tryz.sItoa_ren:Go.Shelf.Ren:=⟨fun|171=>120|243=>148|246=>171|283=>180|284=>181|285=>182|286=>183|129=>108|317=>185|318=>186|319=>187|320=>188|337=>189|338=>190|n=>n,fun|3=>3|9=>9|2=>2|4=>4|171=>201|0=>0|53=>112|37=>116|5=>5|173=>203|212=>208|51=>83|20=>20|213=>209|46=>105|232=>210|233=>211|n=>n,fun|17=>0|18=>1|19=>2|n=>n⟩
end
section
open Go.Shelf Go.RowKit
theorem EK:(Tryz.prog.info? 118).map (·.size)=some 2:=by kernel_rfl
theorem G3:liesAt Tryz.prog Tryz.prog.depth 118 (2/Tryz.prog.cellsOf 118) 0 118 1=true:=by kernel_rfl
theorem IU (b:Nat) (w:World) (h0:w.cell? ⟨b,0,none⟩=some (.pointer (some ⟨b,0,none⟩))) :
  Calls Tryz.prog 119 #[.pointer (some ⟨b,0,none⟩)] w fun e w'=>e=.returned (.tuple #[])/\w'=w:=by
 obtain ⟨j,hj,-⟩:=Option.map_eq_some_iff.1 EK;have hne:=fun w=>Lib.run_neq_ptr_same (P:=Tryz.prog) w ⟨b,0,none⟩ Tryz.underlying115 hj
 clear hj;go_enter Tryz.func119,Tryz.ntmps119;go_wp2_with fail;go_end0
 exact ⟨rfl,rfl⟩
theorem Hn (b:Nat) (w:World) (h0:w.cell? ⟨b,0,none⟩=some (.pointer none)) (hsh:w.shape? b=some (118,2)) (hfz:w.frozen? ⟨b,0,none⟩=false) :
  Calls Tryz.prog 119 #[.pointer (some ⟨b,0,none⟩)] w fun e w'=>e=.returned (.tuple #[])/\w'=w.setCell ⟨b,0,none⟩ (.pointer (some ⟨b,0,none⟩)):=by
 obtain ⟨j,hj,hjs⟩:=Option.map_eq_some_iff.1 EK;have hne:=fun w=>Lib.run_neq_ptr_same (P:=Tryz.prog) w ⟨b,0,none⟩ Tryz.underlying115 hj
 have hto:=Lib.run_to_unsafe (P:=Tryz.prog) w ⟨b,0,none⟩ Tryz.underlying115 Tryz.underlying176 hj (by rw[hjs];decide) hsh (Nat.zero_lt_succ 1);have hfrom:=Lib.run_from_unsafe (P:=Tryz.prog) w ⟨b,0,none⟩ Tryz.underlying176 Tryz.underlying115 hj hsh G3;have hx:=Lib.run_noEscape (P:=Tryz.prog) w (.pointer (some ⟨b,0,none⟩))
 have hcf:=fun (args:Array Value) (w:World)=>run_callFunc_extern (P:=Tryz.prog) (w:=w) (args:=args) Tryz.func147 (by kernel_rfl) (by kernel_rfl) (by kernel_rfl) (e:=Extern.AbiNoEscape.same) (by kernel_rfl)
 clear hj hjs;go_enter Tryz.func119,Tryz.ntmps119;go_wp2_with fail;go_end0
 exact ⟨rfl,rfl⟩
def Pn (w:World) (B b:Nat) (bs:List Value):Prop:=∃p v,(p=.pointer none\/p=.pointer (some ⟨b,0,none⟩))/\Aw 118 w b #[p,v]/\w.ownsRow B 5 1 v bs.length bs
structure BW (B b:Nat) (w w':World):Prop where
 os:w'.os=w.os
 tape:w'.tape=w.tape
 output:w'.output=w.output
 size:w.heap.size<=w'.heap.size
 low:∀k,k<w.heap.size->k<B->k≠b->w'.heap[k]?=w.heap[k]?
 box:∀T g cs,T≠5->g≠b->Aw T w g cs->Aw T w' g cs
theorem BW.refl (B b:Nat) (w:World):BW B b w w:=⟨rfl,rfl,rfl,Nat.le_refl _,fun _ _ _ _=>rfl,fun _ _ _ _ _ h=>h⟩
theorem BW.trans {B b:Nat} {a c d:World} (h:BW B b a c) (k:BW B b c d):BW B b a d:=
 ⟨k.os.trans h.os,k.tape.trans h.tape,k.output.trans h.output,Nat.le_trans h.size k.size,fun i h0 h1 h2=>(k.low i (Nat.lt_of_lt_of_le h0 h.size) h1 h2).trans (h.low i h0 h1 h2),fun T g cs h1 h2 x=>k.box T g cs h1 h2 (h.box T g cs h1 h2 x)⟩
theorem BW.of_below {B b:Nat} {w w':World} (h:Below w.heap.size w w'):BW B b w w':=⟨h.os,h.tape,h.output,h.size,fun k hk _ _=>h.block k hk,fun _ _ _ _ _ x=>x.next h⟩
theorem BW.of_only {B b:Nat} {w w':World} (h:Ao b w w'):BW B b w w':=
 ⟨h.gb.os,h.gb.tape,h.gb.output,h.gb.size,fun k hk _ hne=>h.gb.block k hk (fun e=>hne (by injection e)),fun _ _ _ _ hne x=>x.other h hne⟩
theorem BW.only {b:Nat} {w w':World} (h:BW w.heap.size b w w'):Ao b w w':=⟨h.os,h.tape,h.output,h.size,fun k hk hne=>h.low k hk hk (fun e=>hne (by rw[e]))⟩
theorem BW.below {B b C:Nat} {w w':World} (h:BW B b w w') (hC:C<=B) (hb:C<=b) (hw:C<=w.heap.size):Below C w w':=⟨h.os,h.tape,h.output,h.size,fun k hk=>h.low k (by omega) (by omega) (by omega)⟩
theorem Kd:(Tryz.prog.info? 5).map (fun i=>(i.zero,i.size,i.bytes))=some (some (.int .u8 0),1,1):=by kernel_rfl
theorem Ke {w w':World} {B:Nat} {T:TypeId} {v:Value} {n g:Nat} {xs:List Value} {cs:Array Value} (hT:T≠5) (hown:w.ownsRow B 5 1 v n xs) (hg:w.grownBy w' v.ownBlock) (x:Aw T w g cs):Aw T w' g cs:=
 x.grown hg (fun e=>Lib.ownBlock_ne hown x hT e.symm)
theorem Pn.fresh {w:World} {B b:Nat} (h:Aw 118 w b #[.pointer none,.slice none 0 0]):Pn w B b []:=⟨_,_,.inl rfl,h,World.ownsRow_nil _ _ _ _⟩
theorem Pn.below {w w':World} {B b:Nat} {bs:List Value} (h:Pn w B b bs) (hb:Below w.heap.size w w'):Pn w' B b bs:=by
 obtain ⟨p,v,hp,x,ho⟩:=h;refine ⟨p,v,hp,x.next hb,ho.kept (row:=none) ⟨hb.os,hb.tape,hb.output,hb.size,fun k hk _=>hb.block k hk⟩ ?_⟩;rcases ho.2 with ⟨rfl,_⟩|⟨g,cap,cur,rfl,_⟩
 · exact .inl rfl
 · exact .inr (by simp[Value.ownBlock])
def Co (r:Value) (B b:Nat) (bs:List Value) (w:World) (e:Ending) (w':World):Prop:=e=.returned r/\Pn w' B b bs/\BW B b w w'
theorem KQ {w:World} {B b n:Nat} {v p q:Value} {xs:List Value} (ho:w.ownsRow B 5 1 v n xs) (x:Aw 118 w b #[p,q]):v.ownBlock≠some b:=Lib.ownBlock_ne ho x (by decide)
theorem Po {w:World} {B n:Nat} {v:Value} {xs:List Value} (ho:w.ownsRow B 5 1 v n xs):∃ao m cap,v=.slice ao m cap:=by
 rcases ho.2 with ⟨rfl,_⟩|⟨g,cap,cur,rfl,_⟩
 · exact ⟨_,_,_,rfl⟩
 · exact ⟨_,_,_,rfl⟩
theorem TW {w:World} {b:Nat} {p q:Value} (x:Aw 118 w b #[p,q]) (y:Value):Aw 118 (w.setCell ⟨b,0,none⟩ y) b #[y,q]:=by unfold Aw at x ⊢;simp[World.setCell,Array.getElem?_modify,x]
theorem TX {w:World} {b:Nat} {p q:Value} (x:Aw 118 w b #[p,q]) (y:Value):Aw 118 (w.setCell ⟨b,1,none⟩ y) b #[p,y]:=by unfold Aw at x ⊢;simp[World.setCell,Array.getElem?_modify,x]
theorem J3 (B b:Nat) (bs:List Value) (w:World) (h:Pn w B b bs):Calls Tryz.prog 119 #[.pointer (some ⟨b,0,none⟩)] w fun e w'=>e=.returned (.tuple #[])/\(∃v,Aw 118 w' b #[.pointer (some ⟨b,0,none⟩),v]/\w'.ownsRow B 5 1 v bs.length bs)/\BW B b w w':=by
 obtain ⟨p,v,rfl|rfl,x,ho⟩:=h
 · refine (Hn b w (x.cell 0 _ rfl) (by unfold Aw at x;simp[World.shape?,x]) (x.fr 0)).mono ?_;rintro e w' ⟨rfl,rfl⟩;exact ⟨rfl,⟨v,TW x _,ho.kept (row:=some b) (CK w b 0 _) (.inr (KQ ho x))⟩,BW.of_only (CK w b 0 _)⟩
 · refine (IU b w (x.cell 0 _ rfl)).mono ?_;rintro e w' ⟨rfl,rfl⟩;exact ⟨rfl,⟨v,x,ho⟩,BW.refl _ _ _⟩
theorem Bc (B b:Nat) (bs:List Value) (s:ByteArray) (w:World) (h:Pn w B b bs) (hlen:bs.length+s.size<=140737488355328) (hBw:B<=w.heap.size) :
  Calls Tryz.prog 79 #[.pointer (some ⟨b,0,none⟩),.string s] w (Co (.tuple #[.int .i64 s.size,.nilIface]) B b (bs++Lib.strCells s) w):=by
 have hc:=J3 B b bs w h;obtain ⟨i0,hi,hz0,hz1,hz2⟩:=info_parts Kd;clear h;go_enter Tryz.func79,Tryz.ntmps79;go_wp2_with fail;refine hc.mono ?_;rintro e w1 ⟨rfl,⟨v,x,ho⟩,b1⟩;have c1:w1.cell? ⟨b,1,none⟩=some v:=x.cell 1 _ rfl;have hB1:B<=w1.heap.size:=Nat.le_trans hBw b1.size;have h63:bs.length+s.size<=maxLen:=by unfold maxLen;omega
 have X:=Ad x;have HB1:=Ad b1;clear x b1 hc
 go_wp2_with (at_builtin;refine Lib.wpList_append_own_string _ rfl _ _ 116 9 rfl B 5 i0 Tryz.underlying116 Tryz.underlying9 hi hz0 hz1 hz2 v bs.length bs rfl ho s rfl h63 hlen hB1 ?_;intro v2 w2 ho2 g2 hnil;clear hnil;obtain ⟨ao2,n2,cap2,rfl⟩:=Po ho2;have y:=Ke (by decide) ho g2 X.out;have u0:w2.cell? ⟨b,1,none⟩=some v:=y.cell 1 _ rfl;have u1:=y.fr 1;have hb2:=Ad (HB1.out.trans ⟨g2.os,g2.tape,g2.output,g2.size,fun k h0 hk hne=>g2.block k h0 (fun e=>by have:=(ho.lt k e.symm).1;omega),fun T g cs hT hne z=>Ke hT ho g2 z⟩);have Y:=Ad y;have HO2:=Ad ho2;clear y ho2 g2)
 go_ret2
 refine ⟨rfl,⟨_,.slice ao2 n2 cap2,.inr rfl,TX Y.out _,?_⟩,hb2.out.trans (BW.of_only (CK w2 b 1 _))⟩;rw[List.length_append,Lib.strCells_length];exact HO2.out.kept (row:=some b) (CK w2 b 1 _) (.inr (KQ HO2.out Y.out))
theorem Db (B b:Nat) (bs:List Value) (w:World) (h:Pn w B b bs):Calls Tryz.prog 117 #[.pointer (some ⟨b,0,none⟩)] w (fun e w'=>e=.returned (.int .i64 (bs.length:Nat))/\w'=w):=by
 obtain ⟨p,v,-,x,ho⟩:=h;obtain ⟨ao,cap,hv⟩:∃ao cap,v=.slice ao bs.length cap:=by
  rcases ho.2 with ⟨rfl,h0⟩|⟨g,cap,cur,rfl,_⟩
  · exact ⟨none,0,by rw[h0]⟩
  · exact ⟨_,_,rfl⟩
 subst hv;have c1:w.cell? ⟨b,1,none⟩=some (.slice ao bs.length cap):=x.cell 1 _ rfl;clear ho;go_enter Tryz.func117,Tryz.ntmps117;go_wp2_with fail;go_ret
 exact ⟨rfl,rfl⟩
theorem J4:Builder.Extra Tryz.prog Tryz.bString_ren:={ sizeBuilder:=EK,liesBuilder:=G3,t5:=Tryz.underlying5,a5:=Tryz.isAgg5,z5:=Tryz.sizeOf5,v5:=Tryz.zeroValue5,infoByte:=Kd,cellsByte:=by kernel_rfl,sizeByte:=by kernel_rfl,neB5:=by decide }
theorem Dc (B C b:Nat) (l:List UInt8) (w:World) (h:Pn w B b (Lib.byteCells l)) (hC:C<=B) (hCb:C<=b) (hw:C<=w.heap.size):Calls Tryz.prog 81 #[.pointer (some ⟨b,0,none⟩)] w (fun e w'=>e=.returned (.string ⟨l.toArray⟩)/\Below C w w'):=by
 obtain ⟨p,v,hp,x,ho⟩:=h;have ho':w.ownsRow C 5 1 v (Lib.byteCells l).length (Lib.byteCells l):=by
  refine ⟨ho.1,?_⟩;rcases ho.2 with h0|⟨g,cap,cur,h1,h2,h3⟩
  · exact .inl h0
  · exact .inr ⟨g,cap,cur,h1,Nat.le_trans hC h2,h3⟩
 have hb:Lib.IsBuilder (Tryz.bString_ren.t 72) (Tryz.bString_ren.t 5) C b (Lib.byteCells l) w:=by
  rcases hp with rfl|rfl
  · exact Or.inl ⟨hCb,v,x,ho',KQ ho x⟩
  · exact Or.inr ⟨hCb,v,x,ho',KQ ho x⟩
 exact (Any.Builder_String_any Tryz.bString J4 C b l w hb hw).mono (fun e w' ⟨h1,h2⟩=>⟨h1,h2⟩)
end
section
open Go.Shelf Go.RowKit
def ES:Bool->Bool->List UInt8
 |true,true=>[32,45,32]
 |true,false=>[32,43,32]
 |false,true=>[45]
 |false,false=>[]
theorem Ev (B b:Nat) (bs:List Value) (v:Value) (Z:Int) (k:Nat) (w:World) (h:Pn w B b bs) (hv:BF w v Z k) (hk:k<=1099511627776) (hlen:bs.length+3<=140737488355328) (hB:B<=w.heap.size) :
   Calls Tryz.prog 76 #[.pointer (some ⟨b,0,none⟩),v] w (Co (.tuple #[]) B b (bs++Lib.byteCells (ES (decide (0<bs.length)) (decide (Z<0)))) w):=by
 have hv0:=hv;obtain ⟨s,A,n,c,xs,rfl,-⟩:=hv;obtain ⟨z0,z1,-⟩:=CV w #[.bool s,.slice A n c];have hs:=Cs _ Z k _ (hv0.below z1) hk;unfold BA at hs;have H1:=Ad (h.below z1);have HB1:=Ad (BW.of_below (B:=B) (b:=b) z1);have x0:=AY.c0 z0;have x1:=AY.c1 z0;clear hv0 z0 z1;by_cases hz:Z<0
 · have hz1:Z.sign<0:=(by rw[Int.sign_eq_neg_one_of_neg hz];decide);have hd:decide (Z<0)=true:=(by simpa using hz);by_cases hn:0<bs.length
   · have hdn:=Ad (show ES (decide (0<bs.length)) (decide (Z<0))=[32,45,32] by rw[hd,show decide (0<bs.length)=true by simpa using hn];rfl);have hd2:decide ((0:Int)<(bs.length:Nat))=true:=(by simpa using hn);go_enter Tryz.func76,Tryz.ntmps76;go_wp2_with fail;refine hs.mono ?_;rintro e w1 ⟨rfl,b1⟩;have H2:=H1.out.below b1;have HW:=Ad (HB1.out.trans (BW.of_below b1));have hB1:B<=w1.heap.size:=Nat.le_trans hB HW.out.size;have hle:=Db B b bs w1 H2
     have hwr:=Bc B b bs ⟨#[32,45,32]⟩ w1 H2 hlen hB1;unfold Co at hwr;clear x0 x1 hs H2 H1 HB1 h hd;go_wp2_with fail;refine hle.mono ?_;rintro e w2 ⟨rfl,rfl⟩;go_wp2_with fail;refine hwr.mono ?_;rintro e w3 ⟨rfl,h3,b3⟩;go_wp2_with fail;go_end0
     exact ⟨rfl,by rw[hdn.out];exact h3,HW.out.trans b3⟩
   · have hdn:=Ad (show ES (decide (0<bs.length)) (decide (Z<0))=[45] by rw[hd,show decide (0<bs.length)=false by simpa using hn];rfl);have hd2:decide ((0:Int)<(bs.length:Nat))=false:=(by simpa using hn);go_enter Tryz.func76,Tryz.ntmps76;go_wp2_with fail;refine hs.mono ?_;rintro e w1 ⟨rfl,b1⟩;have H2:=H1.out.below b1;have HW:=Ad (HB1.out.trans (BW.of_below b1));have hB1:B<=w1.heap.size:=Nat.le_trans hB HW.out.size;have hle:=Db B b bs w1 H2
     have hwr:=Bc B b bs ⟨#[45]⟩ w1 H2 (Nat.le_trans (show bs.length+1<=bs.length+3 by omega) hlen) hB1;unfold Co at hwr;clear x0 x1 hs H2 H1 HB1 h hd;go_wp2_with fail;refine hle.mono ?_;rintro e w2 ⟨rfl,rfl⟩;go_wp2_with fail;refine hle.mono ?_;rintro e w2 ⟨rfl,rfl⟩;go_wp2_with fail;refine hwr.mono ?_;rintro e w3 ⟨rfl,h3,b3⟩;go_wp2_with fail;go_end0
     exact ⟨rfl,by rw[hdn.out];exact h3,HW.out.trans b3⟩
 · have hz1:¬Z.sign<0:=by
     intro hh;exact hz (Int.sign_neg_iff.1 hh)
   have hd:decide (Z<0)=false:=(by simpa using hz);by_cases hn:0<bs.length
   · have hdn:=Ad (show ES (decide (0<bs.length)) (decide (Z<0))=[32,43,32] by rw[hd,show decide (0<bs.length)=true by simpa using hn];rfl);have hd2:decide ((0:Int)<(bs.length:Nat))=true:=(by simpa using hn);go_enter Tryz.func76,Tryz.ntmps76;go_wp2_with fail;refine hs.mono ?_;rintro e w1 ⟨rfl,b1⟩;have H2:=H1.out.below b1;have HW:=Ad (HB1.out.trans (BW.of_below b1));have hB1:B<=w1.heap.size:=Nat.le_trans hB HW.out.size;have hle:=Db B b bs w1 H2
     have hwr:=Bc B b bs ⟨#[32,43,32]⟩ w1 H2 hlen hB1;unfold Co at hwr;clear x0 x1 hs H2 H1 HB1 h hd;go_wp2_with fail;refine hle.mono ?_;rintro e w2 ⟨rfl,rfl⟩;go_wp2_with fail;refine hle.mono ?_;rintro e w2 ⟨rfl,rfl⟩;go_wp2_with fail;refine hwr.mono ?_;rintro e w3 ⟨rfl,h3,b3⟩;go_wp2_with fail;go_end0
     exact ⟨rfl,by rw[hdn.out];exact h3,HW.out.trans b3⟩
   · have hdn:=Ad (show ES (decide (0<bs.length)) (decide (Z<0))=[] by rw[hd,show decide (0<bs.length)=false by simpa using hn];rfl);have hd2:decide ((0:Int)<(bs.length:Nat))=false:=(by simpa using hn);go_enter Tryz.func76,Tryz.ntmps76;go_wp2_with fail;refine hs.mono ?_;rintro e w1 ⟨rfl,b1⟩;have H2:=Ad (H1.out.below b1);have HW:=Ad (HB1.out.trans (BW.of_below b1));have hle:=Db B b bs w1 H2.out;clear x0 x1 hs H1 HB1 h hd;go_wp2_with fail;refine hle.mono ?_
     rintro e w2 ⟨rfl,rfl⟩;go_wp2_with fail;refine hle.mono ?_;rintro e w2 ⟨rfl,rfl⟩;go_wp2_with fail;go_end0
     exact ⟨rfl,by rw[hdn.out];simpa[Lib.byteCells] using H2.out,HW.out⟩
end
end Go.Proofs.YtemfjdedjcjegaaGreatDoor
