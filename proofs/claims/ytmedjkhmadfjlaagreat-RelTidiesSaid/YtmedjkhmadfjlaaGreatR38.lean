/- Texts of one seat, put together: RCmp3. -/
import Derived.Test.YtmedjkhmadfjlaaGreatR37
import Derived.Test.YtmedjkhmadfjlaaGreatR19
import Derived.Test.YtmedjkhmadfjlaaGreatR30
set_option linter.unusedVariables false
set_option linter.unusedSimpArgs false
set_option maxRecDepth 100000
set_option maxHeartbeats 16000000
namespace Go.Proofs.YtmedjkhmadfjlaaGreat
section
open Go.RowKit
open Tm
theorem QI {X Y:List (Int×Int)} {q:Nat} {u c v d:Int} (hx:X[q]?=some (u,c)) (hy:Y[q]?=some (v,d)) :
  cmpL (X.drop q) (Y.drop q)=if AP u v≠0 then AP u v else if AP c d≠0 then AP c d else cmpL (X.drop (q+1)) (Y.drop (q+1)):=by
 obtain ⟨h1,e1⟩:=List.getElem?_eq_some_iff.1 hx;obtain ⟨h2,e2⟩:=List.getElem?_eq_some_iff.1 hy;rw[List.drop_eq_getElem_cons h1,List.drop_eq_getElem_cons h2,e1,e2,cmpL]
theorem QJ {X Y:List (Int×Int)} {q:Nat} (h1:X.length<=q) (h2:q<Y.length):cmpL (X.drop q) (Y.drop q)=-1:=by rw[List.drop_eq_nil_of_le h1,List.drop_eq_getElem_cons h2,cmpL]
theorem OI {X Y:List (Int×Int)} {q:Nat} (h1:Y.length<=q) (h2:q<X.length):cmpL (X.drop q) (Y.drop q)=1:=by rw[List.drop_eq_nil_of_le h1,List.drop_eq_getElem_cons h2,cmpL]
theorem QK {X Y:List (Int×Int)} {q:Nat} (h1:X.length<=q) (h2:Y.length<=q):cmpL (X.drop q) (Y.drop q)=0:=by rw[List.drop_eq_nil_of_le h1,List.drop_eq_nil_of_le h2,cmpL]
theorem Jg {a b:Int} (h:a<b):AP a b=-1:=by unfold AP;rw[if_pos h]
theorem Jh {a b:Int} (h:b<a):AP a b=1:=by unfold AP;rw[if_neg (by omega),if_pos h]
theorem P7 {a b:Int} (h:a=b):AP a b=0:=by unfold AP;rw[if_neg (by omega),if_neg (by omega)]
theorem QL (v u:Value) (L M:List (Int×Int)) (K KM:Int) (k:Nat) (w0:World) (hv:D9 w0 v L K k) (hu:D9 w0 u M KM k) (hle:L.length<=100000) (hme:M.length<=100000) (hk:k<=100000) :
   Calls Tryz.prog 134 #[v,u] w0 (fun e w'=>e=.returned (.int .i64 (Hl L M K KM))/\Below w0.heap.size w0 w'):=by
 have hv0:=hv;have hu0:=hu;obtain ⟨A,n,c,s,B,m,d,rfl,-⟩:=hv;obtain ⟨A2,n2,c2,s2,B2,m2,d2,rfl,-⟩:=hu;obtain ⟨z0,z1,z2,-⟩:=Bi 40 40 w0 #[.slice A n c,.bool s,.slice B m d] #[.slice A2 n2 c2,.bool s2,.slice B2 m2 d2];unfold Hl;have HNL:=Ac (Bz L);have HNM:=Ac (Bz M);go_enter Tryz.func134,Tryz.ntmps134;go_upto_region 1 with fail;generalize hW:((w0.alloc (.cells #[.slice A n c,.bool s,.slice B m d] 40)).alloc (.cells #[.slice A2 n2 c2,.bool s2,.slice B2 m2 d2] 40))=W0 at *
 clear hW;have HX:=Ac z0;have HY:=Ac z1;have HT:=Ac z2;have HA:=Ac (hv0.below z2);have HB:=Ac (hu0.below z2)
 have SOF:=Ac (show ∀W,Below W0.heap.size W0 W->(W.cell? ⟨w0.heap.size,0,none⟩=some (.slice A n c)/\W.cell? ⟨w0.heap.size,1,none⟩=some (.bool s)/\W.cell? ⟨w0.heap.size,2,none⟩=some (.slice B m d)/\W.cell? ⟨w0.heap.size+1,0,none⟩=some (.slice A2 n2 c2)/\W.cell? ⟨w0.heap.size+1,1,none⟩=some (.bool s2)/\W.cell? ⟨w0.heap.size+1,2,none⟩=some (.slice B2 m2 d2)) from fun W h=>⟨(HX.out.next h).c0,(HX.out.next h).c1,(HX.out.next h).c2,(HY.out.next h).c0,(HY.out.next h).c1,(HY.out.next h).c2⟩)
 clear z0 z1 z2 hv0 hu0
 have HOK:=Ac (show ∀ps0∈([⟨4,6,40,#[.slice none 0 0,.bool false,.slice none 0 0],fun cs w=>∃A n c s B m d,cs=#[.slice A n c,.bool s,.slice B m d]/\Aw w (.agg #[.slice A n c,.bool s,.slice B m d]) (norm L) K (k+L.length)⟩,⟨5,7,40,#[.slice none 0 0,.bool false,.slice none 0 0],fun cs w=>∃A n c s B m d,cs=#[.slice A n c,.bool s,.slice B m d]/\Aw w (.agg #[.slice A n c,.bool s,.slice B m d]) (norm M) KM (k+M.length)⟩]:List FA),∀cs w w',(KB) w w'->ps0.ok cs w->ps0.ok cs w' from fun ps0 hp cs w w' hT h=>by
   simp only[List.mem_cons,List.not_mem_nil,or_false]at hp;rcases hp with rfl|rfl
   · (dsimp only at h ⊢;obtain ⟨A,n,c,s,B,m,d,e,h⟩:=h;exact ⟨A,n,c,s,B,m,d,e,h.kb hT⟩)
   · (dsimp only at h ⊢;obtain ⟨A,n,c,s,B,m,d,e,h⟩:=h;exact ⟨A,n,c,s,B,m,d,e,h.kb hT⟩))
 refine AO (by kernel_rfl) (by kernel_rfl) (by kernel_rfl) (KB) (fun j v w=>match j with|0=>v=.agg #[.slice A n c,.bool s,.slice B m d]|1=>Aw w v (norm L) K (k+L.length)|2=>v=.agg #[.slice A2 n2 c2,.bool s2,.slice B2 m2 d2]|3=>Aw w v (norm M) KM (k+M.length)|4=>True|5=>True|6=>True|7=>True|_=>True) (GB W0 8 [⟨4,6,40,#[.slice none 0 0,.bool false,.slice none 0 0],fun cs w=>∃A n c s B m d,cs=#[.slice A n c,.bool s,.slice B m d]/\Aw w (.agg #[.slice A n c,.bool s,.slice B m d]) (norm L) K (k+L.length)⟩,⟨5,7,40,#[.slice none 0 0,.bool false,.slice none 0 0],fun cs w=>∃A n c s B m d,cs=#[.slice A n c,.bool s,.slice B m d]/\Aw w (.agg #[.slice A n c,.bool s,.slice B m d]) (norm M) KM (k+M.length)⟩]) ?_ (fun _=>GB.start (Ap W0 1)) ?_ ?_
 · intro j v w w' hT h;match j,h with
   |0,h=>exact h
   |1,h=>exact h.kb hT
   |2,h=>exact h
   |3,h=>exact h.kb hT
   |4,h=>trivial
   |5,h=>trivial
   |6,h=>trivial
   |7,h=>trivial
   |j+8,h=>trivial
 · refine ⟨?_,?_,?_,?_,?_,?_,?_,?_,trivial⟩
   · intro l9 σ w a hin hout hl hc hp hG hF;refine Ad.none rfl ?_;have e2:a.tmps.getD 2 undef=.pointer (some ⟨w0.heap.size,0,none⟩):=hout 2 (Ae (by kernel_rfl));have CC:=SOF.out w hG.2.1;obtain ⟨C0,C1,C2,D0,D1,D2⟩:=CC;refine Does.val (.agg #[.slice A n c,.bool s,.slice B m d]) (w':=w) ?_ ⟨KB.refl _,rfl,hG.keep HOK.out (by rfl) (Below.refl _ _) (KB.refl _)⟩;go_simp
   · intro l9 σ w a hin hout hl hc hp hG hF;refine Ad.none rfl ?_;have e11:a.tmps.getD 11 undef=.agg #[.slice A n c,.bool s,.slice B m d]:=Am (hin 0 11) rfl (hp ⟨0,.data⟩ (by simp) rfl) (hF 0);refine Does.call ?_ (DN _ L K k w (HA.out.below hG.2.1) (by omega) (by omega)) ?_
     · go_simp
     · rintro e w' ⟨v,rfl,z,hb⟩;exact ⟨_,rfl,KB.of_below hb,z,hG.keep HOK.out (by rfl) (hb) (KB.of_below hb)⟩
   · intro l9 σ w a hin hout hl hc hp hG hF;refine Ad.none rfl ?_;have e3:a.tmps.getD 3 undef=.pointer (some ⟨w0.heap.size+1,0,none⟩):=hout 3 (Ae (by kernel_rfl));have CC:=SOF.out w hG.2.1;obtain ⟨C0,C1,C2,D0,D1,D2⟩:=CC;refine Does.val (.agg #[.slice A2 n2 c2,.bool s2,.slice B2 m2 d2]) (w':=w) ?_ ⟨KB.refl _,rfl,hG.keep HOK.out (by rfl) (Below.refl _ _) (KB.refl _)⟩;go_simp
   · intro l9 σ w a hin hout hl hc hp hG hF;refine Ad.none rfl ?_;have e13:a.tmps.getD 13 undef=.agg #[.slice A2 n2 c2,.bool s2,.slice B2 m2 d2]:=Am (hin 2 13) rfl (hp ⟨2,.data⟩ (by simp) rfl) (hF 2);refine Does.call ?_ (DN _ M KM k w (HB.out.below hG.2.1) (by omega) (by omega)) ?_
     · go_simp
     · rintro e w' ⟨v,rfl,z,hb⟩;exact ⟨_,rfl,KB.of_below hb,z,hG.keep HOK.out (by rfl) (hb) (KB.of_below hb)⟩
   · intro l9 σ w a hin hout hl hc hp hG hF;refine Ad.none rfl ?_;refine Does.val (.pointer (some ⟨w.heap.size,0,none⟩)) (w':=w.alloc (.cells #[.slice none 0 0,.bool false,.slice none 0 0] 40)) ?_ ⟨KB.of_below (Af w _),trivial,hG.made HOK.out (by rfl) (List.Mem.head _) rfl (Ai (k:=6) hc hl (by kernel_rfl)) (fun q hq hqe=>by simp only[List.mem_cons,List.not_mem_nil,or_false]at hq;rcases hq with rfl|rfl<;>first|rfl|(simp at hqe)) (KB.of_below (Af w _))⟩
     go_simp
   · intro l9 σ w a hin hout hl hc hp hG hF;refine Ad.none rfl ?_;refine Does.val (.pointer (some ⟨w.heap.size,0,none⟩)) (w':=w.alloc (.cells #[.slice none 0 0,.bool false,.slice none 0 0] 40)) ?_ ⟨KB.of_below (Af w _),trivial,hG.made HOK.out (by rfl) (List.Mem.tail _ (List.Mem.head _)) rfl (Ai (k:=7) hc hl (by kernel_rfl)) (fun q hq hqe=>by simp only[List.mem_cons,List.not_mem_nil,or_false]at hq;rcases hq with rfl|rfl<;>first|rfl|(simp at hqe)) (KB.of_below (Af w _))⟩
     go_simp
   · intro l9 σ w a hin hout hl hc hp hG hF;refine Ad.none rfl ?_;obtain ⟨g4,cs4,eg4,hg4,xb4,hz4,-⟩:=GB.at_ hG (List.Mem.head _) (hp ⟨4,.data⟩ (by simp) rfl);have e5:=(hin 4 5 rfl (hp ⟨4,.data⟩ (by simp) rfl)).trans eg4;have e12:=hin 1 12 rfl (hp ⟨1,.data⟩ (by simp) rfl);have z1:=hF 1 (hp ⟨1,.data⟩ (by simp) rfl);have ez:=hz4 hl;subst ez;have xb:=xb4;obtain ⟨A8,n8,c8,s8,B8,m8,d8,ev8⟩:=Aw.form z1;rw[ev8]at e12 z1
     have hf:(fun cs w=>∃A n c s B m d,cs=#[.slice A n c,.bool s,.slice B m d]/\Aw w (.agg #[.slice A n c,.bool s,.slice B m d]) (norm L) K (k+L.length):Array Value->World->Prop) #[.slice A8 n8 c8,.bool s8,.slice B8 m8 d8] w:=⟨_,_,_,_,_,_,_,rfl,z1⟩;refine Does.store_box (T:=40) (cells:=#[.slice A8 n8 c8,.bool s8,.slice B8 m8 d8]) rfl e5 e12 xb (by kernel_rfl) rfl (by simp[Value.oneCell']) (fun w2 x9 o9=>?_);have t9:(KB) w w2:=KB.term xb o9
     exact ⟨t9,trivial,hG.filled HOK.out (by rfl) (List.Mem.head _) rfl (by decide) eg4 hg4 x9 o9 (HOK.out _ (List.Mem.head _) _ w w2 t9 hf) t9 (hp ⟨4,.data⟩ (by simp) rfl) (fun q hq hqe=>by simp only[List.mem_cons,List.not_mem_nil,or_false]at hq;rcases hq with rfl|rfl<;>first|rfl|(simp at hqe))⟩
   · intro l9 σ w a hin hout hl hc hp hG hF;refine Ad.none rfl ?_;obtain ⟨g5,cs5,eg5,hg5,xb5,hz5,-⟩:=GB.at_ hG (List.Mem.tail _ (List.Mem.head _)) (hp ⟨5,.data⟩ (by simp) rfl);have e6:=(hin 5 6 rfl (hp ⟨5,.data⟩ (by simp) rfl)).trans eg5;have e14:=hin 3 14 rfl (hp ⟨3,.data⟩ (by simp) rfl);have z3:=hF 3 (hp ⟨3,.data⟩ (by simp) rfl);have ez:=hz5 hl;subst ez;have xb:=xb5;obtain ⟨A8,n8,c8,s8,B8,m8,d8,ev8⟩:=Aw.form z3;rw[ev8]at e14 z3
     have hf:(fun cs w=>∃A n c s B m d,cs=#[.slice A n c,.bool s,.slice B m d]/\Aw w (.agg #[.slice A n c,.bool s,.slice B m d]) (norm M) KM (k+M.length):Array Value->World->Prop) #[.slice A8 n8 c8,.bool s8,.slice B8 m8 d8] w:=⟨_,_,_,_,_,_,_,rfl,z3⟩;refine Does.store_box (T:=40) (cells:=#[.slice A8 n8 c8,.bool s8,.slice B8 m8 d8]) rfl e6 e14 xb (by kernel_rfl) rfl (by simp[Value.oneCell']) (fun w2 x9 o9=>?_);have t9:(KB) w w2:=KB.term xb o9
     exact ⟨t9,trivial,hG.filled HOK.out (by rfl) (List.Mem.tail _ (List.Mem.head _)) rfl (by decide) eg5 hg5 x9 o9 (HOK.out _ (List.Mem.tail _ (List.Mem.head _)) _ w w2 t9 hf) t9 (hp ⟨5,.data⟩ (by simp) rfl) (fun q hq hqe=>by simp only[List.mem_cons,List.not_mem_nil,or_false]at hq;rcases hq with rfl|rfl<;>first|rfl|(simp at hqe))⟩
 · intro l9 σ W9 hall hG hF;rw[show mid _ σ l9 _=(Act.put (Act.put (Act.put (Act.put (Act.put (Act.put (Act.put (Act.put _ (some 11) (σ 0)) (some 12) (σ 1)) (some 13) (σ 2)) (some 14) (σ 3)) (some 5) (σ 4)) (some 6) (σ 5)) none (σ 6)) none (σ 7)) from (AU hall).trans rfl];obtain ⟨g4,cs4,eg4,hg4,xb4,-,hk4⟩:=GB.at_ hG (List.Mem.head _) (hall 4 (by decide));have hk4:=hk4 (hall 6 (by decide))
   obtain ⟨g5,cs5,eg5,hg5,xb5,-,hk5⟩:=GB.at_ hG (List.Mem.tail _ (List.Mem.head _)) (hall 5 (by decide));have hk5:=hk5 (hall 7 (by decide));have hne4_5:g4≠g5:=fun e=>hG.2.2.2 _ (List.Mem.head _) _ (List.Mem.tail _ (List.Mem.head _)) (show (4:Nat)≠5 by decide) (hall 4 (by decide)) (hall 5 (by decide)) (by rw[eg4,eg5,e])
   rw[show σ 4=_ from eg4];rw[show σ 5=_ from eg5];generalize σ 0=tt0;generalize σ 1=tt1;generalize σ 2=tt2;generalize σ 3=tt3;simp only[Act.put,List.setIfInBounds_toArray,List.set_cons_zero,List.set_cons_succ];have TG:=hG.2.1;clear hF hG hall eg4 eg5;clear σ;dsimp only at xb4 xb5
   obtain ⟨A5,n5,c5,s5,B5,m5,d5,rfl,r5⟩:=hk4;obtain ⟨A6,n6,c6,s6,B6,m6,d6,rfl,r6⟩:=hk5;have HT9:=Ac (HT.out.next TG);have X5:=Ac xb4;have X6:=Ac xb5;have R5:=Ac r5;have R6:=Ac r6;have HL5:=Ac (r5.opn.1.len);have HL6:=Ac (r6.opn.1.len);have h5:n5<=100000:=(by have:=HL5.out;have:=HNL.out;omega);have h6:n6<=100000:=(by have:=HL6.out;have:=HNM.out;omega);clear SOF TG xb4 xb5 r5 r6 HOK hg4 hg5 hne4_5;have x0:=X5.out.c0;have y0:=X6.out.c0;go_wp2_with fail
   have HE:=Ac (show cmpL (norm L) (norm M)=cmpL ((norm L).drop 0) ((norm M).drop 0) from rfl);have HBB:=Ac (Below.refl W9.heap.size W9);clear x0 y0;go_loopw [7] (fun i wr=>∃q:Nat,q<=n5/\q<=n6/\i=.int .i64 q/\Hid (cmpL (norm L) (norm M)=cmpL ((norm L).drop q) ((norm M).drop q))/\Hid (Below W9.heap.size W9 wr)) (fun i _=>n5-(intOf i).toNat)
   case atStart=>exact ⟨0,Nat.zero_le _,Nat.zero_le _,rfl,HE,HBB⟩
   case round=>
     obtain ⟨q,hq5,hq6,rfl,HEq,HBr⟩:=hrel;have x0:=(X5.out.next HBr.out).c0;have y0:=(X6.out.next HBr.out).c0;have x1:=(X5.out.next HBr.out).c1;have y1:=(X6.out.next HBr.out).c1;have x2:=(X5.out.next HBr.out).c2;have y2:=(X6.out.next HBr.out).c2;by_cases hqb:q<n5/\q<n6
     · obtain ⟨hq1,hq2⟩:=hqb;obtain ⟨xb0,xo,p,rfl,hltx,hLx,e0,e1,e2,hzx⟩:=((R5.out.opn.1.in_).below HBr.out).at_ hq1;obtain ⟨yb0,yo,r,rfl,hlty,hLy,f0,f1,f2,hzy⟩:=((R6.out.opn.1.in_).below HBr.out).at_ hq2;have HD:=Ac (QI hLx hLy);have HZX:=Ac hzx;have HZY:=Ac hzy
       have SOF:=Ac (show ∀W,Below wr.heap.size wr W->(W.cell? ⟨g4,0,none⟩=some (.slice (some ⟨xb0,xo,none⟩) n5 c5)/\W.cell? ⟨g5,0,none⟩=some (.slice (some ⟨yb0,yo,none⟩) n6 c6)/\W.cell? ⟨xb0,xo+q*3,none⟩=some (.int .i64 p.v)/\W.cell? ⟨xb0,xo+q*3+1,none⟩=some (.bool p.s)/\W.cell? ⟨xb0,xo+q*3+2,none⟩=some (.slice p.B p.m p.d)/\W.cell? ⟨yb0,yo+q*3,none⟩=some (.int .i64 r.v)/\W.cell? ⟨yb0,yo+q*3+1,none⟩=some (.bool r.s)/\W.cell? ⟨yb0,yo+q*3+2,none⟩=some (.slice r.B r.m r.d)) from fun W h=>⟨((X5.out.next HBr.out).next h).c0,((X6.out.next HBr.out).next h).c0,(h.cell (p:=⟨xb0,xo+q*3,none⟩) hltx).trans e0,(h.cell (p:=⟨xb0,xo+q*3+1,none⟩) hltx).trans e1,(h.cell (p:=⟨xb0,xo+q*3+2,none⟩) hltx).trans e2,(h.cell (p:=⟨yb0,yo+q*3,none⟩) hlty).trans f0,(h.cell (p:=⟨yb0,yo+q*3+1,none⟩) hlty).trans f1,(h.cell (p:=⟨yb0,yo+q*3+2,none⟩) hlty).trans f2⟩)
       clear hLx hLy e0 e1 e2 f0 f1 f2 hzx hzy;go_wp2_with fail;clear x0 y0 x1 y1 x2 y2;have HOK:=Ac (show ∀ps0∈([⟨10,12,47,#[.int .i64 0,.bool false,.slice none 0 0],fun cs _=>cs=#[.int .i64 p.v,.bool p.s,.slice p.B p.m p.d]⟩,⟨11,13,47,#[.int .i64 0,.bool false,.slice none 0 0],fun cs _=>cs=#[.int .i64 r.v,.bool r.s,.slice r.B r.m r.d]⟩]:List FA),∀cs w w',(fun _ _=>True) w w'->ps0.ok cs w->ps0.ok cs w' from fun ps0 hp cs w w' hT h=>by
         simp only[List.mem_cons,List.not_mem_nil,or_false]at hp;rcases hp with rfl|rfl
         · exact h
         · exact h)
       refine AO (by kernel_rfl) (by kernel_rfl) (by kernel_rfl) (fun _ _=>True) (fun j v w=>match j with|0=>v=.pointer (some ⟨g4,0,none⟩)|1=>v=.slice (some ⟨xb0,xo,none⟩) n5 c5|2=>v=.int .i64 (q:Int)|3=>v=.pointer (some ⟨xb0,xo+q*3,none⟩)|4=>v=.agg #[.int .i64 p.v,.bool p.s,.slice p.B p.m p.d]|5=>v=.pointer (some ⟨g5,0,none⟩)|6=>v=.slice (some ⟨yb0,yo,none⟩) n6 c6|7=>v=.int .i64 (q:Int)|8=>v=.pointer (some ⟨yb0,yo+q*3,none⟩)|9=>v=.agg #[.int .i64 r.v,.bool r.s,.slice r.B r.m r.d]|10=>True|11=>True|12=>True|13=>True|_=>True) (GB wr 14 [⟨10,12,47,#[.int .i64 0,.bool false,.slice none 0 0],fun cs _=>cs=#[.int .i64 p.v,.bool p.s,.slice p.B p.m p.d]⟩,⟨11,13,47,#[.int .i64 0,.bool false,.slice none 0 0],fun cs _=>cs=#[.int .i64 r.v,.bool r.s,.slice r.B r.m r.d]⟩]) ?_ (fun _=>GB.start (Ap wr 1)) ?_ ?_
       · intro j v w w' hT h;match j,h with
         |0,h=>exact h
         |1,h=>exact h
         |2,h=>exact h
         |3,h=>exact h
         |4,h=>exact h
         |5,h=>exact h
         |6,h=>exact h
         |7,h=>exact h
         |8,h=>exact h
         |9,h=>exact h
         |10,h=>trivial
         |11,h=>trivial
         |12,h=>trivial
         |13,h=>trivial
         |j+14,h=>trivial
       · refine ⟨?_,?_,?_,?_,?_,?_,?_,?_,?_,?_,?_,?_,?_,?_,trivial⟩
         · intro l9 σ w a hin hout hl hc hp hG hF;refine Ad.none rfl ?_;have e5:a.tmps.getD 5 undef=.pointer (some ⟨g4,0,none⟩):=hout 5 (Ae (by kernel_rfl));refine Does.val (.pointer (some ⟨g4,0,none⟩)) (w':=w) ?_ ⟨trivial,rfl,hG.keep HOK.out (by rfl) (Below.refl _ _) (trivial)⟩;simp only[Array.getD_eq_getD_getElem?]at e5;go_simp
         · intro l9 σ w a hin hout hl hc hp hG hF;refine Ad.none rfl ?_;have e29:a.tmps.getD 29 undef=.pointer (some ⟨g4,0,none⟩):=Am (hin 0 29) rfl (hp ⟨0,.data⟩ (by simp) rfl) (hF 0);have CC:=SOF.out w hG.2.1;obtain ⟨C0,D0,E0,E1,E2,F0,F1,F2⟩:=CC;refine Does.val (.slice (some ⟨xb0,xo,none⟩) n5 c5) (w':=w) ?_ ⟨trivial,rfl,hG.keep HOK.out (by rfl) (Below.refl _ _) (trivial)⟩;go_simp
         · intro l9 σ w a hin hout hl hc hp hG hF;refine Ad.none rfl ?_;have e7:a.tmps.getD 7 undef=.int .i64 (q:Int):=hout 7 (Ae (by kernel_rfl));refine Does.val (.int .i64 (q:Int)) (w':=w) ?_ ⟨trivial,rfl,hG.keep HOK.out (by rfl) (Below.refl _ _) (trivial)⟩;simp only[Array.getD_eq_getD_getElem?]at e7;go_simp
         · intro l9 σ w a hin hout hl hc hp hG hF;refine Ad.none rfl ?_;have e30:a.tmps.getD 30 undef=.slice (some ⟨xb0,xo,none⟩) n5 c5:=Am (hin 1 30) rfl (hp ⟨1,.data⟩ (by simp) rfl) (hF 1);have e31:a.tmps.getD 31 undef=.int .i64 (q:Int):=Am (hin 2 31) rfl (hp ⟨2,.data⟩ (by simp) rfl) (hF 2);refine Does.val (.pointer (some ⟨xb0,xo+q*3,none⟩)) (w':=w) ?_ ⟨trivial,rfl,hG.keep HOK.out (by rfl) (Below.refl _ _) (trivial)⟩
           simp only[Array.getD_eq_getD_getElem?]at e30 e31;go_simp;(try (intro hh;exfalso;omega))
         · intro l9 σ w a hin hout hl hc hp hG hF;refine Ad.none rfl ?_;have e32:a.tmps.getD 32 undef=.pointer (some ⟨xb0,xo+q*3,none⟩):=Am (hin 3 32) rfl (hp ⟨3,.data⟩ (by simp) rfl) (hF 3);have CC:=SOF.out w hG.2.1;obtain ⟨C0,D0,E0,E1,E2,F0,F1,F2⟩:=CC;refine Does.val (.agg #[.int .i64 p.v,.bool p.s,.slice p.B p.m p.d]) (w':=w) ?_ ⟨trivial,rfl,hG.keep HOK.out (by rfl) (Below.refl _ _) (trivial)⟩;go_simp
         · intro l9 σ w a hin hout hl hc hp hG hF;refine Ad.none rfl ?_;have e6:a.tmps.getD 6 undef=.pointer (some ⟨g5,0,none⟩):=hout 6 (Ae (by kernel_rfl));refine Does.val (.pointer (some ⟨g5,0,none⟩)) (w':=w) ?_ ⟨trivial,rfl,hG.keep HOK.out (by rfl) (Below.refl _ _) (trivial)⟩;simp only[Array.getD_eq_getD_getElem?]at e6;go_simp
         · intro l9 σ w a hin hout hl hc hp hG hF;refine Ad.none rfl ?_;have e34:a.tmps.getD 34 undef=.pointer (some ⟨g5,0,none⟩):=Am (hin 5 34) rfl (hp ⟨5,.data⟩ (by simp) rfl) (hF 5);have CC:=SOF.out w hG.2.1;obtain ⟨C0,D0,E0,E1,E2,F0,F1,F2⟩:=CC;refine Does.val (.slice (some ⟨yb0,yo,none⟩) n6 c6) (w':=w) ?_ ⟨trivial,rfl,hG.keep HOK.out (by rfl) (Below.refl _ _) (trivial)⟩;go_simp
         · intro l9 σ w a hin hout hl hc hp hG hF;refine Ad.none rfl ?_;have e7:a.tmps.getD 7 undef=.int .i64 (q:Int):=hout 7 (Ae (by kernel_rfl));refine Does.val (.int .i64 (q:Int)) (w':=w) ?_ ⟨trivial,rfl,hG.keep HOK.out (by rfl) (Below.refl _ _) (trivial)⟩;simp only[Array.getD_eq_getD_getElem?]at e7;go_simp
         · intro l9 σ w a hin hout hl hc hp hG hF;refine Ad.none rfl ?_;have e35:a.tmps.getD 35 undef=.slice (some ⟨yb0,yo,none⟩) n6 c6:=Am (hin 6 35) rfl (hp ⟨6,.data⟩ (by simp) rfl) (hF 6);have e36:a.tmps.getD 36 undef=.int .i64 (q:Int):=Am (hin 7 36) rfl (hp ⟨7,.data⟩ (by simp) rfl) (hF 7);refine Does.val (.pointer (some ⟨yb0,yo+q*3,none⟩)) (w':=w) ?_ ⟨trivial,rfl,hG.keep HOK.out (by rfl) (Below.refl _ _) (trivial)⟩
           simp only[Array.getD_eq_getD_getElem?]at e35 e36;go_simp;(try (intro hh;exfalso;omega))
         · intro l9 σ w a hin hout hl hc hp hG hF;refine Ad.none rfl ?_;have e37:a.tmps.getD 37 undef=.pointer (some ⟨yb0,yo+q*3,none⟩):=Am (hin 8 37) rfl (hp ⟨8,.data⟩ (by simp) rfl) (hF 8);have CC:=SOF.out w hG.2.1;obtain ⟨C0,D0,E0,E1,E2,F0,F1,F2⟩:=CC;refine Does.val (.agg #[.int .i64 r.v,.bool r.s,.slice r.B r.m r.d]) (w':=w) ?_ ⟨trivial,rfl,hG.keep HOK.out (by rfl) (Below.refl _ _) (trivial)⟩;go_simp
         · intro l9 σ w a hin hout hl hc hp hG hF;refine Ad.none rfl ?_;refine Does.val (.pointer (some ⟨w.heap.size,0,none⟩)) (w':=w.alloc (.cells #[.int .i64 0,.bool false,.slice none 0 0] 47)) ?_ ⟨trivial,trivial,hG.made HOK.out (by rfl) (List.Mem.head _) rfl (Ai (k:=12) hc hl (by kernel_rfl)) (fun q hq hqe=>by simp only[List.mem_cons,List.not_mem_nil,or_false]at hq;rcases hq with rfl|rfl<;>first|rfl|(simp at hqe)) (trivial)⟩
           go_simp
         · intro l9 σ w a hin hout hl hc hp hG hF;refine Ad.none rfl ?_;refine Does.val (.pointer (some ⟨w.heap.size,0,none⟩)) (w':=w.alloc (.cells #[.int .i64 0,.bool false,.slice none 0 0] 47)) ?_ ⟨trivial,trivial,hG.made HOK.out (by rfl) (List.Mem.tail _ (List.Mem.head _)) rfl (Ai (k:=13) hc hl (by kernel_rfl)) (fun q hq hqe=>by simp only[List.mem_cons,List.not_mem_nil,or_false]at hq;rcases hq with rfl|rfl<;>first|rfl|(simp at hqe)) (trivial)⟩
           go_simp
         · intro l9 σ w a hin hout hl hc hp hG hF;refine Ad.none rfl ?_;obtain ⟨g10,cs10,eg10,hg10,xb10,hz10,-⟩:=GB.at_ hG (List.Mem.head _) (hp ⟨10,.data⟩ (by simp) rfl);have e8:=(hin 10 8 rfl (hp ⟨10,.data⟩ (by simp) rfl)).trans eg10;have e33:a.tmps.getD 33 undef=.agg #[.int .i64 p.v,.bool p.s,.slice p.B p.m p.d]:=Am (hin 4 33) rfl (hp ⟨4,.data⟩ (by simp) rfl) (hF 4);have ez:=hz10 hl;subst ez;have xb:=xb10
           have hf:(#[.int .i64 p.v,.bool p.s,.slice p.B p.m p.d]:Array Value)=#[.int .i64 p.v,.bool p.s,.slice p.B p.m p.d]:=rfl;refine Does.store_box (T:=47) (cells:=#[.int .i64 p.v,.bool p.s,.slice p.B p.m p.d]) rfl e8 e33 xb (by kernel_rfl) rfl (by simp[Value.oneCell']) (fun w2 x9 o9=>?_);have t9:(fun _ _=>True) w w2:=trivial
           exact ⟨t9,trivial,hG.filled HOK.out (by rfl) (List.Mem.head _) rfl (by decide) eg10 hg10 x9 o9 (HOK.out _ (List.Mem.head _) _ w w2 t9 hf) t9 (hp ⟨10,.data⟩ (by simp) rfl) (fun q hq hqe=>by simp only[List.mem_cons,List.not_mem_nil,or_false]at hq;rcases hq with rfl|rfl<;>first|rfl|(simp at hqe))⟩
         · intro l9 σ w a hin hout hl hc hp hG hF;refine Ad.none rfl ?_;obtain ⟨g11,cs11,eg11,hg11,xb11,hz11,-⟩:=GB.at_ hG (List.Mem.tail _ (List.Mem.head _)) (hp ⟨11,.data⟩ (by simp) rfl);have e9:=(hin 11 9 rfl (hp ⟨11,.data⟩ (by simp) rfl)).trans eg11;have e38:a.tmps.getD 38 undef=.agg #[.int .i64 r.v,.bool r.s,.slice r.B r.m r.d]:=Am (hin 9 38) rfl (hp ⟨9,.data⟩ (by simp) rfl) (hF 9);have ez:=hz11 hl;subst ez;have xb:=xb11
           have hf:(#[.int .i64 r.v,.bool r.s,.slice r.B r.m r.d]:Array Value)=#[.int .i64 r.v,.bool r.s,.slice r.B r.m r.d]:=rfl;refine Does.store_box (T:=47) (cells:=#[.int .i64 r.v,.bool r.s,.slice r.B r.m r.d]) rfl e9 e38 xb (by kernel_rfl) rfl (by simp[Value.oneCell']) (fun w2 x9 o9=>?_);have t9:(fun _ _=>True) w w2:=trivial
           exact ⟨t9,trivial,hG.filled HOK.out (by rfl) (List.Mem.tail _ (List.Mem.head _)) rfl (by decide) eg11 hg11 x9 o9 (HOK.out _ (List.Mem.tail _ (List.Mem.head _)) _ w w2 t9 hf) t9 (hp ⟨11,.data⟩ (by simp) rfl) (fun q hq hqe=>by simp only[List.mem_cons,List.not_mem_nil,or_false]at hq;rcases hq with rfl|rfl<;>first|rfl|(simp at hqe))⟩
       · intro l9 σ W9 hall hG hF;rw[show mid _ σ l9 _=(Act.put (Act.put (Act.put (Act.put (Act.put (Act.put (Act.put (Act.put (Act.put (Act.put (Act.put (Act.put (Act.put (Act.put _ (some 29) (σ 0)) (some 30) (σ 1)) (some 31) (σ 2)) (some 32) (σ 3)) (some 33) (σ 4)) (some 34) (σ 5)) (some 35) (σ 6)) (some 36) (σ 7)) (some 37) (σ 8)) (some 38) (σ 9)) (some 8) (σ 10)) (some 9) (σ 11)) none (σ 12)) none (σ 13)) from (AU hall).trans rfl]
         obtain ⟨g10,cs10,eg10,hg10,xb10,-,hk10⟩:=GB.at_ hG (List.Mem.head _) (hall 10 (by decide));have hk10:=hk10 (hall 12 (by decide));obtain ⟨g11,cs11,eg11,hg11,xb11,-,hk11⟩:=GB.at_ hG (List.Mem.tail _ (List.Mem.head _)) (hall 11 (by decide));have hk11:=hk11 (hall 13 (by decide))
         have hne10_11:g10≠g11:=fun e=>hG.2.2.2 _ (List.Mem.head _) _ (List.Mem.tail _ (List.Mem.head _)) (show (10:Nat)≠11 by decide) (hall 10 (by decide)) (hall 11 (by decide)) (by rw[eg10,eg11,e])
         rw[show σ 10=_ from eg10];rw[show σ 11=_ from eg11];generalize σ 0=tt0;generalize σ 1=tt1;generalize σ 2=tt2;generalize σ 3=tt3;generalize σ 4=tt4;generalize σ 5=tt5;generalize σ 6=tt6;generalize σ 7=tt7;generalize σ 8=tt8;generalize σ 9=tt9;simp only[Act.put,List.setIfInBounds_toArray,List.set_cons_zero,List.set_cons_succ];have TG:=hG.2.1;clear hF hG hall eg10 eg11;clear σ;have hk10:=hk10;dsimp only at xb10 xb11
         have hcs:cs10=#[.int .i64 p.v,.bool p.s,.slice p.B p.m p.d]:=hk10;have hcs2:cs11=#[.int .i64 r.v,.bool r.s,.slice r.B r.m r.d]:=hk11;subst hcs hcs2;have HB9:=Ac (HBr.out.next TG);have HXP:=Ac xb10;have HXR:=Ac xb11;have u0:=xb10.c0;have v0:=xb11.c0;have HZ1:=Ac (HZX.out.below TG);have HZ2:=Ac (HZY.out.below TG);clear SOF HOK hk10 hk11 xb10 xb11 hg10 hg11 TG;rename World=>w9
         by_cases hlt:p.v<r.v
         · have HF:=Ac (show E4 (cmpL (norm L) (norm M)) (AP K KM)=-1 by rw[HEq.out,HD.out,if_pos (by rw[Jg hlt];decide),Jg hlt];rfl);go_wp2_with fail;go_ret
           exact ⟨by rw[HF.out]<;>rfl,HT9.out.next HB9.out⟩
         · by_cases hgt:r.v<p.v
           · have HF:=Ac (show E4 (cmpL (norm L) (norm M)) (AP K KM)=1 by rw[HEq.out,HD.out,if_pos (by rw[Jh hgt];decide),Jh hgt];rfl);go_wp2_with fail;go_ret
             exact ⟨by rw[HF.out]<;>rfl,HT9.out.next HB9.out⟩
           · have u1:=HXP.out.c1;have u2:=HXP.out.c2;have v1:=HXR.out.c1;have v2:=HXR.out.c2;have HV0:=Ac (P7 (show p.v=r.v by omega));have hcz:=CH (.agg #[.bool p.s,.slice p.B p.m p.d]) (.agg #[.bool r.s,.slice r.B r.m r.d]) p.Z r.Z (k+L.length+M.length) w9 (show BO w9 (.agg #[.bool p.s,.slice p.B p.m p.d]) p.Z _ from HZ1.out.mono (by omega)) (show BO w9 (.agg #[.bool r.s,.slice r.B r.m r.d]) r.Z _ from HZ2.out.mono (by omega)) (by omega);go_wp2_with fail
             refine hcz.mono ?_;rintro en w10 ⟨rfl,b10⟩;clear hcz u0 u1 u2 v0 v1 v2;rcases Int.lt_trichotomy p.Z r.Z with h|h|h
             · rw[Hi h];have HF:=Ac (show E4 (cmpL (norm L) (norm M)) (AP K KM)=-1 by rw[HEq.out,HD.out,if_neg (by rw[HV0.out];decide),if_pos (by rw[Jg h];decide),Jg h];rfl);clear h;go_wp2_with fail;go_ret
               exact ⟨by rw[HF.out]<;>rfl,HT9.out.next (HB9.out.next b10)⟩
             · have hs:BC p.Z r.Z=0:=(by rw[h];unfold BC;rw[if_neg (by omega),if_neg (by omega)]);rw[hs];have HE2:=Ac (show cmpL (norm L) (norm M)=cmpL ((norm L).drop (q+1)) ((norm M).drop (q+1)) by rw[HEq.out,HD.out,if_neg (by rw[HV0.out];decide),if_neg (by rw[P7 h];decide)]);clear h hs;go_wp2_with fail;go_roundw
               case rel=>exact ⟨q+1,by omega,by omega,by go_num,HE2,Ac (HB9.out.next b10)⟩
               case measure=>simp[intOf]<;>omega
             · rw[Hj h];have HF:=Ac (show E4 (cmpL (norm L) (norm M)) (AP K KM)=1 by rw[HEq.out,HD.out,if_neg (by rw[HV0.out];decide),if_pos (by rw[Jh h];decide),Jh h];rfl);clear h;go_wp2_with fail;go_ret
               exact ⟨by rw[HF.out]<;>rfl,HT9.out.next (HB9.out.next b10)⟩
     · rcases Nat.lt_trichotomy n5 n6 with h|h|h
       · have hq:q=n5:=(by omega);have HF:=Ac (show E4 (cmpL (norm L) (norm M)) (AP K KM)=-1 by rw[HEq.out,QJ (by rw[HL5.out];omega) (by rw[HL6.out];omega)];rfl);subst hq;go_wp2_with fail;go_ret
         exact ⟨by rw[HF.out]<;>rfl,HT9.out.next HBr.out⟩
       · have hq:q=n5:=(by omega);have HF:=Ac (show E4 (cmpL (norm L) (norm M)) (AP K KM)=AP K KM by rw[HEq.out,QK (by rw[HL5.out];omega) (by rw[HL6.out];omega)];rfl);have hcz:=CH (.agg #[.bool s5,.slice B5 m5 d5]) (.agg #[.bool s6,.slice B6 m6 d6]) K KM (k+L.length+M.length) wr ((R5.out.opn.2.2.2.in_.below HBr.out).mono (by omega)) ((R6.out.opn.2.2.2.in_.below HBr.out).mono (by omega)) (by omega);subst hq;go_wp2_with fail;refine hcz.mono ?_;rintro en w10 ⟨rfl,b10⟩
         go_wp2_with fail;go_ret
         exact ⟨by rw[HF.out]<;>rfl,HT9.out.next (HBr.out.next b10)⟩
       · have hq:q=n6:=(by omega);have HF:=Ac (show E4 (cmpL (norm L) (norm M)) (AP K KM)=1 by rw[HEq.out,OI (by rw[HL6.out];omega) (by rw[HL5.out];omega)];rfl);subst hq;go_wp2_with fail;go_ret
         exact ⟨by rw[HF.out]<;>rfl,HT9.out.next HBr.out⟩
theorem QM (v u:Value) (L M:List (Int×Int)) (K KM:Int) (f1 f2:Bool) (k:Nat) (w0:World) (hv:Qr w0 v L K f1 k) (hu:Qr w0 u M KM f2 k) (hle:L.length<=100000) (hme:M.length<=100000) (hk:k<=100000) :
   Calls Tryz.prog 85 #[v,u] w0 (fun e w'=>e=.returned (.int .i64 (O3 L M K KM f1 f2))/\Below w0.heap.size w0 w'):=by
 obtain ⟨A,n,c,s,B,m,d,rfl,ht⟩:=hv;obtain ⟨A2,n2,c2,s2,B2,m2,d2,rfl,hu1⟩:=hu;obtain ⟨z0,z1,z2,-⟩:=Bi 42 42 w0 #[.slice A n c,.bool s,.slice B m d,.bool f1] #[.slice A2 n2 c2,.bool s2,.slice B2 m2 d2,.bool f2];have hc:=QL _ _ L M K KM k _ (ht.below z2) (hu1.below z2) hle hme hk;unfold O3;generalize Hl L M K KM=cz at hc ⊢;have x0:=z0.r0;have x1:=z0.r1;have x2:=z0.r2;have y0:=z1.r0;have y1:=z1.r1;have y2:=z1.r2;go_enter Tryz.func85,Tryz.ntmps85;go_wp2_with fail;refine hc.mono ?_
 rintro e w1 ⟨rfl,b1⟩;have x3:=(z0.next b1).r3;have y3:=(z1.next b1).r3;have HT:=Ac (z2.next b1);clear hc x0 x1 x2 y0 y1 y2 z0 z1 z2 b1;by_cases h:cz=0
 · subst h;cases f1<;>cases f2<;>(go_wp2_with fail;go_ret;exact ⟨rfl,HT.out⟩)
 · have HE:=Ac (show ∀x,E4 cz x=cz from fun x=>by unfold E4;rw[if_pos h]);have hb:(cz != 0)=true:=(by simpa using h);go_wp2_with fail;go_ret
   exact ⟨by rw[HE.out]<;>rfl,HT.out⟩
end
end Go.Proofs.YtmedjkhmadfjlaaGreat
