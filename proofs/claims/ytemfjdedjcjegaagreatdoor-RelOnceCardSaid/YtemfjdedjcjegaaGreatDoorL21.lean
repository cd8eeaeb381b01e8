/- Texts of one seat, put together: First TermsIn PutAll. -/
import Derived.Test.YtemfjdedjcjegaaGreatDoorL15
import Derived.Test.YtemfjdedjcjegaaGreatDoorL17
import Derived.Maps.OwnSet
import Derived.Test.YtemfjdedjcjegaaGreatDoorL11
set_option linter.unusedVariables false
set_option linter.unusedSimpArgs false
set_option maxRecDepth 100000
set_option maxHeartbeats 16000000
namespace Go.Proofs.YtemfjdedjcjegaaGreatDoor
section
open Go.RowKit Go.Maps
open Tm
theorem GH:Keyed Tryz.prog 3:=int_keyed Tryz.underlying3
theorem Gy (w:World):(zeroValue 3).run Tryz.prog w=.ok (.int .i64 0) w:=by kernel_rfl
theorem GI (n:Int) (w:World):(Instr.makeMap 128 (some (.int .i64 n))).run Tryz.prog w=.ok (.map (some w.heap.size)) (w.alloc (.map #[] 0)):=by simp[Instr.makeMap,run_underlying Tryz.underlying128,asInt,asIntOf,Result.andThen]
theorem Nr {x:Int} (h1:-9223372036854775808<=x) (h2:x<=9223372036854775807):(Lit.int .i64 x).wf=true:=WalkArith.wf_i64 ⟨by omega,by omega⟩
def Et (w:World) (b n:Nat) (f:Int->Option Nat):Prop:=
 ∃D:DataW Unit,w.ownsMap Tryz.prog 3 (plainElem Tryz.prog 3) b n D/\IsMap D/\∀x,Maps.has D (.int .i64 x)=(f x).isSome/\∀i z,f x=some i->D.atKey (.int .i64 x) z=.lit (.int .i64 i)
theorem Et.lt {w:World} {b n:Nat} {f:Int->Option Nat} (h:Et w b n f):b<w.heap.size:=by obtain ⟨D,h1,-⟩:=h;exact h1.lt
theorem Et.below {w w':World} {b n:Nat} {f:Int->Option Nat} (h:Et w b n f) (hb:Below w.heap.size w w'):Et w' b n f:=by obtain ⟨D,⟨es,clock,h1,h2⟩,h3⟩:=h;exact ⟨D,⟨es,clock,(hb.block b (by rcases Nat.lt_or_ge b w.heap.size with h'|h';exact h';simp[Array.getElem?_eq_none h']at h1)).trans h1,h2⟩,h3⟩
theorem Et.mono {w:World} {b n m:Nat} {f:Int->Option Nat} (h:Et w b n f) (hm:n<=m):Et w b m f:=by obtain ⟨D,h1,h2⟩:=h;exact ⟨D,h1.mono hm,h2⟩
theorem Et.congr {w:World} {b n:Nat} {f g:Int->Option Nat} (h:Et w b n f) (e:∀x,f x=g x):Et w b n g:=by obtain rfl:f=g:=funext e;exact h
theorem Et.start (w:World):Et (w.alloc (.map #[] 0)) w.heap.size 0 (fun _=>none):=
 ⟨.map [],World.ownsMap_made _ _ _ _,isMap_empty,fun x=>⟨rfl,fun i z h=>by cases h⟩⟩
theorem QQ {w w':World} {b n i:Nat} {f:Int->Option Nat} {x:Int} {D:DataW Unit} (h0:IsMap D) (h1:∀x,Maps.has D (.int .i64 x)=(f x).isSome/\∀i z,f x=some i->D.atKey (.int .i64 x) z=.lit (.int .i64 i))
   (h:w'.ownsMap Tryz.prog 3 (plainElem Tryz.prog 3) b n (D.put (.int .i64 x) (.lit (.int .i64 i)))):Et w' b n (fun y=>if y=x then some i else f y):=by
 have hk:WideAt.IsKeyLit (.int .i64 x):=trivial;refine ⟨_,h,h0.put _ _,fun y=>?_⟩;dsimp only
 by_cases hy:y=x
 · subst hy;rw[has_put_same h0 hk,if_pos rfl];refine ⟨rfl,fun j z hj=>?_⟩;injection hj with hj
   subst hj;exact atKey_put_same h0 hk _ _
 · have hne:(Lit.int .i64 y)≠(Lit.int .i64 x):=fun e=>hy (by injection e)
   rw[has_put_other hne,if_neg hy];refine ⟨(h1 y).1,fun j z hj=>?_⟩;rw[atKey_put_other hne];exact (h1 y).2 j z hj
def Kb (vs:List Int) (w:World) (e:Ending) (w':World):Prop:=∃b,e=.returned (.map (some b))/\Et w' b vs.length (fun x=>AD x vs)/\Below w.heap.size w w'
def Gz (w0:World) (vs:List Int) (q:Nat) (wr:World):Prop:=Et wr w0.heap.size q (fun x=>AD x (vs.take q))/\Below w0.heap.size w0 wr
theorem Hl {vs:List Int} {q:Nat} {v:Int} (h:vs[q]?=some v) (x:Int):AD x (vs.take (q+1))=match AD x (vs.take q) with|some i=>some i|none=>if v=x then some q else none:=by have hq:q<vs.length:=(List.getElem?_eq_some_iff.1 h).1;rw[List.take_add_one,h];show AD x (vs.take q++[v])=_;rw[KG,List.length_take,Nat.min_eq_left (Nat.le_of_lt hq)];cases AD x (vs.take q)<;>rfl
theorem Hm (A:Option Addr) (n c:Nat) (vs:List Int) (w0:World) (hx:EX w0 A n vs) (hn:n<=1099511627) (hwf:∀v∈vs,-9223372036854775808<=v/\v<=9223372036854775807):Calls Tryz.prog 84 #[.slice A n c] w0 (Kb vs w0):=by
 have hmm:=GI;have y1:=Ae w0 (.map #[] 0);have HS:=Ad (show Gz w0 vs 0 (w0.alloc (.map #[] 0)) from ⟨(Et.start w0).congr (fun x=>by simp[AD]),y1⟩);have HX:=Ad hx;have HWF:=Ad hwf;clear y1 hx hwf;go_enter Tryz.func84,Tryz.ntmps84;go_wp2_with fail;go_loopw [13] (fun i wr=>∃q:Nat,q<=n/\i=.int .i64 q/\Hid (Gz w0 vs q wr)) (fun i _=>n-(intOf i).toNat)
 case atStart=>exact ⟨0,Nat.zero_le _,rfl,HS⟩
 case round=>
  obtain ⟨q,hq,rfl,HR⟩:=hrel;obtain ⟨hM,hB⟩:=HR.out;by_cases hqn:q<n
  · obtain ⟨bb,o,v,rfl,hlt,hvq,c0⟩:=(HX.out.below hB).at_ hqn;obtain ⟨hw1,hw2⟩:=HWF.out v (List.mem_of_getElem? hvq);have hkey:=keyOf_int_mk Tryz.underlying3 (Nr hw1 hw2);obtain ⟨D,hown,h0,h1⟩:=hM;have HH:=Ad h1;have H0:=Ad h0;have HS:=Ad (Hl hvq);have HB:=Ad hB;have hsz:=hB.size;cases hf:AD v (vs.take q) with
    |some i=>
     have hhas:Maps.has D (.int .i64 v)=true:=(by have:=(h1 v).1;dsimp only at this;rw[this,hf];rfl);have HE:=Ad (show Gz w0 vs (q+1) wr from ⟨(show Et wr w0.heap.size q (fun x=>AD x (vs.take q)) from ⟨D,hown,h0,h1⟩).mono (Nat.le_succ q) |>.congr (fun x=>by
      rw[HS.out x];cases hx:AD x (vs.take q) with
      |some j=>rfl
      |none=>
        by_cases hvx:v=x
        · subst hvx;rw[hf]at hx;cases hx
        · simp[hvx]),hB⟩)
     clear h1 h0 hf hvq HR hB hw1 hw2;go_wp2_with (at_lookup;refine wpList_lookup_own_ok_int _ rfl _ _ 128 rfl 3 3 .i64 GH Tryz.underlying128 Tryz.underlying3 (Gy _) w0.heap.size q D rfl hown _ _ rfl hkey ?_;intro c hat hwc;clear hat hwc);go_roundw
     case rel=>exact ⟨q+1,by omega,by go_num,HE⟩
     case measure=>simp[intOf]<;>omega
    |none=>
     have hhas:Maps.has D (.int .i64 v)=false:=(by have:=(h1 v).1;dsimp only at this;rw[this,hf];rfl);have HE:=Ad (show ∀w1,w1.ownsMap Tryz.prog 3 (plainElem Tryz.prog 3) w0.heap.size (q+1) (D.put (.int .i64 v) (.lit (.int .i64 (q:Nat))))->wr.grownBy w1 (some w0.heap.size)->Gz w0 vs (q+1) w1 from fun w1 h2 g2=>⟨(QQ (w:=wr) h0 h1 h2).congr (fun x=>by
      rw[HS.out x];by_cases hvx:x=v
      · subst hvx;rw[if_pos rfl,hf];simp
      · rw[if_neg hvx];cases hx:AD x (vs.take q) with
        |some j=>rfl
        |none=>simp[Ne.symm hvx]),hB.trans (Ao.below (g:=w0.heap.size) g2 hsz (Nat.le_refl _))⟩)
     have hwq:(Lit.int .i64 (q:Int)).wf=true:=Nr (by omega) (by omega);clear h1 h0 hf hvq HR hB hw1 hw2;go_wp2_with (first
      |(at_lookup;refine wpList_lookup_own_ok_int _ rfl _ _ 128 rfl 3 3 .i64 GH Tryz.underlying128 Tryz.underlying3 (Gy _) w0.heap.size q D rfl hown _ _ rfl hkey ?_;intro c hat hwc;clear hat hwc)
      |(at_mapUpdate;refine wpList_mapUpdate_own _ rfl _ _ _ 128 rfl 3 3 GH Tryz.underlying128 _ w0.heap.size q D rfl hown (by unfold maxLen;omega) _ _ _ rfl rfl hkey _ [] (plainElem_int Tryz.underlying3 hwq) ?_;intro w1 hown1 hgrow1;have HE1:=Ad (HE.out w1 hown1 hgrow1);clear hown1 hgrow1))
     go_roundw
     case rel=>exact ⟨q+1,by omega,by go_num,HE1⟩
     case measure=>simp[intOf]<;>omega
  · obtain rfl:q=n:=(by omega);have HE:=Ad (show Kb vs w0 (.returned (.map (some w0.heap.size))) wr from ⟨w0.heap.size,rfl,by rw[HX.out.1];exact hM.congr (fun x=>by rw[List.take_of_length_le (by rw[HX.out.1];exact Nat.le_refl _)]),hB⟩);clear hM hB HR;go_wp2_with fail;go_ret
    exact HE.out
end
section
open Go.RowKit
structure TV where
 A:Option Addr
 n:Nat
 c:Nat
 s:Bool
 B:Option Addr
 m:Nat
 d:Nat
 L:List (Int×Int)
 K:Int
def TV.cells (t:TV):List Value:=[.slice t.A t.n t.c,.bool t.s,.slice t.B t.m t.d]
def TV.agg (t:TV):Value:=.agg #[.slice t.A t.n t.c,.bool t.s,.slice t.B t.m t.d]
def IL (ts:List TV):List Value:=(ts.map TV.cells).flatten
theorem Ns (t:TV) (ts:List TV):IL (t::ts)=t.cells++IL ts:=rfl
theorem Ph (ts:List TV) (i:Nat) (t:TV) (h:ts[i]?=some t):(IL ts)[3*i]?=some (.slice t.A t.n t.c)/\(IL ts)[3*i+1]?=some (.bool t.s)/\(IL ts)[3*i+2]?=some (.slice t.B t.m t.d):=by
 induction ts generalizing i with
 |nil=>simp at h
 |cons q ts ih=>
  rw[Ns];cases i with
  |zero=>
   simp at h;subst h;exact ⟨rfl,rfl,rfl⟩
  |succ i=> have h2:=ih i (by simpa using h);have hl:q.cells.length=3:=rfl;rw[show 3*(i+1)=q.cells.length+3*i by rw[hl];omega,show q.cells.length+3*i+1=q.cells.length+(3*i+1) by omega,show q.cells.length+3*i+2=q.cells.length+(3*i+2) by omega,List.getElem?_append_right (by omega),List.getElem?_append_right (by omega),List.getElem?_append_right (by omega)];simpa using h2
def Ce (w:World) (A:Option Addr) (n:Nat) (ts:List TV) (k:Nat):Prop:=
 ts.length=n/\(0<n->∃b o,A=some ⟨b,o,none⟩/\∀j u,(IL ts)[j]?=some u->w.cell? ⟨b,o+j,none⟩=some u)/\∀t∈ts,Dw w t.agg t.L t.K k
theorem Ce.below {w w':World} {A:Option Addr} {n k:Nat} {ts:List TV} (h:Ce w A n ts k) (hb:Below w.heap.size w w'):Ce w' A n ts k:=by refine ⟨h.1,fun hn=>?_,fun p hp=>(h.2.2 p hp).below hb⟩;obtain ⟨b,o,e,hc⟩:=h.2.1 hn;refine ⟨b,o,e,fun j u hu=>?_⟩;have h1:=hc j u hu;have hlt:=World.block_lt_of_cell? w _ h1;exact (World.cell?_of_block (w:=w) (a:=⟨b,o+j,none⟩) (hb.block b hlt)).trans h1
theorem Ce.at_ {w:World} {A:Option Addr} {n k i:Nat} {ts:List TV} (h:Ce w A n ts k) (hi:i<n):∃b o t,A=some ⟨b,o,none⟩/\ts[i]?=some t/\w.cell? ⟨b,o+i*3,none⟩=some (.slice t.A t.n t.c)/\w.cell? ⟨b,o+i*3+1,none⟩=some (.bool t.s)/\w.cell? ⟨b,o+i*3+2,none⟩=some (.slice t.B t.m t.d)/\Dw w t.agg t.L t.K k:=by
 obtain ⟨b,o,e,hc⟩:=h.2.1 (by omega);have hl:i<ts.length:=by rw[h.1];exact hi
 obtain ⟨g0,g1,g2⟩:=Ph ts i ts[i] (List.getElem?_eq_getElem hl);refine ⟨b,o,ts[i],e,List.getElem?_eq_getElem hl,?_,?_,?_,h.2.2 _ (List.getElem_mem hl)⟩
 · rw[show o+i*3=o+3*i by omega];exact hc _ _ g0
 · rw[show o+i*3+1=o+(3*i+1) by omega];exact hc _ _ g1
 · rw[show o+i*3+2=o+(3*i+2) by omega];exact hc _ _ g2
theorem Ce.box {T:TypeId} {w:World} {g k:Nat} {ts:List TV} (h:Aw T w g (IL ts).toArray) (hk:∀t∈ts,Dw w t.agg t.L t.K k):Ce w (some ⟨g,0,none⟩) ts.length ts k:=
 ⟨rfl,fun _=>⟨g,0,rfl,fun j u hu=>by rw[Nat.zero_add];exact h.cell j u (by simpa using hu)⟩,hk⟩
theorem BF.cut {w:World} {s:Bool} {A:Option Addr} {n c k j:Nat} {Z:Int} (h:BF w (.agg #[.bool s,.slice A n c]) Z k) (hn:n<=j):BF w (.agg #[.bool s,.slice A n c]) Z j:=by
 obtain ⟨s',A',n',c',xs,e,h1,h2,h3,h4,h5⟩:=h;injection e with e
 have e1:s'=s/\A'=A/\n'=n/\c'=c:=by simpa[eq_comm] using e
 obtain ⟨rfl,rfl,rfl,rfl⟩:=e1;exact ⟨_,_,_,_,xs,rfl,h1,h2,h3,hn,h5⟩
theorem BF.bounds {w:World} {s:Bool} {A:Option Addr} {n c k:Nat} {Z:Int} (h:BF w (.agg #[.bool s,.slice A n c]) Z k):n<=9223372036854775807:=by
 obtain ⟨s',A',n',c',xs,e,h1,h2,h3,h4,h5⟩:=h;injection e with e
 have e1:s'=s/\A'=A/\n'=n/\c'=c:=by simpa[eq_comm] using e
 obtain ⟨rfl,rfl,rfl,rfl⟩:=e1;omega
def U1 (w:World) (t:TV):Prop:=t.n<=30/\Dw w t.agg t.L t.K 20
def Ug (ts:List TV) (w:World) (e:Ending) (w':World):Prop:=∃r,e=.returned (.bool r)/\(r=true->∀t∈ts,U1 w t)/\Below w.heap.size w w'
end
section
open Go.RowKit Go.Maps
open Tm
theorem Et.only {w w':World} {b n g:Nat} {f:Int->Option Nat} (h:Et w b n f) (ho:Ao g w w') (hne:b≠g):Et w' b n f:=by have hlt:=h.lt;obtain ⟨D,⟨es,clock,h1,h2⟩,h3⟩:=h;exact ⟨D,⟨es,clock,(ho.gb.block b hlt (fun e=>hne (by injection e))).trans h1,h2⟩,h3⟩
theorem QR {D:DataW Unit} {x c:Int} {i:Nat} (h:D.atKey (.int .i64 x) (.lit (.int .i64 0))=.lit (.int .i64 c)) (h1:∀z,D.atKey (.int .i64 x) z=.lit (.int .i64 i)):c=(i:Int):=by
 rw[h1]at h;injection h with h
 injection h with _ h
 exact h.symm
def BM (ts:List TV):List (List (Int×Int)×Int):=ts.map fun t=>(t.L,t.K)
theorem Pi (ts:List TV) (i:Nat) (t:TV) (d:List (Int×Int)×Int) (h:ts[i]?=some t):(BM ts).getD i d=(t.L,t.K):=by unfold BM;rw[List.getD_eq_getElem?_getD,List.getElem?_map,h];rfl
theorem Pj (ts:List TV) (i:Nat) (d:List (Int×Int)×Int) (h:ts.length<=i):(BM ts).getD i d=d:=by unfold BM;rw[List.getD_eq_getElem?_getD,List.getElem?_eq_none (by rw[List.length_map];exact h)];rfl
theorem Nt {vs:List Int} {ts:List (List (Int×Int)×Int)} {v:Int} (h:AD v vs=none):place vs ts v=([(v,1)],0):=by unfold place;rw[h]
theorem Pk {vs:List Int} {ts:List TV} {v:Int} {i:Nat} (h:AD v vs=some i) (hi:ts.length<=i):place vs (BM ts) v=([(v,1)],0):=by unfold place;rw[h];exact Pj ts i _ hi
theorem QS {vs:List Int} {ts:List TV} {v:Int} {i:Nat} {t:TV} (h:AD v vs=some i) (hi:ts[i]?=some t):place vs (BM ts) v=(t.L,t.K):=by unfold place;rw[h];exact Pi ts i t _ hi
theorem IM (vs:List Int) (ts:List (List (Int×Int)×Int)) (L:List (Int×Int)) (q:Nat) (u c:Int) (h:L[q]?=some (u,c)):DY vs ts (L.take (q+1))=DY vs ts (L.take q)++((place vs ts u).1.map fun r=>(r.1,c*r.2)):=by rw[List.take_add_one,h,LV];simp[DY]
theorem IP (vs:List Int) (ts:List (List (Int×Int)×Int)) (L:List (Int×Int)) (q:Nat) (u c:Int) (h:L[q]?=some (u,c)):Dq vs ts (L.take (q+1))=Dq vs ts (L.take q)+c*(place vs ts u).2:=by rw[List.take_add_one,h,LW];simp[Dq]
theorem IQ {L:List (Int×Int)} {b:Int} (h:∀p∈L,p.1<=b):∀p∈norm L,0<=p.1/\p.1<=b:=by intro p hp;have h1:p.1∈vars L:=List.mem_map.2 ⟨p,hp,rfl⟩;have h2:=(RL L).gt p.1 h1;obtain ⟨q,hq,e⟩:=List.mem_map.1 (LE L p.1 ((Q7 L p.1).1 h1));have h3:=h q hq;omega
theorem An.opened {w:World} {A B:Option Addr} {n c m d k:Nat} {s:Bool} {L:List (Int×Int)} {K:Int} (h:An w (.agg #[.slice A n c,.bool s,.slice B m d]) L K k):Cv w A n L k/\n<=c/\c<=9223372036854775807/\Au w (.agg #[.bool s,.slice B m d]) K k:=by
 obtain ⟨A',n',c',s',B',m',d',e,h1,h2,h3,h4⟩:=h;have e2:A'=A/\n'=n/\c'=c/\s'=s/\B'=B/\m'=m/\d'=d:=by simpa[eq_comm,and_assoc] using e
 obtain ⟨rfl,rfl,rfl,rfl,rfl,rfl,rfl⟩:=e2;exact ⟨h1,h2,h3,h4⟩
def Fv (W2:World) (g:Nat) (R:List (Int×Int)) (K:Int) (kk q:Nat) (wr:World):Prop:=
 ∃(rs:List PV) (A:Option Addr) (c:Nat) (s:Bool) (B:Option Addr) (m d:Nat),Aw 33 wr g #[.slice A rs.length c,.bool s,.slice B m d]/\Az 59 3 wr W2.heap.size (.slice A rs.length c) rs.length (flat rs) /\
  (∀v,AF (Ca rs) v=AF R v)/\(∀p∈rs,BF wr p.num p.Z kk)/\BF wr (.agg #[.bool s,.slice B m d]) K (kk+q)/\Ao g W2 wr/\rs.length<=1000*q
theorem Hx {W2 W w:World} {g l c m d:Nat} {A B:Option Addr} {s:Bool} {rs qs:List PV} {v':Value} (xg:Aw 33 W g #[.slice A l c,.bool s,.slice B m d]) (lr:Az 59 3 W W2.heap.size (.slice A l c) rs.length (flat rs)) (oW:Ao g W2 W)
  (l2:Az 59 3 w W2.heap.size v' (rs++qs).length (flat (rs++qs))) (g1:W.grownBy w (Value.slice A l c).ownBlock) :
  ∃A2 c2,v'=.slice A2 (rs++qs).length c2/\Aw 33 w g #[.slice A l c,.bool s,.slice B m d]/\Kp W w/\Ao g W2 w /\
   Aw 33 (w.setCell ⟨g,0,none⟩ (.slice A2 (rs++qs).length c2)) g #[.slice A2 (rs++qs).length c2,.bool s,.slice B m d]/\Az 59 3 (w.setCell ⟨g,0,none⟩ (.slice A2 (rs++qs).length c2)) W2.heap.size (.slice A2 (rs++qs).length c2) (rs++qs).length (flat (rs++qs)) /\
   Kp W (w.setCell ⟨g,0,none⟩ (.slice A2 (rs++qs).length c2))/\Ao g W2 (w.setCell ⟨g,0,none⟩ (.slice A2 (rs++qs).length c2)):=by
 obtain ⟨A2,c2,rfl,-,-,-⟩:=l2.len;have hne:some g≠(Value.slice A l c).ownBlock:=fun e=>lr.offTerm xg e.symm
 have x9:=xg.grown g1 hne;have o9:=CK w g 0 (.slice A2 (rs++qs).length c2);have hk:=x9.kp (QB _ _ _ _ _ _ _) o9;have hkp:=lr.kp g1;have oW9:Ao g W2 w:=⟨g1.os.trans oW.os,g1.tape.trans oW.tape,g1.output.trans oW.output,Nat.le_trans oW.size g1.size,fun b hb hbn=> (g1.block b (Nat.lt_of_lt_of_le hb oW.size) (fun e=>by have:=(lr.lt b e.symm).1;omega)).trans (oW.block b hb hbn)⟩
 exact ⟨A2,c2,rfl,x9,hkp,oW9,x9.set_0 _,l2.onlyTerm x9 o9,hkp.trans hk,oW9.trans o9⟩
theorem Aw.set_12 {T:TypeId} {w:World} {g:Nat} {x y z:Value} (h:Aw T w g #[x,y,z]) (y' z':Value):Aw T ((w.setCell ⟨g,1,none⟩ y').setCell ⟨g,2,none⟩ z') g #[x,y',z']:=by unfold Aw at h ⊢;simp[World.setCell,Array.getElem?_modify,h]
theorem Nu (w:World) (g:Nat) (y z:Value):Ao g w ((w.setCell ⟨g,1,none⟩ y).setCell ⟨g,2,none⟩ z):=((Ao.refl g w).setCell 1 y).setCell 2 z
theorem World.size_alloc2 (w:World) (p:PV):w.heap.size<=(w.alloc (.cells #[.int .i64 p.v,.bool p.s,.slice p.B p.m p.d] 59)).heap.size/\(w.alloc (.cells #[.int .i64 p.v,.bool p.s,.slice p.B p.m p.d] 59)).heap.size<=((w.alloc (.cells #[.int .i64 p.v,.bool p.s,.slice p.B p.m p.d] 59)).alloc (.cells #[.int .i64 p.v,.bool p.s,.slice p.B p.m p.d] 59)).heap.size:=by refine ⟨by rw[size_alloc];omega,?_⟩;rw[size_alloc (w.alloc _)];omega
theorem GX (v:Value) (L:List (Int×Int)) (K:Int) (k:Nat) (VA:Option Addr) (vn vc:Nat) (vs:List Int) (TA:Option Addr) (tn tc:Nat) (ts:List TV) (kt:Nat) (w0:World) (hv:Dw w0 v L K k) (hvs:EX w0 VA vn vs) (hvn:vn<=1099511627) (hwf:∀x∈vs,-9223372036854775808<=x/\x<=9223372036854775807)
  (hts:Ce w0 TA tn ts kt) (htn:tn<=9223372036854775807) (htl:∀t∈ts,t.L.length<=1000) (hl:L.length<=1000) (hrg:∀p∈L,p.1<=9223372036854775807) (hk:k<=100000000) (hkt:kt<=100000000) :
  Calls Tryz.prog 47 #[v,.slice VA vn vc,.slice TA tn tc] w0 (Bm (norm (DY vs (BM ts) (norm L))) (K+Dq vs (BM ts) (norm L)) (k+kt+1010000) w0):=by
 obtain ⟨A,n,c,s,B,m,d,rfl,hp,hc1,hc2,hK⟩:=hv;have hn:=hp.len;obtain ⟨z0,z1,z2,z3⟩:=Bh 33 33 w0 #[.slice A n c,.bool s,.slice B m d] #[.slice none 0 0,.bool false,.slice none 0 0];have hfp:=Hm VA vn vc vs _ (hvs.below z2) hvn hwf;have HNL:=Ad (AR L);have HVS:=Ad hvs.1;have HRG:=Ad (IQ hrg);rw[hn]at hl;have HN:=Ad hn;obtain ⟨kk,hkk0⟩:∃kk,kk=k+kt+2000:=⟨_,rfl⟩;have hkk1:k+kt+2000<=kk:=by omega
 have hkk2:kk<=k+kt+2000:=by omega
 clear hn hrg hwf hkk0;go_enter Tryz.func47,Tryz.ntmps47;go_wp2_with fail;refine hfp.mono ?_;rintro e w1 ⟨mb,rfl,mm,b1⟩;have HT1:=Ad (z2.next b1);have q0:=z0.next b1;have q1:=z1.next b1;have hw1:w0.heap.size+1+1<=w1.heap.size:=by have:=b1.size;omega
 obtain ⟨y0,y1,y2⟩:=AV 33 w1 #[.slice none 0 0,.bool s,.slice B m d];have hpl:=CL A n c L k _ ((hp.below HT1.out).below y1) hc1 hc2 (by omega) (by omega);have HM1:=Ad (mm.below y1);have HMB:=Ad mm.lt;have hK1:=Ad ((hK.below HT1.out).below y1);have p0:=q0.c0;have p1:=q0.c1;have p2:=q0.c2;have HT2:=Ad (HT1.out.next y1);have HQ1:=Ad (q1.next y1);have r0:=(q0.next y1).c0;have HP:=Ad hp;have HTS:=Ad hts;have HTL:=Ad htl;have HY0:=Ad y0
 clear hfp z0 z1 z2 z3 b1 mm q0 q1 hp hts htl hvs hK y0 y1;go_wp2_with fail;refine hpl.mono ?_;rintro e W2 ⟨A1,n1,c1,rfl,pin,h11,h12,b2⟩;have hn1:n1<=1000:=by have:=pin.len;have:=HNL.out;have:=HN.out;omega
 have HT:=Ad (HT2.out.next b2);have HX2:=Ad (HY0.out.next b2);have HP1:=Ad pin;have HM2:=Ad (HM1.out.below b2);have HR2:=Ad (HQ1.out.next b2);have hg8:w1.heap.size<W2.heap.size:=by have:=b2.size;omega
 have HS:=Ad (show Fv W2 w1.heap.size (DY vs (BM ts) ((norm L).take 0)) (K+Dq vs (BM ts) ((norm L).take 0)) kk 0 W2 from ⟨[],none,0,s,B,m,d,HX2.out,Az.nil _ _ _ _,fun v=>rfl,(fun p hp=>by cases hp),by simpa[Dq] using ((hK1.out.below b2).mono (show k<=kk by omega)),Ao.refl _ _,by simp⟩);clear p0 p1 p2 r0 hpl pin b2;go_wp2_with fail
 go_loopw [23] (fun i wr=>∃q:Nat,q<=n1/\i=.int .i64 q/\Hid (Fv W2 w1.heap.size (DY vs (BM ts) ((norm L).take q)) (K+Dq vs (BM ts) ((norm L).take q)) kk q wr)) (fun i _=>n1-(intOf i).toNat)
 case atStart=>exact ⟨0,Nat.zero_le _,rfl,HS⟩
 case round=>
  obtain ⟨q,hq,rfl,HR⟩:=hrel;obtain ⟨rs,A4,c4,s4,B4,m4,d4,xg,lr,hco,hrz,zK,oW,hrl⟩:=HR.out;have hT:Below w0.heap.size w0 wr:=HT.out.trans (oW.below (by omega) (by omega));by_cases hqn:q<n1
  · obtain ⟨bb,o,p,rfl,hlt,hLp,c0,c1x,c2,hz⟩:=(HP1.out.keep oW (HX2.out.kp (QB _ _ _ _ _ _ _) oW) (HP1.out.offTerm HX2.out)).at_ hqn;obtain ⟨hv0,hv1⟩:=HRG.out _ (List.mem_of_getElem? hLp);have hkey:=keyOf_int_mk Tryz.underlying3 (Nr (show -9223372036854775808<=p.v by dsimp only at hv0;omega) hv1);have y1:=Ae wr (.cells #[.int .i64 p.v,.bool p.s,.slice p.B p.m p.d] 59);have hM:=(HM2.out.only oW (by have:=HMB.out;omega)).below y1;obtain ⟨D,hown,h0,h1⟩:=hM
    have HL:=Ad (IM vs (BM ts) (norm L) q _ _ hLp);have HKS:=Ad (IP vs (BM ts) (norm L) q _ _ hLp);have XG:=Ad (xg.next y1);have LR:=Ad (lr.below y1);have HCO:=Ad hco;have HRZ:=Ad (show ∀p'∈rs,BF _ p'.num p'.Z kk from fun p' hp'=>(hrz p' hp').below y1);have ZK:=Ad (zK.below y1);have OW:=Ad (oW.next y1);have HZ:=Ad (hz.below y1);have HTW:=Ad (hT.next y1);have hle:rs.length+1<=1099511627776:=(by omega);have HSZ:=Ad (show W2.heap.size<=wr.heap.size from oW.size)
    have hgr:w1.heap.size<wr.heap.size:=xg.lt;by_cases hin:∃i t,AD p.v vs=some i/\ts[i]?=some t
    · obtain ⟨i,t,hf,hti⟩:=hin;have hit:i<tn:=(by rw[<-HTS.out.1];exact (List.getElem?_eq_some_iff.1 hti).1);have hhas:Maps.has D (.int .i64 p.v)=true:=(by have h2:Maps.has D (.int .i64 p.v)=(AD p.v vs).isSome:=(h1 p.v).1;rw[h2,hf];rfl);have HAT:=Ad (show ∀z,D.atKey (.int .i64 p.v) z=.lit (.int .i64 i) from fun z=>(h1 p.v).2 i z hf);have HPL:=Ad (QS (ts:=ts) hf hti);obtain ⟨tb,ot,t',rfl,hti',e0,e1,e2,htin⟩:=(HTS.out.below HTW.out).at_ hit
      obtain rfl:t'=t:=(by rw[hti]at hti';injection hti' with hti';exact hti'.symm);have htl:=HTL.out t' (List.mem_of_getElem? hti);have HTI:=Ad htin;have hlt6:=World.block_lt_of_cell? _ _ e0;have E0:=Ad e0;have E1:=Ad e1;have E2:=Ad e2;have y0:=Aw.new 59 wr #[.int .i64 p.v,.bool p.s,.slice p.B p.m p.d];clear hf hti hti' h1 h0 hLp xg lr hco hrz zK oW hz hT HR htin e0 e1 e2 y1 hv0;rename TV=>t
      go_wp2_with (at_lookup;refine wpList_lookup_own_ok_int _ rfl _ _ 128 rfl 3 3 .i64 GH Tryz.underlying128 Tryz.underlying3 (Gy _) mb vs.length D rfl hown _ _ rfl hkey ?_;intro ci hat hwc;obtain rfl:=QR hat HAT.out;clear hat hwc);generalize hW6:(wr.alloc (.cells #[.int .i64 p.v,.bool p.s,.slice p.B p.m p.d] 59))=W6 at *;have hw6:wr.heap.size<W6.heap.size:=(by rw[<-hW6,size_alloc];omega);clear hW6 hhas hown hkey
      have HSC:=Ad (fun W (h:Below W6.heap.size W6 W)=>(Nb _ (.agg #[.bool p.s,.slice p.B p.m p.d]) t.L t.K p.Z kt (k+n) W (HTI.out.below h) (HZ.out.below h) (by omega) (by omega) (by omega)).mono (fun e w' (q:Bm _ _ _ _ _ _)=>show Bm (norm (t.L.map fun r=>(r.1,p.Z*r.2))) (p.Z*t.K) kk W e w' from q.mono (by omega)));unfold Bm at HSC
      have SOF:=Ad (show ∀W,Below W6.heap.size W6 W->(W.cell? ⟨tb,ot+i*3,none⟩=some (.slice t.A t.n t.c)/\W.cell? ⟨tb,ot+i*3+1,none⟩=some (.bool t.s)/\W.cell? ⟨tb,ot+i*3+2,none⟩=some (.slice t.B t.m t.d)/\W.cell? ⟨wr.heap.size,1,none⟩=some (.bool p.s)/\W.cell? ⟨wr.heap.size,2,none⟩=some (.slice p.B p.m p.d)) from fun W h=>⟨(h.cell (p:=⟨tb,ot+i*3,none⟩) hlt6).trans E0.out,(h.cell (p:=⟨tb,ot+i*3+1,none⟩) hlt6).trans E1.out,(h.cell (p:=⟨tb,ot+i*3+2,none⟩) hlt6).trans E2.out,(y0.next h).c1,(y0.next h).c2⟩)
      clear y0 c0 c1x c2
      refine AJ (by kernel_rfl) (by kernel_rfl) (by kernel_rfl) (by kernel_rfl) (fun w w'=>Below w.heap.size w w') (fun j v w=>match j with|0=>v=.slice (some ⟨tb,ot,none⟩) tn tc|1=>v=.int .i64 (i:Int)|2=>v=.pointer (some ⟨tb,ot+i*3,none⟩)|3=>v=.agg #[.slice t.A t.n t.c,.bool t.s,.slice t.B t.m t.d]|4=>v=.pointer (some ⟨wr.heap.size,1,none⟩)|5=>v=.agg #[.bool p.s,.slice p.B p.m p.d]|6=>An w v (norm (t.L.map fun r=>(r.1,p.Z*r.2))) (p.Z*t.K) kk|7=>∃g,v=.pointer (some ⟨g,0,none⟩)/\W6.heap.size<=g/\Aw 33 w g #[.slice none 0 0,.bool false,.slice none 0 0]|_=>True) (fun _ _ w=>Below W6.heap.size W6 w) ?_ (fun _=>Ak W6 1) ?_ ?_
      · intro j v w w' hT h;match j,h with
        |0,h=>exact h
        |1,h=>exact h
        |2,h=>exact h
        |3,h=>exact h
        |4,h=>exact h
        |5,h=>exact h
        |6,h=>exact h.below hT
        |7,h=>exact (by obtain ⟨g,e,h1,h2⟩:=h;exact ⟨g,e,h1,h2.next hT⟩)
        |j+8,h=>trivial
      · refine ⟨?_,?_,?_,?_,?_,?_,?_,?_,trivial⟩
        · intro listed σ w a hin hout hl hla hs hc hp hG hF;refine Ac.none rfl ?_;have e2:a.tmps.getD 2 undef=.slice (some ⟨tb,ot,none⟩) tn tc:=hout 2 (Af (by kernel_rfl));refine Does.val (.slice (some ⟨tb,ot,none⟩) tn tc) (w':=w) ?_ ⟨Below.refl _ _,rfl,hG⟩;simp only[Array.getD_eq_getD_getElem?]at e2;go_simp
        · intro listed σ w a hin hout hl hla hs hc hp hG hF;refine Ac.none rfl ?_;have e11:a.tmps.getD 11 undef=.int .i64 (i:Int):=hout 11 (Af (by kernel_rfl));refine Does.val (.int .i64 (i:Int)) (w':=w) ?_ ⟨Below.refl _ _,rfl,hG⟩;simp only[Array.getD_eq_getD_getElem?]at e11;go_simp
        · intro listed σ w a hin hout hl hla hs hc hp hG hF;refine Ac.none rfl ?_;have e48:a.tmps.getD 48 undef=.slice (some ⟨tb,ot,none⟩) tn tc:=(hin 0 48 rfl (hp ⟨0,.data⟩ (by simp) rfl)).trans (hF 0 (hp ⟨0,.data⟩ (by simp) rfl));have e49:a.tmps.getD 49 undef=.int .i64 (i:Int):=(hin 1 49 rfl (hp ⟨1,.data⟩ (by simp) rfl)).trans (hF 1 (hp ⟨1,.data⟩ (by simp) rfl));refine Does.val (.pointer (some ⟨tb,ot+i*3,none⟩)) (w':=w) ?_ ⟨Below.refl _ _,rfl,hG⟩
          simp only[Array.getD_eq_getD_getElem?]at e48 e49;go_simp;(try (intro hh;exfalso;omega))
        · intro listed σ w a hin hout hl hla hs hc hp hG hF;refine Ac.none rfl ?_;have e50:a.tmps.getD 50 undef=.pointer (some ⟨tb,ot+i*3,none⟩):=(hin 2 50 rfl (hp ⟨2,.data⟩ (by simp) rfl)).trans (hF 2 (hp ⟨2,.data⟩ (by simp) rfl));have CC:=SOF.out w hG;obtain ⟨C0,C1,C2,D1,D2⟩:=CC;refine Does.val (.agg #[.slice t.A t.n t.c,.bool t.s,.slice t.B t.m t.d]) (w':=w) ?_ ⟨Below.refl _ _,rfl,hG⟩;go_simp
        · intro listed σ w a hin hout hl hla hs hc hp hG hF;refine Ac.none rfl ?_;have e10:a.tmps.getD 10 undef=.pointer (some ⟨wr.heap.size,0,none⟩):=hout 10 (Af (by kernel_rfl));refine Does.val (.pointer (some ⟨wr.heap.size,1,none⟩)) (w':=w) ?_ ⟨Below.refl _ _,rfl,hG⟩;simp only[Array.getD_eq_getD_getElem?]at e10;go_simp
        · intro listed σ w a hin hout hl hla hs hc hp hG hF;refine Ac.none rfl ?_;have e52:a.tmps.getD 52 undef=.pointer (some ⟨wr.heap.size,1,none⟩):=(hin 4 52 rfl (hp ⟨4,.data⟩ (by simp) rfl)).trans (hF 4 (hp ⟨4,.data⟩ (by simp) rfl));have CC:=SOF.out w hG;obtain ⟨C0,C1,C2,D1,D2⟩:=CC;refine Does.val (.agg #[.bool p.s,.slice p.B p.m p.d]) (w':=w) ?_ ⟨Below.refl _ _,rfl,hG⟩;go_simp
        · intro listed σ w a hin hout hl hla hs hc hp hG hF;refine Ac.none rfl ?_;have e51:a.tmps.getD 51 undef=.agg #[.slice t.A t.n t.c,.bool t.s,.slice t.B t.m t.d]:=(hin 3 51 rfl (hp ⟨3,.data⟩ (by simp) rfl)).trans (hF 3 (hp ⟨3,.data⟩ (by simp) rfl));have e53:a.tmps.getD 53 undef=.agg #[.bool p.s,.slice p.B p.m p.d]:=(hin 5 53 rfl (hp ⟨5,.data⟩ (by simp) rfl)).trans (hF 5 (hp ⟨5,.data⟩ (by simp) rfl));refine Does.call ?_ (HSC.out w hG) ?_
          · go_simp;rfl
          · rintro e w' ⟨v,rfl,z,hb⟩;exact ⟨_,rfl,hb,z,hG.next hb⟩
        · intro listed σ w a hin hout hl hla hs hc hp hG hF;refine Ac.none rfl ?_;refine Does.val (.pointer (some ⟨w.heap.size,0,none⟩)) (w':=w.alloc (.cells #[.slice none 0 0,.bool false,.slice none 0 0] 33)) ?_ ⟨Ae w _,⟨w.heap.size,rfl,hG.size,Aw.new _ _ _⟩,hG.next (Ae w _)⟩;go_simp
      · intro o ho;injection ho with ho;subst ho
        intro listed σ w a hall hin hout hG hF;refine Ac.none rfl ?_;have e13:=hin 7 13 rfl (by decide);obtain ⟨g7,ev7,hg7,x7⟩:=hF 7 (by decide);rw[ev7]at e13;have e54:=hin 6 54 rfl (by decide);have z6:=hF 6 (by decide);have z6:=hF 6 (by decide);obtain ⟨A8,n8,c8,s8,B8,m8,d8,ev8⟩:=An.form z6;rw[ev8]at e54 z6;refine Does.store_box (T:=33) (cells:=#[.slice A8 n8 c8,.bool s8,.slice B8 m8 d8]) rfl e13 e54 x7 (by kernel_rfl) rfl (by simp[Value.oneCell']) (fun w2 x9 o9=>?_)
        rw[show fin _ σ undef _=(Act.put (Act.put (Act.put (Act.put (Act.put (Act.put (Act.put (Act.put (Act.put _ (some 48) (σ 0)) (some 49) (σ 1)) (some 50) (σ 2)) (some 51) (σ 3)) (some 52) (σ 4)) (some 53) (σ 5)) (some 54) (σ 6)) (some 13) (σ 7)) none undef) from (Bn hall).trans rfl];simp only[Act.put,List.setIfInBounds_toArray,List.set_cons_zero,List.set_cons_succ];rw[ev7];have b9:Below W6.heap.size W6 w2:=hG.trans (o9.below hG.size hg7)
        obtain ⟨⟨qs,hqs,hlq,hqz⟩,h81,h82,hzk⟩:=An.opened (z6.only x7 o9);generalize σ 0=tt0;generalize σ 1=tt1;generalize σ 2=tt2;generalize σ 3=tt3;generalize σ 4=tt4;generalize σ 5=tt5;generalize σ 6=tt6;have XG2:=Ad (XG.out.next b9);have LR2:=Ad (LR.out.below b9);have OW2:=Ad (OW.out.next b9);have ZK2:=Ad (ZK.out.below b9);have HRZ2:=Ad (show ∀p'∈rs,BF w2 p'.num p'.Z kk from fun p' hp'=>(HRZ.out p' hp').below b9);have HQZ:=Ad hqz;have HZK:=Ad hzk;have HLQ:=Ad hlq
        have HQS:=Ad hqs;have X9:=Ad x9;have hne:g7≠w1.heap.size:=(by omega);have hsz2:W2.heap.size<=w2.heap.size:=OW2.out.size;have hnl8:n8<=1000:=by have h1:=congrArg List.length hlq;have h2:=AR (t.L.map fun r=>(r.1,p.Z*r.2));rw[List.length_map]at h2;have h3:(Ca qs).length=qs.length:=(by simp[Ca]);have h4:=hqs.1;omega
        have hle8:rs.length+n8<=1099511627776:=(by omega);have gx0:=XG2.out.c0;have gy0:=x9.c0;clear hF hG hall hin hout SOF HSC e13 e54 z6 x7 x9 o9 ev8 ev7 hqs hlq hqz hzk b9
        go_wp2_with (at_builtin;refine Cg rfl _ _ rfl W2.heap.size _ rs rfl LR2.out A8 n8 c8 kk qs rfl HQS.out hle8 hsz2 ?_;intro v2 w3 l2 g2;obtain ⟨A2,c2,hv2,xA,kA,oA,xB,lB,kB,oB⟩:=Hx XG2.out LR2.out OW2.out l2 g2;have xP:=(X9.out.grown g2 (fun e=>LR2.out.offTerm X9.out e.symm)).other (CK w3 w1.heap.size 0 (.slice A2 (rs++qs).length c2)) hne;have hzr:=(ZK2.out.kp kB);have hzp:=((HZK.out.kp kB).in_.mono (show kk<=kk+q by omega));have HRZ3:=Ad (show ∀p'∈rs++qs,BF (w3.setCell ⟨w1.heap.size,0,none⟩ (.slice A2 (rs++qs).length c2)) p'.num p'.Z kk from fun p' hp'=>(by
          rcases List.mem_append.1 hp' with hp'|hp'
          · exact (HRZ2.out p' hp').kp kB
          · exact ((HQZ.out p' hp').kp kB).in_));generalize hnl:(rs++qs).length=nl at *;subst hv2;have HNLQ:=Ad hnl;clear hnl;have u0:=xA.c0;have u1:=xA.fr 0;have v0:=xB.c1;have v1:=xB.c2;have v2:=xP.c1;have v3:=xP.c2;have hadd:=JL _ _ _ _ (kk+q) _ hzr hzp (by omega);have XB:=Ad xB;have LB:=Ad lB;have OB:=Ad oB;clear xA kA oA xB lB kB oB l2 g2 xP hzr hzp)
        refine hadd.mono ?_;rintro e w5 ⟨v5,rfl,r5,b5⟩;obtain ⟨s5,A5,n5,c5,rfl⟩:=r5.form;have xC:=XB.out.next b5;have o12:=Nu w5 w1.heap.size (.bool s5) (.slice A5 n5 c5);have hk12:=xC.kp (QB _ _ _ _ _ _ _) o12;have HE1:=Ad (show Fv W2 w1.heap.size (DY vs (BM ts) ((norm L).take (q+1))) (K+Dq vs (BM ts) ((norm L).take (q+1))) kk (q+1) ((w5.setCell ⟨w1.heap.size,1,none⟩ (.bool s5)).setCell ⟨w1.heap.size,2,none⟩ (.slice A5 n5 c5)) from
          ⟨rs++qs,A2,c2,s5,A5,n5,c5,by rw[HNLQ.out];exact xC.set_12 _ _,by have h1:=(LB.out.below b5).onlyTerm xC o12;rw[HNLQ.out];exact h1,fun v=>by rw[HL.out,HPL.out,Bi,Bb,Bb,HCO.out,HLQ.out,DI],fun p' hp'=>((HRZ3.out p' hp').below b5).kp hk12,by rw[HKS.out,HPL.out,<-Int.add_assoc];exact (r5.in_.kp hk12),(OB.out.next b5).trans o12,by rw[HNLQ.out];have h2:=HNLQ.out;have h3:=HQS.out.1;rw[List.length_append]at h2;omega⟩)
        have d1:=xC.c1;have d2:=xC.c2;have f1:=xC.fr 1;have f2:=xC.fr 2;clear u0 u1 v0 v1 v2 v3 gx0 gy0 hadd r5 b5 xC o12 hk12;go_wp2_with fail;go_roundw
        case rel=>exact ⟨q+1,by omega,by go_num,HE1⟩
        case measure=>simp[intOf]<;>omega
    · have HPL:=Ad (show place vs (BM ts) p.v=([(p.v,1)],0) by
        cases hf:AD p.v vs with
        |none=>exact Nt hf
        |some i=>
          refine Pk hf ?_;rcases Nat.lt_or_ge i ts.length with hh|hh
          · exact absurd ⟨i,ts[i],hf,List.getElem?_eq_getElem hh⟩ hin
          · exact hh)
      have HE:=Ad (show ∀(w2:World) A2 c2,Aw 33 w2 w1.heap.size #[.slice A2 (rs++[p]).length c2,.bool s4,.slice B4 m4 d4]->Az 59 3 w2 W2.heap.size (.slice A2 (rs++[p]).length c2) (rs++[p]).length (flat (rs++[p]))->(∀p'∈rs++[p],BF w2 p'.num p'.Z kk)->BF w2 (.agg #[.bool s4,.slice B4 m4 d4]) (K+Dq vs (BM ts) ((norm L).take q)) (kk+q)->Ao w1.heap.size W2 w2->Fv W2 w1.heap.size (DY vs (BM ts) ((norm L).take (q+1))) (K+Dq vs (BM ts) ((norm L).take (q+1))) kk (q+1) w2 from fun w2 A2 c2 a1 a2 a3 a4 a5=>⟨rs++[p],A2,c2,s4,B4,m4,d4,a1,a2,fun v=>by rw[HL.out,HPL.out,Bi,Bb,Bb,HCO.out];simp[Ca,PV.part],a3,by rw[HKS.out,HPL.out,Int.mul_zero,Int.add_zero];exact a4.mono (by omega),a5,by simp;omega⟩)
      have hwa:=World.size_alloc2 wr p;have gx0:=xg.c0;clear hco hrz zK oW hz hT HR hLp xg lr hv0 HL HKS HPL HCO;by_cases hli:∃i,AD p.v vs=some i
      · obtain ⟨i,hf⟩:=hli;have hit:tn<=i:=by
          rcases Nat.lt_or_ge i ts.length with hh|hh
          · exact absurd ⟨i,ts[i],hf,List.getElem?_eq_getElem hh⟩ hin
          · rw[<-HTS.out.1];exact hh
        have hhas:Maps.has D (.int .i64 p.v)=true:=(by have h2:Maps.has D (.int .i64 p.v)=(AD p.v vs).isSome:=(h1 p.v).1;rw[h2,hf];rfl);have HAT:=Ad (show ∀z,D.atKey (.int .i64 p.v) z=.lit (.int .i64 i) from fun z=>(h1 p.v).2 i z hf);have hvl:=Nk p.v vs i hf;have hvn2:vs.length<=1099511627:=(by have:=HVS.out;omega);clear hin hf h1 h0;go_wp2_with (first
          |(at_lookup;refine wpList_lookup_own_ok_int _ rfl _ _ 128 rfl 3 3 .i64 GH Tryz.underlying128 Tryz.underlying3 (Gy _) mb vs.length D rfl hown _ _ rfl hkey ?_;intro ci hat hwc;obtain rfl:=QR hat HAT.out;clear hat hwc)
          |(at_builtin;refine AQ rfl _ _ rfl W2.heap.size _ rs rfl (LR.out.below (Ae _ _)) _ 0 1 1 [p] rfl rfl (DV _ p _ (by rw[size_alloc])) hle (Nat.le_trans HSZ.out (Nat.le_trans hwa.1 hwa.2)) ?_;intro v2 w2 l2 g2;obtain ⟨A2,c2,rfl,xA,kA,oA,xB,lB,kB,oB⟩:=Hx (XG.out.next (Ae _ _)) (LR.out.below (Ae _ _)) (OW.out.next (Ae _ _)) l2 g2;have u0:=xA.c0;have u1:=xA.fr 0;have HE1:=Ad (HE.out _ A2 c2 xB lB (fun p' hp'=>by
            rcases List.mem_append.1 hp' with hp'|hp'
            · exact ((HRZ.out p' hp').below (Ae _ _)).kp kB
            · simp at hp';subst hp';exact ((HZ.out.mono (by omega)).below (Ae _ _)).kp kB) ((ZK.out.below (Ae _ _)).kp kB) oB);clear xA kA oA xB lB kB oB l2 g2))
        clear u0 u1 gx0;simp only[List.length_append,List.length_cons,List.length_nil,Nat.zero_add]at HE1;go_roundw
        case rel=>exact ⟨q+1,by omega,by go_num,HE1⟩
        case measure=>simp[intOf]<;>omega
      · have hhas:Maps.has D (.int .i64 p.v)=false:=by
          have h2:Maps.has D (.int .i64 p.v)=(AD p.v vs).isSome:=(h1 p.v).1;cases hf:AD p.v vs with
          |none=>rw[h2,hf];rfl
          |some i=>exact absurd ⟨i,hf⟩ hli
        clear hin hli h1 h0;go_wp2_with (first
          |(at_lookup;refine wpList_lookup_own_ok_int _ rfl _ _ 128 rfl 3 3 .i64 GH Tryz.underlying128 Tryz.underlying3 (Gy _) mb vs.length D rfl hown _ _ rfl hkey ?_;intro ci hat hwc;clear hat hwc)
          |(at_builtin;refine AQ rfl _ _ rfl W2.heap.size _ rs rfl (LR.out.below (Ae _ _)) _ 0 1 1 [p] rfl rfl (DV _ p _ (by rw[size_alloc])) hle (Nat.le_trans HSZ.out (Nat.le_trans hwa.1 hwa.2)) ?_;intro v2 w2 l2 g2;obtain ⟨A2,c2,rfl,xA,kA,oA,xB,lB,kB,oB⟩:=Hx (XG.out.next (Ae _ _)) (LR.out.below (Ae _ _)) (OW.out.next (Ae _ _)) l2 g2;have u0:=xA.c0;have u1:=xA.fr 0;have HE1:=Ad (HE.out _ A2 c2 xB lB (fun p' hp'=>by
            rcases List.mem_append.1 hp' with hp'|hp'
            · exact ((HRZ.out p' hp').below (Ae _ _)).kp kB
            · simp at hp';subst hp';exact ((HZ.out.mono (by omega)).below (Ae _ _)).kp kB) ((ZK.out.below (Ae _ _)).kp kB) oB);clear xA kA oA xB lB kB oB l2 g2))
        clear u0 u1 gx0;simp only[List.length_append,List.length_cons,List.length_nil,Nat.zero_add]at HE1;go_roundw
        case rel=>exact ⟨q+1,by omega,by go_num,HE1⟩
        case measure=>simp[intOf]<;>omega
  · obtain rfl:q=n1:=(by omega);have hall:=List.take_of_length_le (l:=norm L) (i:=q) (by rw[HP1.out.len];exact Nat.le_refl _);rw[hall]at hco zK;have hin:EP wr A4 rs.length (Ca rs) (kk+q):=⟨rs,lr.parts rfl (fun p hp=>(hrz p hp).mono (by omega)),rfl⟩;obtain ⟨A',c',hv',h41,h42,-⟩:=lr.len;injection hv' with e1' e2' e3'
    subst e1' e3';have hpl:=Dh (.agg #[.slice A4 rs.length c4,.bool s4,.slice B4 m4 d4]) (Ca rs) (K+Dq vs (BM ts) (norm L)) (kk+q) wr ⟨A4,rs.length,c4,s4,B4,m4,d4,rfl,hin,h41,h42,zK⟩ (by rw[hin.len];omega) (by omega);have HLN:=Ad hin.len;have HN2:=Ad (show norm (Ca rs)=norm (DY vs (BM ts) (norm L)) from GE hco);have hR:Aw 33 wr (w0.heap.size+1) #[.slice none 0 0,.bool false,.slice none 0 0]:=HR2.out.other oW (by omega);have x0:=xg.c0;have x1:=xg.c1;have x2:=xg.c2
    have HTT:=Ad hT;have HRR:=Ad hR;clear hall hin hco zK hrz lr xg oW HR hT hR;go_wp2_with fail;refine hpl.mono ?_;rintro e w5 ⟨v5,rfl,r5,b5⟩;obtain ⟨A5,n5,c5,s5,B5,m5,d5,rfl⟩:=r5.form;have k5:=HRR.out.next b5;go_wp2_with (with_reducible refine AO rfl _ _ rfl (w0.heap.size+1) _ _ _ _ _ _ _ rfl rfl _ _ _ k5 ?_;intro w7 k7 ho7);refine Bw rfl rfl k7 rfl ?_;refine Bm.mono ⟨_,rfl,?_,AH (HTT.out.next b5) (by omega) ho7⟩ (show kk+q+(Ca rs).length<=_ by have:=HLN.out;omega)
    rw[<-HN2.out];exact r5.only k5 ho7
end
end Go.Proofs.YtemfjdedjcjegaaGreatDoor
