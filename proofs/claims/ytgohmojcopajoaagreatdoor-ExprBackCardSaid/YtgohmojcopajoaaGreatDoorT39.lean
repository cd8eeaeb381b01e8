/- Texts of one seat, put together: OpenTr ExprBl. -/
import Derived.Test.YtgohmojcopajoaaGreatDoorRows
import Derived.Test.YtgohmojcopajoaaGreatDoorT38
import Derived.Test.YtgohmojcopajoaaGreatDoorT25
import Derived.Deep.Strs
import Derived.Deep.Grids
import Derived.SizedLaws
import Derived.Test.YtgohmojcopajoaaGreatDoorT37
import Derived.Deep.DeepCutAuto
set_option linter.unusedVariables false
set_option linter.unusedSimpArgs false
set_option maxRecDepth 100000
set_option maxHeartbeats 16000000
namespace Go.Proofs.YtgohmojcopajoaaGreatDoor
section
open Go.ChangeShapes Go.WideShapes Go.ChangeAt Go.RowKit Go.Deep
open Lx Ex
theorem Mm:Tryz.prog.cellsOf 88=3:=by kernel_rfl
theorem Qg:Tryz.prog.cellsOf 23=1:=by kernel_rfl
theorem Mo:Tryz.prog.cellsOf 33=7:=by kernel_rfl
theorem Qh:Tryz.prog.cellsOf 31=1:=by kernel_rfl
theorem cellsIn:Tryz.prog.cellsOf 3=1:=by kernel_rfl
theorem VX:Tryz.prog.cellsOf 4=1:=by kernel_rfl
theorem OA:Tryz.prog.cellsOf 9=1:=by kernel_rfl
instance:Inhabited Mn:=⟨⟨⟨#[]⟩,⟨#[]⟩,false⟩⟩
instance:Inhabited GT:=⟨.mk 0 [] [] 0 ⟨#[]⟩ ⟨#[]⟩ []⟩
def Ge (_:Nat):Prop:=True
theorem choose_lt {α:Type} [Inhabited α] {n:Nat} {p:Nat->α->Prop} (h:∀i,i<n->∃q,p i q):∃q:Nat->α,∀i,i<n->p i (q i):=
 ⟨fun i=>if hi:i<n then Classical.choose (h i hi) else default,fun i hi=>by
  show p i (if hi:i<n then Classical.choose (h i hi) else default);rw[dif_pos hi];exact Classical.choose_spec (h i hi)⟩
section
variable {H:Type} {enc:TypeId×Value->H} {W:World} {f:Nat} {x:DataW H×List MemPlace} {cs:List Value}
def Fx (t:TypeId) (d:DataW H):Prop:=∀n∈d.weights Tryz.prog t,n<=reachBytes
theorem Em {e:TypeId}:∀{ds:List (DataW H)} {d:DataW H},d∈ds->∀n∈d.weights Tryz.prog e,n∈DataW.weightsAll Tryz.prog e ds
 |[],_,h,_,_=>by cases h
 |d0::ds,d,h,n,hn=>by
  simp only[DataW.weightsAll,List.mem_append];rcases List.mem_cons.1 h with rfl|h
  · exact Or.inl hn
  · exact Or.inr (Em h n hn)
theorem SH (h:DataW.trod enc Tryz.prog W 0 (fun _=>true) true f 88 cs=some x):∃m:Mn,cs=m.cells/\(Fx 88 x.1->m.num.size<=4611686018427387904/\m.var.size<=4611686018427387904):=by
 obtain ⟨xs,n,hn,hx,hl,hlen,hf⟩:=DataW.trod_struct Tryz.underlying88 h;rw[Mm]at hl;match cs,hl,xs,hlen with
 |[v0,v1,v2],_,[y0,y1,y2],_=>
  have g0:DataW.trod enc Tryz.prog W 0 (fun _=>true) true n 4 (([v0,v1,v2].drop 0).take (Tryz.prog.cellsOf 4))=some y0:=hf 0 _ rfl;have g1:DataW.trod enc Tryz.prog W 0 (fun _=>true) true n 9 (([v0,v1,v2].drop 1).take (Tryz.prog.cellsOf 9))=some y1:=hf 1 _ rfl;have g2:DataW.trod enc Tryz.prog W 0 (fun _=>true) true n 9 (([v0,v1,v2].drop 2).take (Tryz.prog.cellsOf 9))=some y2:=hf 2 _ rfl;rw[VX]at g0;rw[OA]at g1 g2;obtain ⟨b,e0,-⟩:=DataW.trod_bool Tryz.underlying4 g0
  obtain ⟨s,e1,z1,-⟩:=DataW.trod_string Tryz.underlying9 g1;obtain ⟨q,e2,z2,-⟩:=DataW.trod_string Tryz.underlying9 g2;injection e0 with e0
  injection e1 with e1
  injection e2 with e2
  subst e0 e1 e2;refine ⟨⟨s,q,b⟩,rfl,fun hz=>?_⟩;rw[hx]at hz;have k1:=hz s.data.toList.length (by simp[DataW.weights,DataW.weightsEach,Tryz.underlying88,z1,z2]);have k2:=hz q.data.toList.length (by simp[DataW.weights,DataW.weightsEach,Tryz.underlying88,z1,z2]);simp only[Array.length_toList,reachBytes]at k1 k2;exact ⟨by show s.data.size<=_;omega,by show q.data.size<=_;omega⟩
theorem H7 (h:DataW.trod enc Tryz.prog W 0 (fun _=>true) true f 23 cs=some x):∃A n c l,cs=[.slice A n c]/\Dg Ge W A n l/\n<=c/\c<=9223372036854775807 /\
   (Fx 23 x.1->KQ l/\l.length<=4611686018427387903):=by
 rcases DataW.trod_slice Tryz.underlying23 h with ⟨hcs,_⟩|⟨a,len,cap,elems,rest,m,hm,hcs,hxe,-,hlc,hmx,hel,hx,-⟩
 · exact ⟨none,0,0,[],hcs,Dg.nil _ _ _,by omega,by omega,fun _=>⟨(fun m hm=>by cases hm),Nat.zero_le _⟩⟩
 · unfold maxLen at hmx;obtain ⟨q,hq⟩:=choose_lt (α:=Mn) (n:=len) (p:=fun i q=>(∀r u,q.cells[r]?=some u->W.cell? (a.add (i*3+r))=some u)/\∀d,elems[i]?=some d->Fx 88 d.1->q.num.size<=4611686018427387904/\q.var.size<=4611686018427387904) (fun i hi=>by
     have h1:=hx i hi;rw[List.getElem?_eq_getElem (by omega)]at h1;obtain ⟨cs',h2,h3⟩:=Option.bind_eq_some_iff.1 h1;rw[Mm]at h2;obtain ⟨_,hlen,hcell⟩:=World.cells?_some h2;obtain ⟨t,ht,hs⟩:=SH h3;refine ⟨t,fun r u hu=>?_,fun d hd=>?_⟩
     · rw[<-ht]at hu;have hr:r<3:=(by have:=(List.getElem?_eq_some_iff.1 hu).1;omega);rw[<-hu,<-hcell r hr,add_add]
     · rw[List.getElem?_eq_getElem (by omega)]at hd;injection hd with hd
       rw[<-hd];exact hs)
   have hget:∀i,i<len->((List.range len).map q)[i]?=some (q i):=fun i hi=>by rw[List.getElem?_map,List.getElem?_range hi];rfl
   refine ⟨some a,len,cap,(List.range len).map q,hcs,⟨by simp,fun hn=>?_⟩,hlc,hmx,fun hz=>⟨fun m hm=>?_,?_⟩⟩
   · have h0:=(hq 0 hn).1 0 _ rfl;obtain ⟨b,o,spot⟩:=a;have hspot:spot=none:=(by simpa[Addr.add] using World.cell?_spot h0);subst hspot;refine ⟨b,o,rfl,trivial,World.block_lt_of_cell? W _ h0,fun j u hu=>?_⟩;have hj:j<3*len:=by
       have:=(List.getElem?_eq_some_iff.1 hu).1;rw[Ri]at this;simpa using this
     obtain ⟨i,r,rfl,hr⟩:∃i r,j=i*3+r/\r<3:=⟨j/3,j%3,by omega,by omega⟩;have hi:i<len:=(by omega);have hg:=Ly _ i _ (hget i hi);have hc:=(hq i hi).1;rw[<-addr_add];refine hc r u ?_;rw[<-hu,Nat.mul_comm i 3];match r,hr with
     |0,_=>exact hg.1.symm
     |1,_=>exact hg.2.1.symm
     |2,_=>exact hg.2.2.symm
   · obtain ⟨i,hi,rfl⟩:=List.mem_map.1 hm;have hi:=List.mem_range.1 hi;refine (hq i hi).2 _ (List.getElem?_eq_getElem (by omega)) (fun w hw=>hz w ?_);rw[hxe];simp only[DataW.weights,Tryz.underlying23,List.mem_cons,List.mem_append];exact Or.inr (Or.inl (Em (List.mem_map.2 ⟨_,List.getElem_mem (by omega),rfl⟩) w hw))
   · have k:=hz ((elems.length+rest.length)*Tryz.prog.bytesOf 88) (by rw[hxe];simp[DataW.weights,Tryz.underlying23]);have hb:1<=Tryz.prog.bytesOf 88:=(by decide +kernel);have:=Nat.le_mul_of_pos_right (elems.length+rest.length) hb;simp only[reachBytes]at k;rw[List.length_map,List.length_range];omega
theorem J7:∀(f:Nat) (cs:List Value) (x:DataW H×List MemPlace),DataW.trod enc Tryz.prog W 0 (fun _=>true) true f 33 cs=some x->∃t:GT,Bt Ge W t cs/\(Fx 33 x.1->Ky t):=by
 intro f;induction f using Nat.strongRecOn with
 |_ f ih=>
  intro cs x h;obtain ⟨xs,n,hn,hxx,hl,hlen,hf⟩:=DataW.trod_struct Tryz.underlying33 h;rw[Mo]at hl;match cs,hl,xs,hlen with
  |[v0,v1,v2,v3,v4,v5,v6],_,[y0,y1,y2,y3,y4,y5,y6],_=>
   have g0:DataW.trod enc Tryz.prog W 0 (fun _=>true) true n 3 (([v0,v1,v2,v3,v4,v5,v6].drop 0).take (Tryz.prog.cellsOf 3))=some y0:=hf 0 _ rfl;have g1:DataW.trod enc Tryz.prog W 0 (fun _=>true) true n 23 (([v0,v1,v2,v3,v4,v5,v6].drop 1).take (Tryz.prog.cellsOf 23))=some y1:=hf 1 _ rfl;have g2:DataW.trod enc Tryz.prog W 0 (fun _=>true) true n 23 (([v0,v1,v2,v3,v4,v5,v6].drop 2).take (Tryz.prog.cellsOf 23))=some y2:=hf 2 _ rfl
   have g3:DataW.trod enc Tryz.prog W 0 (fun _=>true) true n 3 (([v0,v1,v2,v3,v4,v5,v6].drop 3).take (Tryz.prog.cellsOf 3))=some y3:=hf 3 _ rfl;have g4:DataW.trod enc Tryz.prog W 0 (fun _=>true) true n 9 (([v0,v1,v2,v3,v4,v5,v6].drop 4).take (Tryz.prog.cellsOf 9))=some y4:=hf 4 _ rfl;have g5:DataW.trod enc Tryz.prog W 0 (fun _=>true) true n 9 (([v0,v1,v2,v3,v4,v5,v6].drop 5).take (Tryz.prog.cellsOf 9))=some y5:=hf 5 _ rfl
   have g6:DataW.trod enc Tryz.prog W 0 (fun _=>true) true n 31 (([v0,v1,v2,v3,v4,v5,v6].drop 6).take (Tryz.prog.cellsOf 31))=some y6:=hf 6 _ rfl;rw[cellsIn]at g0 g3;rw[Qg]at g1 g2;rw[OA]at g4 g5;rw[Qh]at g6;obtain ⟨k,e0,-,-⟩:=DataW.trod_int Tryz.underlying3 g0;obtain ⟨op,e3,-,-⟩:=DataW.trod_int Tryz.underlying3 g3;obtain ⟨Al,nl,cl,l,e1,hml,hl1,hl2,zl⟩:=H7 g1;obtain ⟨Ar,nr,cr,r,e2,hmr,hr1,hr2,zr⟩:=H7 g2;obtain ⟨p,e4,z4,-⟩:=DataW.trod_string Tryz.underlying9 g4
   obtain ⟨q,e5,z5,-⟩:=DataW.trod_string Tryz.underlying9 g5;injection e0 with e0
   injection e1 with e1
   injection e2 with e2
   injection e3 with e3
   injection e4 with e4
   injection e5 with e5
   subst e0 e1 e2 e3 e4 e5;have hsl:Fx 33 x.1->(KQ l/\l.length<=4611686018427387903)/\(KQ r/\r.length<=4611686018427387903)/\Fx 31 y6.1:=fun hz=>by
     rw[hxx]at hz;refine ⟨zl fun w hw=>hz w ?_,zr fun w hw=>hz w ?_,fun w hw=>hz w ?_⟩<;>(simp only[DataW.weights,DataW.weightsEach,Tryz.underlying33,List.map_cons,List.map_nil,List.mem_append];simp[hw])
   rcases DataW.trod_slice Tryz.underlying31 g6 with ⟨hcs,_⟩|⟨a,len,cap,elems,rest,m,hm,hcs,hxe,-,hlc,hmx,hel,hx,-⟩
   · injection hcs with hcs
     subst hcs;exact ⟨.mk k l r op p q [],Bt.mk k op l r p q [] Al Ar none nl cl nr cr 0 0 0 0 (fun _=>[]) hml hmr rfl hl1 hl2 hr1 hr2 (by omega) (by omega) (fun h=>absurd h (by omega)) (fun j h=>absurd h (by omega)) (fun j t h=>by simp at h),
       fun hz=>Ky.mk _ _ _ _ _ _ _ (hsl hz).1.1 (hsl hz).2.1.1 (hsl hz).1.2 (hsl hz).2.1.2 (fun t ht=>by cases ht)⟩
   · injection hcs with hcs
     subst hcs;unfold maxLen at hmx;obtain ⟨u,hu⟩:=choose_lt (α:=GT×List Value) (n:=len) (p:=fun i q=>q.2.length=7/\(∀r u,q.2[r]?=some u->W.cell? (a.add (i*7+r))=some u)/\Bt Ge W q.1 q.2/\∀d,elems[i]?=some d->Fx 33 d.1->Ky q.1) (fun i hi=>by
       have h1:=hx i hi;rw[List.getElem?_eq_getElem (by omega)]at h1;obtain ⟨cs',h2,h3⟩:=Option.bind_eq_some_iff.1 h1;rw[Mo]at h2;obtain ⟨_,hlen,hcell⟩:=World.cells?_some h2;obtain ⟨t,ht,hs⟩:=ih m (by omega) cs' _ h3;refine ⟨(t,cs'),hlen,fun r u hu=>?_,ht,fun d hd=>?_⟩
       · have hr:r<7:=(by have:=(List.getElem?_eq_some_iff.1 (show cs'[r]?=some u from hu)).1;omega);rw[<-show cs'[r]?=some u from hu,<-hcell r hr,add_add]
       · rw[List.getElem?_eq_getElem (by omega)]at hd;injection hd with hd
         rw[<-hd];exact hs)
     have hform:∀j,j<len->a=⟨a.block,a.off,none⟩/\a.block<W.heap.size:=fun j hj=>by
       obtain ⟨hl3,hc3,-⟩:=hu 0 (by omega);have h0:=hc3 0 _ (List.getElem?_eq_getElem (by omega));obtain ⟨b,o,spot⟩:=a;have hspot:spot=none:=(by simpa[Addr.add] using World.cell?_spot h0);subst hspot;exact ⟨rfl,World.block_lt_of_cell? W _ h0⟩
     refine ⟨.mk k l r op p q ((List.range len).map fun i=>(u i).1),Bt.mk k op l r p q _ Al Ar (some a) nl cl nr cr len cap a.block a.off (fun i=>(u i).2) hml hmr (by simp) hl1 hl2 hr1 hr2 hlc hmx (fun hn=>?_) (fun j hj=>⟨(hu j hj).1,fun r u' hu'=>?_⟩) (fun j t ht=>?_),
       fun hz=>Ky.mk _ _ _ _ _ _ _ (hsl hz).1.1 (hsl hz).2.1.1 (hsl hz).1.2 (hsl hz).2.1.2 (fun t ht=>?_)⟩
     · obtain ⟨e,hlt⟩:=hform 0 hn;exact ⟨congrArg some e,trivial,hlt⟩
     · have h0:=(hu j hj).2.1 r u' hu';rw[(hform j hj).1,addr_add,<-Nat.add_assoc]at h0;exact h0
     · have hj:j<len:=by
         rcases Nat.lt_or_ge j len with h|h
         · exact h
         · rw[List.getElem?_eq_none (by simpa using h)]at ht;cases ht
       rw[List.getElem?_map,List.getElem?_range hj]at ht;injection ht with ht
       subst ht;exact (hu j hj).2.2.1
     · obtain ⟨j,hj,rfl⟩:=List.mem_map.1 ht;have hj:=List.mem_range.1 hj;refine (hu j hj).2.2.2 _ (List.getElem?_eq_getElem (by omega)) (fun w hw=>(hsl hz).2.2 w ?_);rw[hxe];simp only[DataW.weights,Tryz.underlying31,List.mem_cons,List.mem_append];exact Or.inr (Or.inl (Em (List.mem_map.2 ⟨_,List.getElem_mem (by omega),rfl⟩) w hw))
theorem open_tree {b:Nat} {v:Value} {d:DataW H} {p:List MemPlace} (hv:Value.okWide Tryz.prog W .any b 33 v)
  (h0:DataW.Trod enc Tryz.prog W 0 (fun _=>true) true 33 v d p):∃(t:GT) (cs:Array Value),v=.agg cs/\Bt Ge W t cs.toList/\(Fx 33 d->Ky t):=by
 obtain ⟨cs,rfl,hsz⟩:=okWide_struct Tryz.underlying33 hv;obtain ⟨fuel,hf⟩:=h0;obtain ⟨t,ht,hs⟩:=J7 _ _ _ hf;exact ⟨t,cs,rfl,ht,hs⟩
theorem Qi {b:Nat} {v:Value} {d:DataW H} {p:List MemPlace} (hv:Value.okWide Tryz.prog W .any b 23 v)
  (h0:DataW.Trod enc Tryz.prog W 0 (fun _=>true) true 23 v d p):∃A n c l,v=.slice A n c/\Dg Ge W A n l/\n<=c/\c<=9223372036854775807/\(Fx 23 d->KQ l/\l.length<=4611686018427387903):=by
 obtain ⟨a,len,cap,rfl⟩:=okWide_slice Tryz.underlying23 hv;obtain ⟨fuel,hf⟩:=h0;obtain ⟨A,n,c,l,e,r⟩:=H7 hf;simp[Value.cells]at e;obtain ⟨rfl,rfl,rfl⟩:=e;exact ⟨_,_,_,l,rfl,r⟩
theorem OB {ts:List TypeId} {ds:List (DataW H)} (h:(DataW.weightsEach Tryz.prog ts ds).all (·<=reachBytes)=true) {j:Nat} {t:TypeId} {d:DataW H} (ht:ts[j]?=some t) (hd:ds[j]?=some d):Fx t d:=
  fun n hn=>by simpa using List.all_eq_true.1 h _ (DataW.weights_mem_each ht hd n hn)
end
end
section
open Go.RowKit
open Lx Ex
theorem SI {s:ByteArray} (h:16384<s.size):(DR s).2.2.2=2:=by have e:Aj (Ab s) s.size=⟨[],2,0⟩:=if_pos h;unfold DR;rw[e,if_neg (by decide)]
theorem OC (b:List UInt8):(⟨b.toArray⟩:ByteArray).size=b.length:=by show b.toArray.size=_;simp
theorem Nj (B:Option Addr) (m d:Nat) (ms:List Mn) (t:GT) (kd op:Int) (Al Ar A:Option Addr) (nl cl nr cr n c:Nat) (p q:ByteArray) (w0:World)
   (hm:Dg Ge w0 B m ms) (hmd:m<=d) (hd:d<=9223372036854775807) (hmz:KQ ms) (hm9:m<=4611686018427387903) (ht:Bt Ge w0 t [.int .i64 kd,.slice Al nl cl,.slice Ar nr cr,.int .i64 op,.string p,.string q,.slice A n c]) (htz:Ky t) (htab:AQ w0):Calls Tryz.prog 4 #[.slice B m d,.agg #[.int .i64 kd,.slice Al nl cl,.slice Ar nr cr,.int .i64 op,.string p,.string q,.slice A n c]] w0 (BE w0):=by
 have HTAB:=Aa (fun W (h:Below w0.heap.size w0 W)=>htab.below h);have HAL:=Aa (fun W (h:Below w0.heap.size w0 W)=>Jd W (htab.below h));have HSI:=Aa (fun W (h:Below w0.heap.size w0 W)=>(show Calls Tryz.prog 15 #[.agg #[.int .i64 kd,.slice Al nl cl,.slice Ar nr cr,.int .i64 op,.string p,.string q,.slice A n c],.int .i64 200] W (Jf t 200 W) from SG ht 200 W (by decide) h));have HRS:=Aa (fun W (h:Below w0.heap.size w0 W)=>Cm Ge B m d ms W (hm.keep (AC.of_below h)) hm9 hmz)
 have HRI:=Aa (fun W (h:Below w0.heap.size w0 W)=>DD W (ht.keep (AC.of_below h)) htz);obtain ⟨sb,hsb⟩:∃sb:List UInt8,sb=(if Bd ms=true then AP true ms else []):=⟨_,rfl⟩;have HST:=Aa (fun W (h:Below w0.heap.size w0 W)=>(show Calls Tryz.prog 16 #[.slice B m d] W (Bw sb W) from by
   rw[hsb];cases hr:Bd ms with
   |false=>exact PG Ge B m d ms W (hm.keep (AC.of_below h)) hm9 hmz hr
   |true=>exact Jt Ge B m d ms W (hm.keep (AC.of_below h)) hm9 hmd hd hmz hr (by have:=JF ((EN ms).1 hr) true;omega)))
 have HSB:=Aa hsb;have HTX:=Aa (fun W (h:Below w0.heap.size w0 W) hr=>VF W (ht.keep (AC.of_below h)) htz hr);have HM:=Aa (fun W (h:Below w0.heap.size w0 W)=>hm.keep (AC.of_below h));have HT:=Aa (fun W (h:Below w0.heap.size w0 W)=>ht.keep (AC.of_below h));have HZ:=Aa htz;unfold BE at HAL;unfold Jf at HSI;unfold Bq at HRS HRI;unfold Bw at HST HTX;obtain ⟨x1,hb,-⟩:=Av 33 w0 #[.int .i64 kd,.slice Al nl cl,.slice Ar nr cr,.int .i64 op,.string p,.string q,.slice A n c]
 have HB1:=Aa hb;have X1:=Aa x1;clear hm ht htz htab hsb hb x1 hmz;go_enter Tryz.func4,Tryz.ntmps4;go_wp2_with fail;generalize hW:w0.alloc (.cells #[.int .i64 kd,.slice Al nl cl,.slice Ar nr cr,.int .i64 op,.string p,.string q,.slice A n c] 33)=W1 at *;clear hW;refine (HAL.out W1 HB1.out).mono ?_;rintro e w2 ⟨rfl,b2⟩;have HB2:=Aa (HB1.out.next b2);have X2:=Aa (X1.out.next b2);clear b2 HB1 X1 HAL
 have t0:=X2.out.cell 0 _ rfl;have t1:=X2.out.cell 1 _ rfl;have t2:=X2.out.cell 2 _ rfl;have t3:=X2.out.cell 3 _ rfl;have t4:=X2.out.cell 4 _ rfl;have t5:=X2.out.cell 5 _ rfl;have t6:=X2.out.cell 6 _ rfl;go_wp2_with fail;refine (HSI.out _ HB2.out).mono ?_;rintro e w3 ⟨r,rfl,hr1,hr2,hr3,b3⟩;have HB3:=Aa (HB2.out.next b3);have X3:=Aa (X2.out.next b3);clear b3 HB2 X2 HSI;clear t0 t1 t2 t3 t4 t5 t6;have HF:=Aa (show BE w0 (.returned (.bool true)) w3 from ⟨rfl,HB3.out⟩)
 by_cases h2:200<r
 · have g2:(200:Int)<(r:Int):=(by omega);go_wp2_with fail;go_ret
   exact HF.out
 have g2:¬(200:Int)<(r:Int):=by omega
 have HSG:=Aa (show GY t<=200 from by rw[<-hr3 (by omega)];omega);by_cases h1:100<m
 · have g1:(100:Int)<(m:Int):=(by omega);go_wp2_with fail;go_ret
   exact HF.out
 have g1:¬(100:Int)<(m:Int):=by omega
 clear hr1 hr2 hr3 h2 HF;go_wp2_with fail;refine (HST.out _ HB3.out).mono ?_;rintro e w4 ⟨rfl,b4⟩;have HB4:=Aa (HB3.out.next b4);have X4:=Aa (X3.out.next b4);clear b4 HB3 X3 HST;go_wp2_with fail;refine (HRS.out _ HB4.out).mono ?_;rintro e w5 ⟨rfl,b5⟩;have HB5:=Aa (HB4.out.next b5);have X5:=Aa (X4.out.next b5);clear b5 HB4 X4 HRS;go_upto_if 26 with fail
 go_cut [6,7,8,26] (fun s6 s7 s8 s9 wx=>Hid (Below w0.heap.size w0 wx)/\Hid (Ap 33 wx w0.heap.size #[.int .i64 kd,.slice Al nl cl,.slice Ar nr cr,.int .i64 op,.string p,.string q,.slice A n c]))
 case first=>
   cases hr:Bd ms with
   |false=>
    go_wp2_with fail;go_meet
    case rel=>exact ⟨HB5,X5⟩
   |true=>
    have hok:=(EN ms).1 hr;have hmx:=JF hok true;have hsb:=HSB.out;rw[if_pos hr]at hsb;have HLO:=Aa (S9 ms hok (fun m _ _=>rfl) (by omega));rw[<-hsb]at HLO;have HPS:=Aa (fun W=>I6 ⟨sb.toArray⟩ W (by rw[OC,hsb];omega));rw[HLO.out]at HPS;unfold QN at HPS;dsimp only at HPS
    have hml:ms.length=m:=(HM.out w0 (Below.refl _ _)).1;have HML:=Aa hml;clear hok hmx hsb HLO hml hr;go_wp2_with fail;refine (HPS.out _).mono ?_;rintro e w6 ⟨A1,c1,rfl,-,-,hm1,b6⟩;obtain ⟨xa,hb,-⟩:=Av 25 w6 #[.int .i64 0,.int .i64 0];have HB6:=Aa (HB5.out.next (b6.next hb));have X6:=Aa (X5.out.next (b6.next hb));have HM6:=Aa (hm1.keep (AC.of_below hb));clear b6 hb xa hm1 HB5 X5 HPS;rw[HML.out];rw[HML.out]at HM6;go_upto_region 8 with fail
    generalize hW:w6.alloc (.cells #[.int .i64 0,.int .i64 0] 25)=W6 at *;clear hW;have HSS:=Aa (G5 _ _ A1 B m c1 d ms W6 HM6.out (HM.out W6 HB6.out) (by omega));unfold BE at HSS;go_wp2_with fail;refine HSS.out.mono ?_;rintro e w7 ⟨rfl,b7⟩;have HB7:=Aa (HB6.out.next b7);have X7:=Aa (X6.out.next b7);clear b7;go_wp2_with fail;go_meet
    case rel=>exact ⟨HB7,X7⟩
 case rest=>
   obtain ⟨HB0,X0⟩:=hcut;clear HB5 X5 HSB HM;generalize wc=y0 at *;have t0:=X0.out.cell 0 _ rfl;have t1:=X0.out.cell 1 _ rfl;have t2:=X0.out.cell 2 _ rfl;have t3:=X0.out.cell 3 _ rfl;have t4:=X0.out.cell 4 _ rfl;have t5:=X0.out.cell 5 _ rfl;have t6:=X0.out.cell 6 _ rfl;go_wp2_with fail;refine (HRI.out _ HB0.out).mono ?_;rintro e v1 ⟨rfl,b1⟩;have HB1:=Aa (HB0.out.next b1);have X1:=Aa (X0.out.next b1);clear b1 HRI HB0 X0;clear t0 t1 t2 t3 t4 t5 t6
   have t0:=X1.out.cell 0 _ rfl;have t1:=X1.out.cell 1 _ rfl;have t2:=X1.out.cell 2 _ rfl;have t3:=X1.out.cell 3 _ rfl;have t4:=X1.out.cell 4 _ rfl;have t5:=X1.out.cell 5 _ rfl;have t6:=X1.out.cell 6 _ rfl;cases hr:AH t 60 with
   |false=>
    have HTN:=Aa (fun W h=>HTX.out W h hr);clear hr;go_wp2_with fail;refine (HTN.out _ HB1.out).mono ?_;rintro e v2 ⟨rfl,b2⟩;have HF:=Aa (show BE w0 (.returned (.bool true)) v2 from ⟨rfl,HB1.out.next b2⟩);have ge1:((⟨([]:List UInt8).toArray⟩:ByteArray).toList==([]:List UInt8))=true:=(by decide +kernel);have ge2:((⟨#[]⟩:ByteArray).toList==([]:List UInt8))=true:=(by decide +kernel);have ge3:((⟨#[]⟩:ByteArray).toList)=([]:List UInt8):=(by decide +kernel);clear b2
    clear t0 t1 t2 t3 t4 t5 t6;go_wp2_with fail;go_ret
    first|exact HF.out|(simp only[ge1,ge2];exact HF.out)|(rw[ge1];exact HF.out)
   |true=>
    obtain ⟨u,rfl,hu⟩:=Ue (lv:=60) hr;have hnd:=HSG.out;rw[UG]at hnd;have hlen:=Qf u 60 hu;have HTY:=Aa (fun W (h:Below w0.heap.size w0 W)=>GB W (HT.out W h) HZ.out hu (HTAB.out W h) (by omega));unfold Bw at HTY;obtain ⟨tx,htx⟩:∃tx:ByteArray,(⟨(Ai u).toArray⟩:ByteArray)=tx:=⟨_,rfl⟩;rw[htx]at HTY;have hts:tx.size=(Ai u).length:=(by rw[<-htx,OC]);have HPC:=Aa (fun W (h:Below w0.heap.size w0 W)=>Cs tx W (by omega) (HTAB.out W h));unfold QM at HPC;by_cases hL:16384<tx.size
    · have g3:(16384:Int)<(tx.size:Int):=(by omega);have hlo:=SI hL;generalize DR tx=rc at *;obtain ⟨G,x,y,z⟩:=rc;dsimp only at hlo HPC
      subst hlo;clear hL hlen hnd hr hu htx hts;go_wp2_with fail;refine (HTY.out _ HB1.out).mono ?_;rintro e v2 ⟨rfl,b2⟩;have HB2:=Aa (HB1.out.next b2);clear b2;clear t0 t1 t2 t3 t4 t5 t6;go_wp2_with fail;refine (HPC.out _ HB2.out).mono ?_;rintro e v3 ⟨kd3,Al3,J0,cl3,Ar3,nr3,cr3,op3,p3,q3,A3,n3,c3,rfl,hT3,b3⟩
      obtain ⟨xa,xb,hb,-⟩:=Az 33 25 v3 #[.int .i64 kd3,.slice Al3 J0 cl3,.slice Ar3 nr3 cr3,.int .i64 op3,.string p3,.string q3,.slice A3 n3 c3] #[.int .i64 (x:Nat),.int .i64 (y:Nat)];have HF:=Aa (show BE w0 (.returned (.bool true)) ((v3.alloc (.cells #[.int .i64 kd3,.slice Al3 J0 cl3,.slice Ar3 nr3 cr3,.int .i64 op3,.string p3,.string q3,.slice A3 n3 c3] 33)).alloc (.cells #[.int .i64 (x:Nat),.int .i64 (y:Nat)] 25)) from ⟨rfl,HB2.out.next (b3.next hb)⟩)
      clear xa xb hb b3 hT3 HB2;go_wp2_with fail;go_ret
      exact HF.out
    · have g3:¬(16384:Int)<(tx.size:Int):=(by omega);have hbk:=Mh u hu (Mi u) (by omega);rw[htx]at hbk;rw[hbk]at HPC;dsimp only at HPC
      have HSM:=Aa (O1 u 60 hu);clear hL hlen hnd hr hu htx hts hbk;go_wp2_with fail;refine (HTY.out _ HB1.out).mono ?_;rintro e v2 ⟨rfl,b2⟩;have HB2:=Aa (HB1.out.next b2);have X2:=Aa (X1.out.next b2);clear b2 HB1 X1;clear t0 t1 t2 t3 t4 t5 t6;go_wp2_with fail;refine (HPC.out _ HB2.out).mono ?_;rintro e v3 ⟨kd3,Al3,J0,cl3,Ar3,nr3,cr3,op3,p3,q3,A3,n3,c3,rfl,hT3,b3⟩
      obtain ⟨xa,xb,hb,-⟩:=Az 33 25 v3 #[.int .i64 kd3,.slice Al3 J0 cl3,.slice Ar3 nr3 cr3,.int .i64 op3,.string p3,.string q3,.slice A3 n3 c3] #[.int .i64 0,.int .i64 0];have HB3:=Aa (HB2.out.next (b3.next hb));have X3:=Aa (X2.out.next (b3.next hb));have XE:=Aa xa;have HT3:=Aa (hT3.keep (AC.of_below hb));clear xa xb hb b3 hT3 HB2 X2 HPC HTY;go_upto_region 16 with fail
      generalize hW:(v3.alloc (.cells #[.int .i64 kd3,.slice Al3 J0 cl3,.slice Ar3 nr3 cr3,.int .i64 op3,.string p3,.string q3,.slice A3 n3 c3] 33)).alloc (.cells #[.int .i64 0,.int .i64 0] 25)=W3 at *;clear hW;have HSY:=Aa (Kx HT3.out HSM.out W3 _ _ (Below.refl _ _) (HT.out W3 HB3.out));unfold BE at HSY
      have t0:=X3.out.cell 0 _ rfl;have t1:=X3.out.cell 1 _ rfl;have t2:=X3.out.cell 2 _ rfl;have t3:=X3.out.cell 3 _ rfl;have t4:=X3.out.cell 4 _ rfl;have t5:=X3.out.cell 5 _ rfl;have t6:=X3.out.cell 6 _ rfl;have u0:=XE.out.cell 0 _ rfl;have u1:=XE.out.cell 1 _ rfl;have u2:=XE.out.cell 2 _ rfl;have u3:=XE.out.cell 3 _ rfl;have u4:=XE.out.cell 4 _ rfl;have u5:=XE.out.cell 5 _ rfl;have u6:=XE.out.cell 6 _ rfl;go_wp2_with fail;refine HSY.out.mono ?_;rintro e v4 ⟨rfl,b4⟩
      have HF:=Aa (show BE w0 (.returned (.bool true)) v4 from ⟨rfl,HB3.out.next b4⟩);clear b4 u0 u1 u2 u3 u4 u5 u6;clear t0 t1 t2 t3 t4 t5 t6;go_wp2_with fail;go_ret
      exact HF.out
theorem Lm (B:Option Addr) (m d:Nat) (ms:List Mn) (t:GT) (cs:Array Value) (w0:World)
  (hm:Dg Ge w0 B m ms) (hmd:m<=d) (hd:d<=9223372036854775807) (hmz:KQ ms/\ms.length<=4611686018427387903) (ht:Bt Ge w0 t cs.toList) (htz:Ky t) (htab:AQ w0):Calls Tryz.prog 4 #[.slice B m d,.agg cs] w0 (BE w0):=by
 obtain ⟨kd,Al,nl,cl,Ar,nr,cr,op,p,q,A,n,c,e⟩:=ht.shape;obtain rfl:cs=#[.int .i64 kd,.slice Al nl cl,.slice Ar nr cr,.int .i64 op,.string p,.string q,.slice A n c]:=by cases cs;simpa using e
 exact Nj B m d ms t kd op Al Ar A nl cl nr cr n c p q w0 hm hmd hd hmz.1 (by rw[<-hm.1];exact hmz.2) ht htz htab
end
end Go.Proofs.YtgohmojcopajoaaGreatDoor
