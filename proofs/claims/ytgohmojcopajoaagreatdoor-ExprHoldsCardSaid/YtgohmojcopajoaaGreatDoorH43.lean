/- Texts of one seat, put together: R4Few OpenTr ExprHr OpenTx ExprTab OpenV. -/
import Derived.Test.YtgohmojcopajoaaGreatDoorH42
import Derived.Test.YtgohmojcopajoaaGreatDoorRows
import Derived.Test.YtgohmojcopajoaaGreatDoorH25
import Derived.Deep.Strs
import Derived.Deep.Grids
import Derived.SizedLaws
import Derived.Test.YtgohmojcopajoaaGreatDoorH35
import Derived.Test.YtgohmojcopajoaaGreatDoorH39
import Derived.Test.YtgohmojcopajoaaGreatDoorH03
import Derived.Test.YtgohmojcopajoaaGreatDoorH24
import Derived.Lib.LaidTab
import Derived.MakeChecks
set_option linter.unusedVariables false
set_option linter.unusedSimpArgs false
set_option maxRecDepth 100000
set_option maxHeartbeats 16000000
namespace Go.Proofs.YtgohmojcopajoaaGreatDoor.Nu
section
open Go.RowKit
def Ys (w:World) (li:Nat) (r:RV):Prop:=r.n<=20/\AW w r.trm r.L r.K li
def Yt (mo li:Nat) (rs:List RV) (w:World) (e:Ending) (w':World):Prop:=∃r,e=.returned (.bool r)/\(r=true->rs.length<=mo/\∀x∈rs,Ys w li x)/\w'=w
def Oc (mo li:Nat) (A:Option Addr) (n:Nat) (vs:List IV) (w:World) (e:Ending) (w':World):Prop:=∃r,e=.returned (.bool r)/\(r=true->n<=mo/\CJ w A n vs li)/\w'=w
theorem KD (A:Option Addr) (n c mo li:Nat) (vs:List IV) (w0:World) (hx:CJ w0 A n vs big) (hn:n<=9223372036854775807) (hmo:mo<=1000) (hli:li<=1000):Calls Tryz.prog 20 #[.slice A n c,.int .i64 mo,.int .i64 li] w0 (Oc mo li A n vs w0):=by
 have HX:=Aa hx;have HLN:=Aa hx.1;clear hx;go_enter Tryz.func20,Tryz.ntmps20;by_cases hnm:(mo:Int)<n
 · go_wp2_with fail;go_ret
   exact ⟨false,rfl,(fun h=>by cases h),rfl⟩
 have HNM:=Aa hnm;go_wp2_with fail;have HF:=Aa (show ∀i t,i<0->vs[i]?=some t->t.m<=li from fun i t h=>by omega);go_loopw [7] (fun i wr=>∃q:Nat,q<=n/\i=.int .i64 q/\Hid (∀i t,i<q->vs[i]?=some t->t.m<=li)/\wr=w0) (fun i _=>n-(intOf i).toNat)
 case atStart=>exact ⟨0,Nat.zero_le _,rfl,HF,by trivial⟩
 case round=>
   obtain ⟨q,hq,rfl,HFq,rfl⟩:=hrel;by_cases hqn:q<n
   · obtain ⟨vb,vo,iv,hA,hiv,e0,e1,hzi⟩:=HX.out.at_ hqn;rw[hA]at *;have hpm:=hzi.bounds;have HIV:=Aa hiv;rw[Nat.mul_comm 2 q]at e0 e1;rw[<-Nat.add_assoc]at e1;clear hzi hiv;by_cases h20:(li:Int)<iv.m
     · go_wp2_with fail;go_ret
       exact ⟨false,rfl,(fun h=>by cases h),rfl⟩
     · go_wp2_with fail;go_roundw
       case rel=>exact ⟨q+1,by omega,by go_num,fun i x hi hx=>by
        by_cases hir:i<q
        · exact HFq.out i x hir hx
        · obtain rfl:i=q:=(by omega);rw[HIV.out]at hx;injection hx with hx
          subst hx;omega,by trivial⟩
       case measure=>simp[intOf]<;>omega
   · obtain rfl:q=n:=(by omega);go_wp2_with fail;go_ret
     refine ⟨true,rfl,fun _=>⟨by have:=HNM.out;omega,HX.out.1,HX.out.2.1,fun p hp=>?_⟩,rfl⟩;obtain ⟨y,hy,hyp⟩:=List.mem_iff_getElem.1 hp;exact (HX.out.2.2 p hp).cut (HFq.out y p (by have:=HLN.out;omega) (by rw[List.getElem?_eq_getElem hy,hyp]))
end
end Go.Proofs.YtgohmojcopajoaaGreatDoor.Nu
namespace Go.Proofs.YtgohmojcopajoaaGreatDoor
section
open Go.ChangeShapes Go.WideShapes Go.ChangeAt Go.RowKit Go.Deep
open Lx Ex
theorem LF:Tryz.prog.cellsOf 88=3:=by kernel_rfl
theorem P7:Tryz.prog.cellsOf 23=1:=by kernel_rfl
theorem LG:Tryz.prog.cellsOf 33=7:=by kernel_rfl
theorem P8:Tryz.prog.cellsOf 31=1:=by kernel_rfl
theorem cellsIn:Tryz.prog.cellsOf 3=1:=by kernel_rfl
theorem VK:Tryz.prog.cellsOf 4=1:=by kernel_rfl
theorem Od:Tryz.prog.cellsOf 9=1:=by kernel_rfl
instance:Inhabited Mn:=⟨⟨⟨#[]⟩,⟨#[]⟩,false⟩⟩
instance:Inhabited GT:=⟨.mk 0 [] [] 0 ⟨#[]⟩ ⟨#[]⟩ []⟩
def Kb (_:Nat):Prop:=True
theorem choose_lt {α:Type} [Inhabited α] {n:Nat} {p:Nat->α->Prop} (h:∀i,i<n->∃q,p i q):∃q:Nat->α,∀i,i<n->p i (q i):=
 ⟨fun i=>if hi:i<n then Classical.choose (h i hi) else default,fun i hi=>by
  show p i (if hi:i<n then Classical.choose (h i hi) else default);rw[dif_pos hi];exact Classical.choose_spec (h i hi)⟩
section
variable {H:Type} {enc:TypeId×Value->H} {W:World} {f:Nat} {x:DataW H×List MemPlace} {cs:List Value}
def FF (t:TypeId) (d:DataW H):Prop:=∀n∈d.weights Tryz.prog t,n<=reachBytes
theorem DZ {e:TypeId}:∀{ds:List (DataW H)} {d:DataW H},d∈ds->∀n∈d.weights Tryz.prog e,n∈DataW.weightsAll Tryz.prog e ds
 |[],_,h,_,_=>by cases h
 |d0::ds,d,h,n,hn=>by
  simp only[DataW.weightsAll,List.mem_append];rcases List.mem_cons.1 h with rfl|h
  · exact Or.inl hn
  · exact Or.inr (DZ h n hn)
theorem Sd (h:DataW.trod enc Tryz.prog W 0 (fun _=>true) true f 88 cs=some x):∃m:Mn,cs=m.cells/\(FF 88 x.1->m.num.size<=4611686018427387904/\m.var.size<=4611686018427387904):=by
 obtain ⟨xs,n,hn,hx,hl,hlen,hf⟩:=DataW.trod_struct Tryz.underlying88 h;rw[LF]at hl;match cs,hl,xs,hlen with
 |[v0,v1,v2],_,[y0,y1,y2],_=>
  have g0:DataW.trod enc Tryz.prog W 0 (fun _=>true) true n 4 (([v0,v1,v2].drop 0).take (Tryz.prog.cellsOf 4))=some y0:=hf 0 _ rfl;have g1:DataW.trod enc Tryz.prog W 0 (fun _=>true) true n 9 (([v0,v1,v2].drop 1).take (Tryz.prog.cellsOf 9))=some y1:=hf 1 _ rfl;have g2:DataW.trod enc Tryz.prog W 0 (fun _=>true) true n 9 (([v0,v1,v2].drop 2).take (Tryz.prog.cellsOf 9))=some y2:=hf 2 _ rfl;rw[VK]at g0;rw[Od]at g1 g2;obtain ⟨b,e0,-⟩:=DataW.trod_bool Tryz.underlying4 g0
  obtain ⟨s,e1,z1,-⟩:=DataW.trod_string Tryz.underlying9 g1;obtain ⟨q,e2,z2,-⟩:=DataW.trod_string Tryz.underlying9 g2;injection e0 with e0
  injection e1 with e1
  injection e2 with e2
  subst e0 e1 e2;refine ⟨⟨s,q,b⟩,rfl,fun hz=>?_⟩;rw[hx]at hz;have k1:=hz s.data.toList.length (by simp[DataW.weights,DataW.weightsEach,Tryz.underlying88,z1,z2]);have k2:=hz q.data.toList.length (by simp[DataW.weights,DataW.weightsEach,Tryz.underlying88,z1,z2]);simp only[Array.length_toList,reachBytes]at k1 k2;exact ⟨by show s.data.size<=_;omega,by show q.data.size<=_;omega⟩
theorem Kc (h:DataW.trod enc Tryz.prog W 0 (fun _=>true) true f 23 cs=some x):∃A n c l,cs=[.slice A n c]/\Du Kb W A n l/\n<=c/\c<=9223372036854775807 /\
   (FF 23 x.1->JQ l/\l.length<=4611686018427387903):=by
 rcases DataW.trod_slice Tryz.underlying23 h with ⟨hcs,_⟩|⟨a,len,cap,elems,rest,m,hm,hcs,hxe,-,hlc,hmx,hel,hx,-⟩
 · exact ⟨none,0,0,[],hcs,Du.nil _ _ _,by omega,by omega,fun _=>⟨(fun m hm=>by cases hm),Nat.zero_le _⟩⟩
 · unfold maxLen at hmx;obtain ⟨q,hq⟩:=choose_lt (α:=Mn) (n:=len) (p:=fun i q=>(∀r u,q.cells[r]?=some u->W.cell? (a.add (i*3+r))=some u)/\∀d,elems[i]?=some d->FF 88 d.1->q.num.size<=4611686018427387904/\q.var.size<=4611686018427387904) (fun i hi=>by
     have h1:=hx i hi;rw[List.getElem?_eq_getElem (by omega)]at h1;obtain ⟨cs',h2,h3⟩:=Option.bind_eq_some_iff.1 h1;rw[LF]at h2;obtain ⟨_,hlen,hcell⟩:=World.cells?_some h2;obtain ⟨t,ht,hs⟩:=Sd h3;refine ⟨t,fun r u hu=>?_,fun d hd=>?_⟩
     · rw[<-ht]at hu;have hr:r<3:=(by have:=(List.getElem?_eq_some_iff.1 hu).1;omega);rw[<-hu,<-hcell r hr,add_add]
     · rw[List.getElem?_eq_getElem (by omega)]at hd;injection hd with hd
       rw[<-hd];exact hs)
   have hget:∀i,i<len->((List.range len).map q)[i]?=some (q i):=fun i hi=>by rw[List.getElem?_map,List.getElem?_range hi];rfl
   refine ⟨some a,len,cap,(List.range len).map q,hcs,⟨by simp,fun hn=>?_⟩,hlc,hmx,fun hz=>⟨fun m hm=>?_,?_⟩⟩
   · have h0:=(hq 0 hn).1 0 _ rfl;obtain ⟨b,o,spot⟩:=a;have hspot:spot=none:=(by simpa[Addr.add] using World.cell?_spot h0);subst hspot;refine ⟨b,o,rfl,trivial,World.block_lt_of_cell? W _ h0,fun j u hu=>?_⟩;have hj:j<3*len:=by
       have:=(List.getElem?_eq_some_iff.1 hu).1;rw[QD]at this;simpa using this
     obtain ⟨i,r,rfl,hr⟩:∃i r,j=i*3+r/\r<3:=⟨j/3,j%3,by omega,by omega⟩;have hi:i<len:=(by omega);have hg:=KV _ i _ (hget i hi);have hc:=(hq i hi).1;rw[<-addr_add];refine hc r u ?_;rw[<-hu,Nat.mul_comm i 3];match r,hr with
     |0,_=>exact hg.1.symm
     |1,_=>exact hg.2.1.symm
     |2,_=>exact hg.2.2.symm
   · obtain ⟨i,hi,rfl⟩:=List.mem_map.1 hm;have hi:=List.mem_range.1 hi;refine (hq i hi).2 _ (List.getElem?_eq_getElem (by omega)) (fun w hw=>hz w ?_);rw[hxe];simp only[DataW.weights,Tryz.underlying23,List.mem_cons,List.mem_append];exact Or.inr (Or.inl (DZ (List.mem_map.2 ⟨_,List.getElem_mem (by omega),rfl⟩) w hw))
   · have k:=hz ((elems.length+rest.length)*Tryz.prog.bytesOf 88) (by rw[hxe];simp[DataW.weights,Tryz.underlying23]);have hb:1<=Tryz.prog.bytesOf 88:=(by decide +kernel);have:=Nat.le_mul_of_pos_right (elems.length+rest.length) hb;simp only[reachBytes]at k;rw[List.length_map,List.length_range];omega
theorem IQ:∀(f:Nat) (cs:List Value) (x:DataW H×List MemPlace),DataW.trod enc Tryz.prog W 0 (fun _=>true) true f 33 cs=some x->∃t:GT,AW Kb W t cs/\(FF 33 x.1->IK t):=by
 intro f;induction f using Nat.strongRecOn with
 |_ f ih=>
  intro cs x h;obtain ⟨xs,n,hn,hxx,hl,hlen,hf⟩:=DataW.trod_struct Tryz.underlying33 h;rw[LG]at hl;match cs,hl,xs,hlen with
  |[v0,v1,v2,v3,v4,v5,v6],_,[y0,y1,y2,y3,y4,y5,y6],_=>
   have g0:DataW.trod enc Tryz.prog W 0 (fun _=>true) true n 3 (([v0,v1,v2,v3,v4,v5,v6].drop 0).take (Tryz.prog.cellsOf 3))=some y0:=hf 0 _ rfl;have g1:DataW.trod enc Tryz.prog W 0 (fun _=>true) true n 23 (([v0,v1,v2,v3,v4,v5,v6].drop 1).take (Tryz.prog.cellsOf 23))=some y1:=hf 1 _ rfl;have g2:DataW.trod enc Tryz.prog W 0 (fun _=>true) true n 23 (([v0,v1,v2,v3,v4,v5,v6].drop 2).take (Tryz.prog.cellsOf 23))=some y2:=hf 2 _ rfl
   have g3:DataW.trod enc Tryz.prog W 0 (fun _=>true) true n 3 (([v0,v1,v2,v3,v4,v5,v6].drop 3).take (Tryz.prog.cellsOf 3))=some y3:=hf 3 _ rfl;have g4:DataW.trod enc Tryz.prog W 0 (fun _=>true) true n 9 (([v0,v1,v2,v3,v4,v5,v6].drop 4).take (Tryz.prog.cellsOf 9))=some y4:=hf 4 _ rfl;have g5:DataW.trod enc Tryz.prog W 0 (fun _=>true) true n 9 (([v0,v1,v2,v3,v4,v5,v6].drop 5).take (Tryz.prog.cellsOf 9))=some y5:=hf 5 _ rfl
   have g6:DataW.trod enc Tryz.prog W 0 (fun _=>true) true n 31 (([v0,v1,v2,v3,v4,v5,v6].drop 6).take (Tryz.prog.cellsOf 31))=some y6:=hf 6 _ rfl;rw[cellsIn]at g0 g3;rw[P7]at g1 g2;rw[Od]at g4 g5;rw[P8]at g6;obtain ⟨k,e0,-,-⟩:=DataW.trod_int Tryz.underlying3 g0;obtain ⟨op,e3,-,-⟩:=DataW.trod_int Tryz.underlying3 g3;obtain ⟨Al,nl,cl,l,e1,hml,hl1,hl2,zl⟩:=Kc g1;obtain ⟨Ar,nr,cr,r,e2,hmr,hr1,hr2,zr⟩:=Kc g2;obtain ⟨p,e4,z4,-⟩:=DataW.trod_string Tryz.underlying9 g4
   obtain ⟨q,e5,z5,-⟩:=DataW.trod_string Tryz.underlying9 g5;injection e0 with e0
   injection e1 with e1
   injection e2 with e2
   injection e3 with e3
   injection e4 with e4
   injection e5 with e5
   subst e0 e1 e2 e3 e4 e5;have hsl:FF 33 x.1->(JQ l/\l.length<=4611686018427387903)/\(JQ r/\r.length<=4611686018427387903)/\FF 31 y6.1:=fun hz=>by
     rw[hxx]at hz;refine ⟨zl fun w hw=>hz w ?_,zr fun w hw=>hz w ?_,fun w hw=>hz w ?_⟩<;>(simp only[DataW.weights,DataW.weightsEach,Tryz.underlying33,List.map_cons,List.map_nil,List.mem_append];simp[hw])
   rcases DataW.trod_slice Tryz.underlying31 g6 with ⟨hcs,_⟩|⟨a,len,cap,elems,rest,m,hm,hcs,hxe,-,hlc,hmx,hel,hx,-⟩
   · injection hcs with hcs
     subst hcs;exact ⟨.mk k l r op p q [],AW.mk k op l r p q [] Al Ar none nl cl nr cr 0 0 0 0 (fun _=>[]) hml hmr rfl hl1 hl2 hr1 hr2 (by omega) (by omega) (fun h=>absurd h (by omega)) (fun j h=>absurd h (by omega)) (fun j t h=>by simp at h),
       fun hz=>IK.mk _ _ _ _ _ _ _ (hsl hz).1.1 (hsl hz).2.1.1 (hsl hz).1.2 (hsl hz).2.1.2 (fun t ht=>by cases ht)⟩
   · injection hcs with hcs
     subst hcs;unfold maxLen at hmx;obtain ⟨u,hu⟩:=choose_lt (α:=GT×List Value) (n:=len) (p:=fun i q=>q.2.length=7/\(∀r u,q.2[r]?=some u->W.cell? (a.add (i*7+r))=some u)/\AW Kb W q.1 q.2/\∀d,elems[i]?=some d->FF 33 d.1->IK q.1) (fun i hi=>by
       have h1:=hx i hi;rw[List.getElem?_eq_getElem (by omega)]at h1;obtain ⟨cs',h2,h3⟩:=Option.bind_eq_some_iff.1 h1;rw[LG]at h2;obtain ⟨_,hlen,hcell⟩:=World.cells?_some h2;obtain ⟨t,ht,hs⟩:=ih m (by omega) cs' _ h3;refine ⟨(t,cs'),hlen,fun r u hu=>?_,ht,fun d hd=>?_⟩
       · have hr:r<7:=(by have:=(List.getElem?_eq_some_iff.1 (show cs'[r]?=some u from hu)).1;omega);rw[<-show cs'[r]?=some u from hu,<-hcell r hr,add_add]
       · rw[List.getElem?_eq_getElem (by omega)]at hd;injection hd with hd
         rw[<-hd];exact hs)
     have hform:∀j,j<len->a=⟨a.block,a.off,none⟩/\a.block<W.heap.size:=fun j hj=>by
       obtain ⟨hl3,hc3,-⟩:=hu 0 (by omega);have h0:=hc3 0 _ (List.getElem?_eq_getElem (by omega));obtain ⟨b,o,spot⟩:=a;have hspot:spot=none:=(by simpa[Addr.add] using World.cell?_spot h0);subst hspot;exact ⟨rfl,World.block_lt_of_cell? W _ h0⟩
     refine ⟨.mk k l r op p q ((List.range len).map fun i=>(u i).1),AW.mk k op l r p q _ Al Ar (some a) nl cl nr cr len cap a.block a.off (fun i=>(u i).2) hml hmr (by simp) hl1 hl2 hr1 hr2 hlc hmx (fun hn=>?_) (fun j hj=>⟨(hu j hj).1,fun r u' hu'=>?_⟩) (fun j t ht=>?_),
       fun hz=>IK.mk _ _ _ _ _ _ _ (hsl hz).1.1 (hsl hz).2.1.1 (hsl hz).1.2 (hsl hz).2.1.2 (fun t ht=>?_)⟩
     · obtain ⟨e,hlt⟩:=hform 0 hn;exact ⟨congrArg some e,trivial,hlt⟩
     · have h0:=(hu j hj).2.1 r u' hu';rw[(hform j hj).1,addr_add,<-Nat.add_assoc]at h0;exact h0
     · have hj:j<len:=by
         rcases Nat.lt_or_ge j len with h|h
         · exact h
         · rw[List.getElem?_eq_none (by simpa using h)]at ht;cases ht
       rw[List.getElem?_map,List.getElem?_range hj]at ht;injection ht with ht
       subst ht;exact (hu j hj).2.2.1
     · obtain ⟨j,hj,rfl⟩:=List.mem_map.1 ht;have hj:=List.mem_range.1 hj;refine (hu j hj).2.2.2 _ (List.getElem?_eq_getElem (by omega)) (fun w hw=>(hsl hz).2.2 w ?_);rw[hxe];simp only[DataW.weights,Tryz.underlying31,List.mem_cons,List.mem_append];exact Or.inr (Or.inl (DZ (List.mem_map.2 ⟨_,List.getElem_mem (by omega),rfl⟩) w hw))
theorem open_tree {b:Nat} {v:Value} {d:DataW H} {p:List MemPlace} (hv:Value.okWide Tryz.prog W .any b 33 v)
  (h0:DataW.Trod enc Tryz.prog W 0 (fun _=>true) true 33 v d p):∃(t:GT) (cs:Array Value),v=.agg cs/\AW Kb W t cs.toList/\(FF 33 d->IK t):=by
 obtain ⟨cs,rfl,hsz⟩:=okWide_struct Tryz.underlying33 hv;obtain ⟨fuel,hf⟩:=h0;obtain ⟨t,ht,hs⟩:=IQ _ _ _ hf;exact ⟨t,cs,rfl,ht,hs⟩
theorem U8 {ts:List TypeId} {ds:List (DataW H)} (h:(DataW.weightsEach Tryz.prog ts ds).all (·<=reachBytes)=true) {j:Nat} {t:TypeId} {d:DataW H} (ht:ts[j]?=some t) (hd:ds[j]?=some d):FF t d:=
  fun n hn=>by simpa using List.all_eq_true.1 h _ (DataW.weights_mem_each ht hd n hn)
end
end
section
open Go.RowKit
open Lx Ex
theorem KE (t:GT) (kd op:Int) (Al Ar A:Option Addr) (nl cl nr cr n c:Nat) (p q:ByteArray) (V:Option Addr) (mv dv:Nat) (vs:List ByteArray) (VA:Option Addr) (vn vc:Nat) (ivs:List Nu.IV) (w0:World)
   (ht:AW Kb w0 t [.int .i64 kd,.slice Al nl cl,.slice Ar nr cr,.int .i64 op,.string p,.string q,.slice A n c]) (htz:IK t) (hS:EN w0 V mv vs) (hm:mv<=9223372036854775807) (hvs:Nu.CJ w0 VA vn ivs Nu.big) (hvn:vn<=9223372036854775807) (htab:Bc w0):Calls Tryz.prog 6 #[.agg #[.int .i64 kd,.slice Al nl cl,.slice Ar nr cr,.int .i64 op,.string p,.string q,.slice A n c],.slice V mv dv,.slice VA vn vc] w0 (Fv w0):=by
 have HAL:=Aa (fun W (h:Below w0.heap.size w0 W)=>RB W (htab.below h));have HSI:=Aa (fun W (h:Below w0.heap.size w0 W)=>(show Calls Tryz.prog 15 #[.agg #[.int .i64 kd,.slice Al nl cl,.slice Ar nr cr,.int .i64 op,.string p,.string q,.slice A n c],.int .i64 60] W (I1 t 60 W) from RD ht 60 W (by decide) h));have HFV:=Aa (fun W (h:Below w0.heap.size w0 W)=>Nu.KD VA vn vc 10 4 ivs W (hvs.below h) hvn (by decide) (by decide))
 have HT:=Aa (fun W (h:Below w0.heap.size w0 W)=>ht.keep (AJ.of_below h));have HSV:=Aa (fun W (h:Below w0.heap.size w0 W)=>hS.below h);have HZ:=Aa htz;unfold Fv at HAL;unfold I1 at HSI;unfold Nu.Oc at HFV;obtain ⟨x1,hb,-⟩:=Ap 33 w0 #[.int .i64 kd,.slice Al nl cl,.slice Ar nr cr,.int .i64 op,.string p,.string q,.slice A n c];have HB1:=Aa hb;have X1:=Aa x1;clear ht htz htab hb x1 hS hvs;go_enter Tryz.func6,Tryz.ntmps6;go_wp2_with fail
 generalize hW:w0.alloc (.cells #[.int .i64 kd,.slice Al nl cl,.slice Ar nr cr,.int .i64 op,.string p,.string q,.slice A n c] 33)=W1 at *;clear hW;refine (HAL.out W1 HB1.out).mono ?_;rintro e w2 ⟨rfl,b2⟩;have HB2:=Aa (HB1.out.next b2);have X2:=Aa (X1.out.next b2);clear b2 HB1 X1 HAL
 have t0:=X2.out.cell 0 _ rfl;have t1:=X2.out.cell 1 _ rfl;have t2:=X2.out.cell 2 _ rfl;have t3:=X2.out.cell 3 _ rfl;have t4:=X2.out.cell 4 _ rfl;have t5:=X2.out.cell 5 _ rfl;have t6:=X2.out.cell 6 _ rfl;go_wp2_with fail;refine (HSI.out _ HB2.out).mono ?_;rintro e w3 ⟨r,rfl,hr1,hr2,hr3,b3⟩;have HB3:=Aa (HB2.out.next b3);have X3:=Aa (X2.out.next b3);clear b3 HB2 X2 HSI;clear t0 t1 t2 t3 t4 t5 t6;have HF:=Aa (show Fv w0 (.returned (.bool true)) w3 from ⟨rfl,HB3.out⟩)
 by_cases h2:60<r
 · have g2:(60:Int)<(r:Int):=(by omega);go_wp2_with fail;go_ret
   exact HF.out
 have g2:¬(60:Int)<(r:Int):=by omega
 by_cases h1:10<mv
 · have g1:(10:Int)<(mv:Int):=(by omega);go_wp2_with fail;go_ret
   exact HF.out
 have g1:¬(10:Int)<(mv:Int):=by omega
 clear hr1 hr2 hr3 h2;go_wp2_with fail;refine (HFV.out _ HB3.out).mono ?_;rintro en w4 ⟨r2,rfl,hr2,hw⟩;subst hw;have HR2:=Aa hr2;clear hr2 HFV;cases r2 with
 |false=>
   go_wp2_with fail;go_ret
   exact HF.out
 |true=>
   have HV2:=Aa (HR2.out rfl);clear HF HR2;have t0:=X3.out.cell 0 _ rfl;have t1:=X3.out.cell 1 _ rfl;have t2:=X3.out.cell 2 _ rfl;have t3:=X3.out.cell 3 _ rfl;have t4:=X3.out.cell 4 _ rfl;have t5:=X3.out.cell 5 _ rfl;have t6:=X3.out.cell 6 _ rfl;cases hr:AF t 60 with
   |false=>
    have HFO:=Aa (fun W (h:Below w0.heap.size w0 W)=>VG V mv dv vs W (HT.out W h) HZ.out hr);unfold VF at HFO;clear hr;go_wp2_with fail;refine (HFO.out _ HB3.out).mono ?_;rintro e w5 ⟨fk,fA,fn,fc,fs,fB,fm,fd,ff,fC,fp,fq,rfl,-,hk,b5⟩;obtain rfl:fk=1:=hk trivial;obtain ⟨xf,hb,-⟩:=Ap 61 w5 #[.int .i64 1,.slice fA fn fc,.bool fs,.slice fB fm fd,.bool ff,.slice fC fp fq]
    have HF:=Aa (show Fv w0 (.returned (.bool true)) (w5.alloc (.cells #[.int .i64 1,.slice fA fn fc,.bool fs,.slice fB fm fd,.bool ff,.slice fC fp fq] 61)) from ⟨rfl,HB3.out.next (b5.next hb)⟩);have f0:=xf.cell 0 _ rfl;clear b5 hb xf HFO;clear t0 t1 t2 t3 t4 t5 t6;go_wp2_with fail;go_ret
    exact HF.out
   |true=>
    obtain ⟨u,rfl,hu⟩:=TW (lv:=60) hr;have HFO:=Aa (fun W (h:Below w0.heap.size w0 W)=>Xe V mv dv vs W (HT.out W h) HZ.out hu (HSV.out W h) hm);have HOK:=Aa (Qn u 60 hu HZ.out);have HFT:=Aa (fun f hf=>Pu vs (Nu.nums ivs) u 60 hu f hf);clear hr;unfold VF at HFO;generalize AX vs u=R at *;cases R with
    |none=>
     go_wp2_with fail;refine (HFO.out _ HB3.out).mono ?_;rintro e w5 ⟨fk,fA,fn,fc,fs,fB,fm,fd,ff,fC,fp,fq,rfl,-,hk,b5⟩;obtain rfl:fk=1:=hk trivial;obtain ⟨xf,hb,-⟩:=Ap 61 w5 #[.int .i64 1,.slice fA fn fc,.bool fs,.slice fB fm fd,.bool ff,.slice fC fp fq];have HF:=Aa (show Fv w0 (.returned (.bool true)) (w5.alloc (.cells #[.int .i64 1,.slice fA fn fc,.bool fs,.slice fB fm fd,.bool ff,.slice fC fp fq] 61)) from ⟨rfl,HB3.out.next (b5.next hb)⟩);have f0:=xf.cell 0 _ rfl
     clear b5 hb xf HFO;clear t0 t1 t2 t3 t4 t5 t6;go_wp2_with fail;go_ret
     exact HF.out
    |some F=>
     go_wp2_with fail;refine (HFO.out _ HB3.out).mono ?_;rintro e w5 ⟨fk,fA,fn,fc,fs,fB,fm,fd,ff,fC,fp,fq,rfl,hf5,-,b5⟩;have hb6:=Ae w5 (.cells #[.int .i64 fk,.slice fA fn fc,.bool fs,.slice fB fm fd,.bool ff,.slice fC fp fq] 61);have XF:=Aa (show Am 61 (w5.alloc (.cells #[.int .i64 fk,.slice fA fn fc,.bool fs,.slice fB fm fd,.bool ff,.slice fC fp fq] 61)) w5.heap.size #[.int .i64 fk,.slice fA fn fc,.bool fs,.slice fB fm fd,.bool ff,.slice fC fp fq] from Am.new _ _ _)
     have X6:=Aa ((X3.out.next b5).next hb6);have HB6:=Aa ((HB3.out.next b5).next hb6);have HF6:=Aa ((hf5 F rfl).blw hb6);have HB46:=Aa (b5.next hb6);clear b5 hb6 hf5 HFO;clear t0 t1 t2 t3 t4 t5 t6;go_upto_region 8 with fail;generalize w5.heap.size=gF at *;generalize hW:w5.alloc (.cells #[.int .i64 fk,.slice fA fn fc,.bool fs,.slice fB fm fd,.bool ff,.slice fC fp fq] 61)=W6 at *;clear hW;obtain ⟨hb0,hhb⟩:∃hb0,hb0=Cc vs (Nu.nums ivs) u:=⟨_,rfl⟩
     have hq1:=fun W (h:Below W6.heap.size W6 W)=>NW VA vn vc ivs 4 (by have:=HV2.out.1;omega) (by decide) HF6.out W h (HV2.out.2.below HB46.out)
     have hq2:=fun W (h:Below W6.heap.size W6 W)=>VI (V:=V) (mv:=mv) (dv:=dv) (vs:=vs) (VA:=VA) (vn:=vn) (vc:=vc) (ivs:=ivs) u HOK.out Kb _ W (HT.out W (HB6.out.next h)) (HSV.out W (HB6.out.next h)) hm (HV2.out.2.below (HB46.out.next h)) (by have:=HV2.out.1;omega)
     rw[HFT.out F rfl]at hq1;rw[<-hhb]at hq1 hq2;unfold Av at hq1 hq2;have HH1:=Aa hq1;have HH2:=Aa hq2;clear hq1 hq2 hhb
     have SOF:=Aa (show ∀W,Below W6.heap.size W6 W->(W.cell? ⟨w0.heap.size,0,none⟩=some (.int .i64 kd)/\W.cell? ⟨w0.heap.size,1,none⟩=some (.slice Al nl cl)/\W.cell? ⟨w0.heap.size,2,none⟩=some (.slice Ar nr cr)/\W.cell? ⟨w0.heap.size,3,none⟩=some (.int .i64 op)/\W.cell? ⟨w0.heap.size,4,none⟩=some (.string p)/\W.cell? ⟨w0.heap.size,5,none⟩=some (.string q)/\W.cell? ⟨w0.heap.size,6,none⟩=some (.slice A n c)/\W.cell? ⟨gF,0,none⟩=some (.int .i64 fk)/\W.cell? ⟨gF,1,none⟩=some (.slice fA fn fc)/\W.cell? ⟨gF,2,none⟩=some (.bool fs)/\W.cell? ⟨gF,3,none⟩=some (.slice fB fm fd)/\W.cell? ⟨gF,4,none⟩=some (.bool ff)/\W.cell? ⟨gF,5,none⟩=some (.slice fC fp fq)) from fun W h=>⟨(X6.out.next h).cell 0 _ rfl,(X6.out.next h).cell 1 _ rfl,(X6.out.next h).cell 2 _ rfl,(X6.out.next h).cell 3 _ rfl,(X6.out.next h).cell 4 _ rfl,(X6.out.next h).cell 5 _ rfl,(X6.out.next h).cell 6 _ rfl,(XF.out.next h).cell 0 _ rfl,(XF.out.next h).cell 1 _ rfl,(XF.out.next h).cell 2 _ rfl,(XF.out.next h).cell 3 _ rfl,(XF.out.next h).cell 4 _ rfl,(XF.out.next h).cell 5 _ rfl⟩)
     refine BJ (by kernel_rfl) (by kernel_rfl) (by kernel_rfl) (fun w w'=>Below w.heap.size w w') (fun j v w=>match j with|0=>v=.agg #[.int .i64 fk,.slice fA fn fc,.bool fs,.slice fB fm fd,.bool ff,.slice fC fp fq]|1=>v=.slice VA vn vc|2=>v=.bool hb0|3=>v=.agg #[.int .i64 kd,.slice Al nl cl,.slice Ar nr cr,.int .i64 op,.string p,.string q,.slice A n c]|4=>v=.slice V mv dv|5=>v=.slice VA vn vc|6=>v=.bool hb0|7=>v=.bool true|8=>v=.bool true|_=>True) (fun _ _ w=>Below W6.heap.size W6 w) ?_ (fun _=>Ao W6 1) ?_ ?_
     · intro j v w w' hT h;match j,h with
       |0,h=>exact h
       |1,h=>exact h
       |2,h=>exact h
       |3,h=>exact h
       |4,h=>exact h
       |5,h=>exact h
       |6,h=>exact h
       |7,h=>exact h
       |8,h=>exact h
       |j+9,h=>trivial
     · refine ⟨?_,?_,?_,?_,?_,?_,?_,?_,?_,trivial⟩
       · intro listed σ w a hin hout hl hc hp hG hF;refine Ac.none rfl ?_;have e7:a.tmps.getD 7 undef=.pointer (some ⟨gF,0,none⟩):=hout 7 (Ag (by kernel_rfl));have CC:=SOF.out w hG;obtain ⟨C0,C1,C2,C3,C4,C5,C6,D0,D1,D2,D3,D4,D5⟩:=CC;refine Does.val (.agg #[.int .i64 fk,.slice fA fn fc,.bool fs,.slice fB fm fd,.bool ff,.slice fC fp fq]) (w':=w) ?_ ⟨Below.refl _ _,rfl,hG⟩;go_simp
       · intro listed σ w a hin hout hl hc hp hG hF;refine Ac.none rfl ?_;have e2:a.tmps.getD 2 undef=.slice VA vn vc:=hout 2 (Ag (by kernel_rfl));refine Does.val (.slice VA vn vc) (w':=w) ?_ ⟨Below.refl _ _,rfl,hG⟩;simp only[Array.getD_eq_getD_getElem?]at e2;go_simp
       · intro listed σ w a hin hout hl hc hp hG hF;refine Ac.none rfl ?_;have e35:a.tmps.getD 35 undef=.agg #[.int .i64 fk,.slice fA fn fc,.bool fs,.slice fB fm fd,.bool ff,.slice fC fp fq]:=(hin 0 35 rfl (hp ⟨0,.data⟩ (by simp) rfl)).trans (hF 0 (hp ⟨0,.data⟩ (by simp) rfl));have e36:a.tmps.getD 36 undef=.slice VA vn vc:=(hin 1 36 rfl (hp ⟨1,.data⟩ (by simp) rfl)).trans (hF 1 (hp ⟨1,.data⟩ (by simp) rfl));refine Does.call ?_ (HH1.out w hG) ?_
         · go_simp
         · rintro e w' ⟨rfl,hb⟩;exact ⟨_,rfl,hb,rfl,hG.next hb⟩
       · intro listed σ w a hin hout hl hc hp hG hF;refine Ac.none rfl ?_;have e3:a.tmps.getD 3 undef=.pointer (some ⟨w0.heap.size,0,none⟩):=hout 3 (Ag (by kernel_rfl));have CC:=SOF.out w hG;obtain ⟨C0,C1,C2,C3,C4,C5,C6,D0,D1,D2,D3,D4,D5⟩:=CC;refine Does.val (.agg #[.int .i64 kd,.slice Al nl cl,.slice Ar nr cr,.int .i64 op,.string p,.string q,.slice A n c]) (w':=w) ?_ ⟨Below.refl _ _,rfl,hG⟩;go_simp
       · intro listed σ w a hin hout hl hc hp hG hF;refine Ac.none rfl ?_;have e1:a.tmps.getD 1 undef=.slice V mv dv:=hout 1 (Ag (by kernel_rfl));refine Does.val (.slice V mv dv) (w':=w) ?_ ⟨Below.refl _ _,rfl,hG⟩;simp only[Array.getD_eq_getD_getElem?]at e1;go_simp
       · intro listed σ w a hin hout hl hc hp hG hF;refine Ac.none rfl ?_;have e2:a.tmps.getD 2 undef=.slice VA vn vc:=hout 2 (Ag (by kernel_rfl));refine Does.val (.slice VA vn vc) (w':=w) ?_ ⟨Below.refl _ _,rfl,hG⟩;simp only[Array.getD_eq_getD_getElem?]at e2;go_simp
       · intro listed σ w a hin hout hl hc hp hG hF;refine Ac.none rfl ?_;have e38:a.tmps.getD 38 undef=.agg #[.int .i64 kd,.slice Al nl cl,.slice Ar nr cr,.int .i64 op,.string p,.string q,.slice A n c]:=(hin 3 38 rfl (hp ⟨3,.data⟩ (by simp) rfl)).trans (hF 3 (hp ⟨3,.data⟩ (by simp) rfl));have e39:a.tmps.getD 39 undef=.slice V mv dv:=(hin 4 39 rfl (hp ⟨4,.data⟩ (by simp) rfl)).trans (hF 4 (hp ⟨4,.data⟩ (by simp) rfl))
         have e40:a.tmps.getD 40 undef=.slice VA vn vc:=(hin 5 40 rfl (hp ⟨5,.data⟩ (by simp) rfl)).trans (hF 5 (hp ⟨5,.data⟩ (by simp) rfl));refine Does.call ?_ (HH2.out w hG) ?_
         · go_simp
         · rintro e w' ⟨rfl,hb⟩;exact ⟨_,rfl,hb,rfl,hG.next hb⟩
       · intro listed σ w a hin hout hl hc hp hG hF;refine Ac.none rfl ?_;have e37:=hin 2 37 rfl (hp ⟨2,.data⟩ (by simp) rfl);obtain ev2:=hF 2 (hp ⟨2,.data⟩ (by simp) rfl);rw[ev2]at e37;have e41:=hin 6 41 rfl (hp ⟨6,.data⟩ (by simp) rfl);obtain ev6:=hF 6 (hp ⟨6,.data⟩ (by simp) rfl);rw[ev6]at e41;refine Does.val (.bool true) (w':=w) ?_ ⟨Below.refl _ _,rfl,hG⟩;simp only[Array.getD_eq_getD_getElem?]at e37 e41;go_simp
       · intro listed σ w a hin hout hl hc hp hG hF;refine Ac.none rfl ?_;have e42:a.tmps.getD 42 undef=.bool true:=(hin 7 42 rfl (hp ⟨7,.data⟩ (by simp) rfl)).trans (hF 7 (hp ⟨7,.data⟩ (by simp) rfl));refine Does.val (.bool true) (w':=w) ?_ ⟨Below.refl _ _,rfl,hG⟩;simp only[Array.getD_eq_getD_getElem?]at e42;go_simp
     · intro listed σ W9 hall hG hF;rw[show mid _ σ listed _=(Act.put (Act.put (Act.put (Act.put (Act.put (Act.put (Act.put (Act.put (Act.put _ (some 35) (σ 0)) (some 36) (σ 1)) (some 37) (σ 2)) (some 38) (σ 3)) (some 39) (σ 4)) (some 40) (σ 5)) (some 41) (σ 6)) (some 42) (σ 7)) (some 6) (σ 8)) from (Ca hall).trans rfl];generalize σ 0=tt0;generalize σ 1=tt1;generalize σ 2=tt2;generalize σ 3=tt3;generalize σ 4=tt4;generalize σ 5=tt5;generalize σ 6=tt6;generalize σ 7=tt7
       rw[show σ 8=.bool true from hF 8 (by decide)];simp only[Act.put,List.setIfInBounds_toArray,List.set_cons_zero,List.set_cons_succ];have TG:=hG;clear hF hG hall;clear σ;have HF:=Aa (show Fv w0 (.returned (.bool true)) W9 from ⟨rfl,HB6.out.next TG⟩);clear TG SOF HH1 HH2;go_wp2_with fail;go_ret
       exact HF.out
theorem Kd (t:GT) (cs:Array Value) (V:Option Addr) (mv dv:Nat) (vs:List ByteArray) (VA:Option Addr) (vn vc:Nat) (ivs:List Nu.IV) (w0:World)
  (ht:AW Kb w0 t cs.toList) (htz:IK t) (hS:EN w0 V mv vs) (hmd:mv<=dv) (hd:dv<=9223372036854775807) (hvs:Nu.CJ w0 VA vn ivs Nu.big) (hvc:vn<=vc) (hv9:vc<=9223372036854775807) (htab:Bc w0):Calls Tryz.prog 6 #[.agg cs,.slice V mv dv,.slice VA vn vc] w0 (Fv w0):=by
 obtain ⟨kd,Al,nl,cl,Ar,nr,cr,op,p,q,A,n,c,e⟩:=ht.shape;obtain rfl:cs=#[.int .i64 kd,.slice Al nl cl,.slice Ar nr cr,.int .i64 op,.string p,.string q,.slice A n c]:=by cases cs;simpa using e
 exact KE t kd op Al Ar A nl cl nr cr n c p q V mv dv vs VA vn vc ivs w0 ht htz hS (by omega) hvs (by omega) htab
end
section
open Go.ChangeShapes Go.WideShapes Go.ChangeAt Go.RowKit Go.Deep
section
variable {H:Type} {enc:TypeId×Value->H} {W:World}
theorem Oe {b:Nat} {v:Value} {d:DataW H} {p:List MemPlace} (hv:Value.okWide Tryz.prog W .any b 47 v)
   (h0:DataW.Trod enc Tryz.prog W 0 (fun _=>true) true 47 v d p):∃a len cap xs,v=.slice a len cap/\EN W a len xs/\len<=cap/\cap<=9223372036854775807/\(a=none->len=0/\cap=0):=by
 obtain ⟨a,len,cap,rfl⟩:=okWide_slice Tryz.underlying47 hv;obtain ⟨fuel,hf⟩:=h0;rcases open_strs Tryz.underlying47 Tryz.underlying9 (by kernel_rfl) hf with ⟨hcs,_⟩|⟨x,l,c,m,Sx,hcs,_,hl,hm,hmm,hx,hcell⟩
 · simp[Value.cells]at hcs;obtain ⟨rfl,rfl,rfl⟩:=hcs;exact ⟨none,0,0,[],rfl,⟨rfl,fun h=>absurd h (by omega)⟩,by omega,by omega,fun _=>⟨rfl,rfl⟩⟩
 · simp[Value.cells]at hcs;obtain ⟨rfl,rfl,rfl⟩:=hcs;have hlm:len<=m:=(by rw[hmm];split<;>omega);have hd:d=.slice ((List.range len).map fun i=>.lit (.string (Sx i).data.toList)) ((List.range (m-len)).map fun j=>.lit (.string (Sx (len+j)).data.toList)):=congrArg Prod.fst hx;unfold maxLen at hm;refine ⟨some x,len,cap,(List.range len).map Sx,rfl,⟨by simp,fun hn=>?_⟩,hl,hm,fun e=>by cases e⟩
   · have h1:=(hcell 0 (by omega)).1;obtain ⟨b,o,spot⟩:=x;have hspot:spot=none:=(by simpa[Addr.add] using World.cell?_spot h1);subst hspot;have hlt:=World.block_lt_of_cell? W _ h1;refine ⟨b,o,rfl,hlt,fun j s hs=>?_⟩;have hj:j<len:=by
      rcases Nat.lt_or_ge j len with h|h
      · exact h
      · rw[List.getElem?_eq_none (by simpa using h)]at hs;cases hs
     rw[List.getElem?_map,List.getElem?_range hj]at hs;injection hs with hs
     subst hs;have h5:=(hcell j (by omega)).1;rw[addr_add]at h5;exact h5
end
end
section
open Go.RowKit
open Lx Ex
theorem Se {s t:ByteArray} (h:s.data.toList=t.data.toList):s=t:=by obtain ⟨⟨a⟩⟩:=s;obtain ⟨⟨b⟩⟩:=t;simp at h;subst h;rfl
theorem KF {H:Type} {enc:TypeId×Value->H} {P:Program} {w:World} {base:Nat} {sp:Nat->Bool} {held:Bool} {fuel:Nat} {t e:TypeId} {n:Nat} {cs:List Value} {xs:List ByteArray} {p:List MemPlace}
  (ht:P.underlying t=some (.array n e)) (he:P.underlying e=some .string) (hce:P.cellsOf e=1) (hct:P.cellsOf t=n)
  (h:DataW.trod enc P w base sp held fuel t cs=some (.agg (xs.map fun s=>.lit (.string s.data.toList)),p)):cs=xs.map fun s=>Value.string s:=by
 cases fuel with
 |zero=>simp[DataW.trod]at h
 |succ fuel=>
  simp only[DataW.trod,ht,hce,hct,Nat.mul_one]at h;split at h
  · rename_i hl
    obtain ⟨ys,hm,hx⟩:=Option.map_eq_some_iff.1 h;have hxs:ys.map (·.1)=xs.map fun s=>(DataW.lit (.string s.data.toList):DataW H):=by have:=congrArg Prod.fst hx;simpa using this
    have hxl:ys.length=n:=(by simpa using Lib.mapM_length hm);have hzl:xs.length=n:=by have:=congrArg List.length hxs;simp at this;omega
    apply List.ext_getElem?;intro i;by_cases hi:i<n
    · obtain ⟨b,hb,hf⟩:=Lib.mapM_at hm i i (by simp[hi]);obtain ⟨z,hc,rfl,_⟩:=DataW.trod_string he hf;have h1:cs[i]?=some (.string z):=by
       have:=congrArg (·[0]?) hc;simpa[List.getElem?_take,List.getElem?_drop] using this
      have h2:(ys.map (·.1))[i]?=some (DataW.lit (.string z.data.toList):DataW H):=(by simp[hb]);rw[hxs]at h2;simp only[List.getElem?_map,Option.map_eq_some_iff,DataW.lit.injEq,Lit.string.injEq]at h2;obtain ⟨z',hz',he'⟩:=h2;have:=Se he';subst this;simp[h1,hz']
    · rw[List.getElem?_eq_none (by omega),List.getElem?_eq_none (by simp;omega)]
  · cases h
def Mx:List ByteArray:=[⟨#[61]⟩,⟨#[33,61]⟩,⟨#[60]⟩,⟨#[60,61]⟩,⟨#[62]⟩,⟨#[62,61]⟩]
theorem KG {W:World} (h0:laidMetH Tryz.prog [("plumbline/expr.operators",Rows.laid_plumbline_expr_operators)] W):Bc W:=by
 have h:laidMet Tryz.prog [("plumbline/expr.operators",Rows.laid_plumbline_expr_operators)] W:=by rw[MakeChecks.laidMetH_plain _ _ _ (by kernel_rfl)]at h0;exact h0
 obtain ⟨ps,⟨g',t',cs,fuel,p,q,hg',ht',hvar,hd,_,_⟩,_⟩:=h;have hg:Tryz.prog.globalNamed "plumbline/expr.operators"=some 0:=by kernel_rfl
 have hty:(Tryz.prog.globals[0]?).map (·.type)=some 137:=by kernel_rfl
 obtain rfl:=Option.some.inj (hg.symm.trans hg');obtain rfl:=Option.some.inj (hty.symm.trans ht');have e1:=KF (xs:=Mx) Tryz.underlying137 Tryz.underlying9 (by kernel_rfl) (by kernel_rfl) hd;have e2:cs=(Mx.map fun s=>Value.string s).toArray:=by rw[<-e1]
 have hv:W.var? Tryz.prog "plumbline/expr.operators"=some (Mx.map fun s=>Value.string s).toArray:=by rw[←e2];exact hvar
 intro j hj;rw[World.var?_cell hg hv j];match j,hj with
 |0,_=>rfl
 |1,_=>rfl
 |2,_=>rfl
 |3,_=>rfl
 |4,_=>rfl
 |5,_=>rfl
end
end Go.Proofs.YtgohmojcopajoaaGreatDoor
namespace Go.Proofs.YtgohmojcopajoaaGreatDoor.Nu
section
open Go.ChangeShapes Go.WideShapes Go.ChangeAt Go.RowKit Go.Deep
theorem Of (ps:List IV) (j:Nat) (u:Value) (h:(JD ps)[j]?=some u):∃i p r,ps[i]?=some p/\j=2*i+r/\p.cells[r]?=some u/\r<2:=by
 induction ps generalizing j with
 |nil=>simp[JD]at h
 |cons p ps ih=>
  rw[JE]at h;have hl:p.cells.length=2:=rfl;by_cases hj:j<2
  · rw[List.getElem?_append_left (by omega)]at h;exact ⟨0,p,j,rfl,by omega,h,hj⟩
  · rw[List.getElem?_append_right (by omega),hl]at h;obtain ⟨i,q,r,h1,h2,h3,h4⟩:=ih _ h;exact ⟨i+1,q,r,by simpa using h1,by omega,h3,h4⟩
instance ivSome:Inhabited IV:=⟨⟨false,none,0,0,0⟩⟩
section
variable {H:Type} {enc:TypeId×Value->H} {W:World} {f:Nat} {x:DataW H×List MemPlace}
theorem P9 {v:Value} (hf:DataW.trod enc Tryz.prog W 0 (fun _=>true) true f 48 [v]=some x):∃a len cap ivs,v=.slice a len cap/\CJ W a len ivs big/\len<=cap/\cap<=9223372036854775807:=by
 rcases open_slice Tryz.underlying48 hf with ⟨hcs,_⟩|⟨a,len,cap,m,n,D,Pl,hcs,_,hl,hm,hmm,_,hx⟩
 · injection hcs with hcs
   subst hcs;exact ⟨none,0,0,[],rfl,⟨rfl,fun h=>absurd h (by omega),fun p hp=>by cases hp⟩,by omega,by omega⟩
 · injection hcs with hcs
   subst hcs;unfold maxLen at hm;have hlm:len<=m:=(by rw[hmm];split<;>omega);obtain ⟨p,hp⟩:=choose_lt (α:=IV) (n:=len) (p:=fun i p=>(∀r u,p.cells[r]?=some u->W.cell? (a.add (i*2+r))=some u)/\Cy W p.num p.Z big) (fun i hi=>by
     obtain ⟨cs,h1,h2⟩:=hx i (by omega);rw[Ob]at h1;obtain ⟨_,hlen,hcell⟩:=World.cells?_some h1;obtain ⟨s,B,m',d,Z,rfl,hz⟩:=Ka h2;refine ⟨⟨s,B,m',d,Z⟩,fun r u hu=>?_,hz⟩;have hr:r<2:=(List.getElem?_eq_some_iff.1 hu).1;rw[<-show ([Value.bool s,Value.slice B m' d])[r]?=some u from hu,<-hcell r hr,add_add])
   have hall:∀q∈(List.range len).map p,∃i,i<len/\q=p i:=fun q hq=>by
     obtain ⟨i,hi,rfl⟩:=List.mem_map.1 hq;exact ⟨i,List.mem_range.1 hi,rfl⟩
   refine ⟨some a,len,cap,(List.range len).map p,rfl,⟨by simp,fun hn=>?_,fun q hq=>?_⟩,hl,hm⟩
   · have h0:=(hp 0 hn).1 0 _ rfl;obtain ⟨b,o,spot⟩:=a;have hspot:spot=none:=(by simpa[Addr.add] using World.cell?_spot h0);subst hspot;refine ⟨b,o,rfl,fun j u hu=>?_⟩;obtain ⟨i,q,r,h1,rfl,h3,h4⟩:=Of _ _ _ hu;have hi:i<len:=by
      have:=(List.getElem?_eq_some_iff.1 h1).1;simpa using this
     have hq:q=p i:=by rw[List.getElem?_map,List.getElem?_range hi]at h1;exact (Option.some.inj h1).symm
     subst hq;have h5:=(hp i hi).1 r u h3;rw[add_plain]at h5;rw[show 2*i+r=i*2+r by omega];exact h5
   · obtain ⟨i,hi,rfl⟩:=hall q hq;exact (hp i hi).2
theorem Sf {b:Nat} {v:Value} {d:DataW H} {p:List MemPlace} (hv:Value.okWide Tryz.prog W .any b 48 v)
  (h0:DataW.Trod enc Tryz.prog W 0 (fun _=>true) true 48 v d p):∃a len cap ivs,v=.slice a len cap/\CJ W a len ivs big/\len<=cap/\cap<=9223372036854775807:=by
 obtain ⟨a,len,cap,rfl⟩:=okWide_slice Tryz.underlying48 hv;obtain ⟨fuel,hf⟩:=h0;exact P9 hf
end
end
end Go.Proofs.YtgohmojcopajoaaGreatDoor.Nu
