/- Texts of one seat, put together: Open OpenZ OpenT R4Few LOf4. -/
import Derived.Test.YtmedjkhmadfjlaaGreatR01
import Derived.ProofKit
import Derived.OpenShut
import Derived.ShutString
import Derived.ChangeOld
import Derived.Below
import Derived.Lib.SmallJoins
import Derived.Test.YtmedjkhmadfjlaaGreatR13
import Derived.Deep.Slices
import Derived.Deep.Strs
import Derived.Test.YtmedjkhmadfjlaaGreatR25
import Derived.Test.YtmedjkhmadfjlaaGreatR26
import Derived.Test.YtmedjkhmadfjlaaGreatR28
set_option linter.unusedVariables false
set_option linter.unusedSimpArgs false
set_option maxRecDepth 100000
set_option maxHeartbeats 16000000
namespace Go.Proofs.YtmedjkhmadfjlaaGreat
section
open Go.ChangeShapes Go.WideShapes Go.ChangeAt Go.RowKit
open Go.ChangeMaps (open_string shut_string)
theorem own:ownKnob Tryz.prog.godebug=none:=by kernel_rfl
theorem laidOut:laidOutB Tryz.prog=true:=by kernel_rfl
theorem wf_u32 {z:Int} (h:(Lit.int .u32 z).wf=true):0<=z/\z<4294967296:=by have h1:IntKind.u32.min=0:=rfl;have h2:IntKind.u32.max=4294967295:=rfl;simp only[Lit.wf,Bool.and_eq_true,decide_eq_true_eq]at h;omega
theorem QQ {H:Type} {enc:TypeId×Value->H} {W:World} {a0:Option Addr} {len0 cap0:Nat} {d:DataW H} {p:List MemPlace}
   (h0:DataW.Trod enc Tryz.prog W 0 (fun _=>true) true 36 (.slice a0 len0 cap0) d p):∃xs,Av W a0 len0 xs/\len0<=cap0/\cap0<=9223372036854775807:=by
 obtain ⟨fuel,hf⟩:=h0;rcases open_ints Tryz.underlying36 Tryz.underlying122 (by kernel_rfl) hf with ⟨hcs,_⟩|⟨x,l,c,zs,hcs,_,hl,hm,hz,_,hcell,hwz⟩
 · simp[Value.cells]at hcs;obtain ⟨rfl,rfl,rfl⟩:=hcs;exact ⟨[],Av.nil _ _,by omega,by omega⟩
 · simp[Value.cells]at hcs;obtain ⟨rfl,rfl,rfl⟩:=hcs;have hz2:zs.length=cap0:=(by simpa using hz);unfold maxLen at hm;refine ⟨(zs.take len0).map Int.toNat,⟨by simp;omega,?_,?_⟩,hl,hm⟩
   · intro y hy;obtain ⟨z,hz1,rfl⟩:=List.mem_map.1 hy;have:=wf_u32 (hwz z (List.mem_of_mem_take hz1));omega
   · intro hn;have h1:=hcell 0 (by omega);obtain ⟨b,o,spot⟩:=x;have hspot:spot=none:=(by simpa[Addr.add] using World.cell?_spot h1);subst hspot;refine ⟨b,o,rfl,fun i hi=>?_⟩;have h2:=hcell i (by omega);have e:(⟨b,o,none⟩:Addr).add i=⟨b,o+i,none⟩:=by
      by_cases hi0:i=0
      · subst hi0;rfl
      · simp[Addr.add,hi0]
     rw[e]at h2;rw[h2];have hlt:i<zs.length:=(by omega);have hw:=wf_u32 (hwz zs[i] (List.getElem_mem hlt));have e1:zs.getD i 0=zs[i]:=(by rw[List.getD_eq_getElem?_getD,List.getElem?_eq_getElem hlt];rfl);have e2:((zs.take len0).map Int.toNat).getD i 0=zs[i].toNat:=by rw[List.getD_eq_getElem?_getD,List.getElem?_map,List.getElem?_take_of_lt hi,List.getElem?_eq_getElem hlt];rfl
     rw[e1,e2];congr 2
     omega
end
section
open Go.ChangeShapes Go.WideShapes Go.ChangeAt Go.RowKit
open Go.ChangeMaps (open_string shut_string)
theorem OS {H:Type} {enc:TypeId×Value->H} {W:World} {v:Value} {x:DataW H×List MemPlace} {f:Nat}
   (hf:DataW.trod enc Tryz.prog W 0 (fun _=>true) true f 36 [v]=some x):∃a len cap xs,v=.slice a len cap/\Av W a len xs/\len<=cap/\cap<=9223372036854775807:=by
 rcases open_ints Tryz.underlying36 Tryz.underlying122 (by kernel_rfl) hf with ⟨hcs,_⟩|⟨y,l,c,zs,hcs,_⟩
 · injection hcs with hcs
   subst hcs;exact ⟨none,0,0,[],rfl,Av.nil _ _,by omega,by omega⟩
 · injection hcs with hcs
   subst hcs;obtain ⟨xs,h1,h2,h3⟩:=QQ (a0:=some y) (len0:=l) (cap0:=c) (d:=x.1) (p:=x.2) (W:=W) (enc:=enc) ⟨f,hf⟩;exact ⟨some y,l,c,xs,rfl,h1,h2,h3⟩
end
section
open Go.ChangeShapes Go.WideShapes Go.ChangeAt Go.RowKit Go.Deep
theorem K6:Tryz.prog.cellsOf 38=2:=by kernel_rfl
theorem LB:Tryz.prog.cellsOf 4=1:=by kernel_rfl
theorem SY:Tryz.prog.cellsOf 36=1:=by kernel_rfl
theorem Vp:Tryz.prog.cellsOf 3=1:=by kernel_rfl
theorem LC:Tryz.prog.cellsOf 47=3:=by kernel_rfl
theorem OT:Tryz.prog.cellsOf 34=1:=by kernel_rfl
theorem LD:Tryz.prog.cellsOf 40=3:=by kernel_rfl
def QU:Nat:=9223372036854775807
section
variable {H:Type} {enc:TypeId×Value->H} {W:World} {f:Nat} {x:DataW H×List MemPlace} {cs:List Value}
theorem Gc (h:DataW.trod enc Tryz.prog W 0 (fun _=>true) true f 38 cs=some x):∃s a len cap Z,cs=[.bool s,.slice a len cap]/\BO W (.agg #[.bool s,.slice a len cap]) Z QU:=by
 obtain ⟨y0,y1,n,-,hl,h0,h1⟩:=trod_struct2 Tryz.underlying38 h;rw[K6]at hl;match cs,hl with
 |[v0,v1],_=>
  have g0:DataW.trod enc Tryz.prog W 0 (fun _=>true) true n 4 (([v0,v1].drop 0).take (Tryz.prog.cellsOf 4))=some y0:=h0;have g1:DataW.trod enc Tryz.prog W 0 (fun _=>true) true n 36 (([v0,v1].drop 1).take (Tryz.prog.cellsOf 36))=some y1:=h1;rw[LB]at g0;rw[SY]at g1;obtain ⟨s,e0,-⟩:=DataW.trod_bool Tryz.underlying4 g0;injection e0 with e0
  subst e0;obtain ⟨a,len,cap,xs,rfl,h1,h2,h3⟩:=OS g1;exact ⟨s,a,len,cap,_,rfl,s,a,len,cap,xs,rfl,h1,h2,h3,by unfold QU;omega,rfl⟩
theorem IR (h:DataW.trod enc Tryz.prog W 0 (fun _=>true) true f 47 cs=some x):∃p:PV,cs=p.cells/\BO W p.num p.Z QU/\-9223372036854775808<=p.v/\p.v<=9223372036854775807:=by
 obtain ⟨y0,y1,n,-,hl,h0,h1⟩:=trod_struct2 Tryz.underlying47 h;rw[LC]at hl;match cs,hl with
 |[v0,v1,v2],_=>
  have g0:DataW.trod enc Tryz.prog W 0 (fun _=>true) true n 3 (([v0,v1,v2].drop 0).take (Tryz.prog.cellsOf 3))=some y0:=h0;have g1:DataW.trod enc Tryz.prog W 0 (fun _=>true) true n 38 (([v0,v1,v2].drop 1).take (Tryz.prog.cellsOf 38))=some y1:=h1;rw[Vp]at g0;rw[K6]at g1;obtain ⟨z,e0,-,hw⟩:=DataW.trod_int Tryz.underlying3 g0;injection e0 with e0
  subst e0;obtain ⟨s,a,len,cap,Z,e,hz⟩:=Gc g1;injection e with e1 e
  injection e with e2 e
  subst e1 e2;exact ⟨⟨z,s,a,len,cap,Z⟩,rfl,hz,(bounds_i64 hw).1,(bounds_i64 hw).2⟩
theorem OU (ps:List PV) (j:Nat) (u:Value) (h:(flat ps)[j]?=some u):∃i p r,ps[i]?=some p/\j=3*i+r/\p.cells[r]?=some u/\r<3:=by
 induction ps generalizing j with
 |nil=>simp[flat]at h
 |cons p ps ih=>
  rw[Dn]at h;have hl:p.cells.length=3:=rfl;by_cases hj:j<3
  · rw[List.getElem?_append_left (by omega)]at h;exact ⟨0,p,j,rfl,by omega,h,hj⟩
  · rw[List.getElem?_append_right (by omega),hl]at h;obtain ⟨i,q,r,h1,h2,h3,h4⟩:=ih _ h;exact ⟨i+1,q,r,by simpa using h1,by omega,h3,h4⟩
instance pvSome:Inhabited PV:=⟨⟨0,false,none,0,0,0⟩⟩
theorem OV {v:Value} (hf:DataW.trod enc Tryz.prog W 0 (fun _=>true) true f 34 [v]=some x):∃a len cap ps,v=.slice a len cap/\AJ W a len ps QU/\(∀p∈ps,-9223372036854775808<=p.v/\p.v<=9223372036854775807)/\len<=cap/\cap<=9223372036854775807:=by
 rcases open_slice Tryz.underlying34 hf with ⟨hcs,_⟩|⟨a,len,cap,m,n,D,Pl,hcs,_,hl,hm,hmm,_,hx⟩
 · injection hcs with hcs
   subst hcs;exact ⟨none,0,0,[],rfl,AJ.nil _ _ _,fun p hp=>by simp at hp,by omega,by omega⟩
 · injection hcs with hcs
   subst hcs;unfold maxLen at hm;have hlm:len<=m:=(by rw[hmm];split<;>omega);obtain ⟨p,hp⟩:=choose_lt (α:=PV) (n:=len) (p:=fun i p=>(∀r u,p.cells[r]?=some u->W.cell? (a.add (i*3+r))=some u)/\BO W p.num p.Z QU/\-9223372036854775808<=p.v/\p.v<=9223372036854775807) (fun i hi=>by
     obtain ⟨cs,h1,h2⟩:=hx i (by omega);rw[LC]at h1;obtain ⟨_,hlen,hcell⟩:=World.cells?_some h1;obtain ⟨p,rfl,hz,hb⟩:=IR h2;refine ⟨p,fun r u hu=>?_,hz,hb⟩;have hr:r<3:=by have:=(List.getElem?_eq_some_iff.1 hu).1;have hl:p.cells.length=3:=rfl;omega
     rw[<-hu,<-hcell r hr,add_add])
   have hall:∀q∈(List.range len).map p,∃i,i<len/\q=p i:=fun q hq=>by
     obtain ⟨i,hi,rfl⟩:=List.mem_map.1 hq;exact ⟨i,List.mem_range.1 hi,rfl⟩
   refine ⟨some a,len,cap,(List.range len).map p,rfl,⟨by simp,fun hn=>?_,fun q hq=>?_⟩,fun q hq=>?_,hl,hm⟩
   · have h0:=(hp 0 hn).1 0 _ rfl;obtain ⟨b,o,spot⟩:=a;have hspot:spot=none:=(by simpa[Addr.add] using World.cell?_spot h0);subst hspot;refine ⟨b,o,rfl,fun j u hu=>?_⟩;obtain ⟨i,q,r,h1,rfl,h3,h4⟩:=OU _ _ _ hu;have hi:i<len:=by
      have:=(List.getElem?_eq_some_iff.1 h1).1;simpa using this
     have hq:q=p i:=by rw[List.getElem?_map,List.getElem?_range hi]at h1;exact (Option.some.inj h1).symm
     subst hq;have h5:=(hp i hi).1 r u h3;rw[add_plain]at h5;rw[show 3*i+r=i*3+r by omega];exact h5
   · obtain ⟨i,hi,rfl⟩:=hall q hq;exact (hp i hi).2.1
   · obtain ⟨i,hi,rfl⟩:=hall q hq;exact (hp i hi).2.2
theorem IU (h:DataW.trod enc Tryz.prog W 0 (fun _=>true) true f 40 cs=some x):∃A n c s B m d L K,cs=[.slice A n c,.bool s,.slice B m d]/\D9 W (.agg #[.slice A n c,.bool s,.slice B m d]) L K QU/\∀p∈L,-9223372036854775808<=p.1/\p.1<=9223372036854775807:=by
 obtain ⟨y0,y1,n,-,hl,h0,h1⟩:=trod_struct2 Tryz.underlying40 h;rw[LD]at hl;match cs,hl with
 |[v0,v1,v2],_=>
  have g0:DataW.trod enc Tryz.prog W 0 (fun _=>true) true n 34 (([v0,v1,v2].drop 0).take (Tryz.prog.cellsOf 34))=some y0:=h0;have g1:DataW.trod enc Tryz.prog W 0 (fun _=>true) true n 38 (([v0,v1,v2].drop 1).take (Tryz.prog.cellsOf 38))=some y1:=h1;rw[OT]at g0;rw[K6]at g1;obtain ⟨a,len,cap,ps,e0,hp,hb,hl1,hl2⟩:=OV g0;obtain ⟨s,B,m,d,Z,e,hz⟩:=Gc g1;injection e with e1 e
  injection e with e2 e
  subst e0 e1 e2;refine ⟨a,len,cap,s,B,m,d,Cl ps,Z,rfl,⟨a,len,cap,s,B,m,d,rfl,⟨ps,hp,rfl⟩,hl1,hl2,hz⟩,fun p hp=>?_⟩;obtain ⟨q,hq,rfl⟩:=List.mem_map.1 hp;exact hb q hq
end
end
section
open Go.RowKit
def SZ (w:World) (li:Nat) (r:RV):Prop:=r.n<=20/\D9 w r.trm r.L r.K li
def Ta (mo li:Nat) (rs:List RV) (w:World) (e:Ending) (w':World):Prop:=∃r,e=.returned (.bool r)/\(r=true->rs.length<=mo/\∀x∈rs,SZ w li x)/\w'=w
theorem QR (A:Option Addr) (n c mo li:Nat) (rs:List RV) (w0:World) (hx:EX w0 A n rs QU) (hn:n<=9223372036854775807) (hmo:mo<=1000) (hli:li<=1000):Calls Tryz.prog 6 #[.slice A n c,.int .i64 mo,.int .i64 li] w0 (Ta mo li rs w0):=by
 have HX:=Ac hx;have HLN:=Ac hx.1.1;clear hx;go_enter Tryz.func6,Tryz.ntmps6;by_cases hnm:(mo:Int)<n
 · go_wp2_with fail;go_ret
   exact ⟨false,rfl,(fun h=>by cases h),rfl⟩
 have HNM:=Ac hnm;go_wp2_with fail;have HF:=Ac (show ∀i t,i<0->rs[i]?=some t->SZ w0 li t from fun i t h=>by omega);go_loopw [7] (fun i wr=>∃q:Nat,q<=n/\i=.int .i64 q/\Hid (∀i t,i<q->rs[i]?=some t->SZ w0 li t)/\wr=w0) (fun i _=>n-(intOf i).toNat)
 case atStart=>exact ⟨0,Nat.zero_le _,rfl,HF,by trivial⟩
 case round=>
   obtain ⟨q,hq,rfl,HFq,rfl⟩:=hrel;by_cases hqn:q<n
   · obtain ⟨bb,o,t,rfl,hgt,c0,c1,c2,c3⟩:=HX.out.1.at_ hqn;obtain ⟨A',n',c',s',B',m',d',e',hp',hc1,hc2,hK⟩:=HX.out.2 t (List.mem_of_getElem? hgt);have e2:A'=t.A/\n'=t.n/\c'=t.c/\s'=t.s/\B'=t.B/\m'=t.m/\d'=t.d:=(by simpa[RV.trm,eq_comm,and_assoc] using e');obtain ⟨rfl,rfl,rfl,rfl,rfl,rfl,rfl⟩:=e2;clear e';obtain ⟨ps,hps,hpl⟩:=hp';have hm1:=hK.bounds;have ht1:t.n<=9223372036854775807:=(by omega);have HPS:=Ac hps;have HPL:=Ac hpl;have HK:=Ac hK;have HT:=Ac hgt
     have c2':wr.cell? ⟨bb,o+q*4+1+1,none⟩=some (.slice t.B t.m t.d):=c2;clear hps hpl hK hgt;by_cases h30:(20:Int)<t.n
     · go_wp2_with fail;go_ret
       exact ⟨false,rfl,(fun h=>by cases h),rfl⟩
     · by_cases h20:(li:Int)<t.m
       · go_wp2_with fail;go_ret
         exact ⟨false,rfl,(fun h=>by cases h),rfl⟩
       · go_wp2_with fail;have H30:=Ac h30;have H20:=Ac h20;have HG:=Ac (show ∀i x,i<0->ps[i]?=some x->x.m<=li from fun i x h=>by omega);obtain ⟨wo,hwo⟩:∃wo,wo=wr:=⟨_,rfl⟩;go_loopw [8] (fun i w2=>∃r:Nat,r<=t.n/\i=.int .i64 r/\Hid (∀i x,i<r->ps[i]?=some x->x.m<=li)/\w2=wo) (fun i _=>t.n-(intOf i).toNat)
         case atStart=>exact ⟨0,Nat.zero_le _,rfl,HG,by first|trivial|exact hwo.symm⟩
         case round=>
          obtain ⟨r,hr,rfl,HGr,hw2⟩:=hrel;subst hw2;subst hwo;by_cases hrn:r<t.n
          · obtain ⟨pb,po,p,hA,hgp,g0,g1,g2,hpz⟩:=HPS.out.at_ hrn;have c0':=c0;rw[hA]at c0';have HAA:=Ac hA;clear c0 hA;have hpm:=hpz.bounds;have hgp':=Ac hgp;rw[Nat.mul_comm 3 r]at g0 g1 g2;rw[<-Nat.add_assoc]at g1 g2;have g2':wr.cell? ⟨pb,po+r*3+1+1,none⟩=some (.slice p.B p.m p.d):=g2;by_cases hp20:(li:Int)<p.m
            · go_wp2_with fail;go_ret
              exact ⟨false,rfl,(fun h=>by cases h),rfl⟩
            · go_wp2_with fail;go_roundw
              case rel=>exact ⟨r+1,by omega,by go_num,fun i x hi hx=>by
               by_cases hir:i<r
               · exact HGr.out i x hir hx
               · obtain rfl:i=r:=(by omega);rw[hgp'.out]at hx;injection hx with hx
                 subst hx;omega,by trivial⟩
              case measure=>simp[intOf]<;>omega
          · obtain rfl:r=t.n:=(by omega);go_wp2_with fail;go_roundw
            case rel=>exact ⟨q+1,by omega,by go_num,fun i x hi hx=>by
               by_cases hir:i<q
               · exact HFq.out i x hir hx
               · obtain rfl:i=q:=(by omega);rw[HT.out]at hx;injection hx with hx
                 subst hx;have h30:=H30.out;have h20:=H20.out;refine ⟨by omega,t.A,t.n,t.c,t.s,t.B,t.m,t.d,rfl,⟨ps,⟨HPS.out.1,HPS.out.2.1,fun p hp=>?_⟩,HPL.out⟩,hc1,hc2,HK.out.cut (by omega)⟩;obtain ⟨y,hy,hyp⟩:=List.mem_iff_getElem.1 hp;exact (HPS.out.2.2 p hp).cut (HGr.out y p (by have:=HPS.out.1;omega) (by rw[List.getElem?_eq_getElem hy,hyp])),by trivial⟩
            case measure=>simp[intOf]<;>omega
   · obtain rfl:q=n:=(by omega);go_wp2_with fail;go_ret
     refine ⟨true,rfl,fun _=>⟨by have:=HLN.out;have:=HNM.out;omega,fun t ht=>?_⟩,rfl⟩;obtain ⟨i,hi,hit⟩:=List.mem_iff_getElem.1 ht;exact HFq.out i t (by have:=HLN.out;omega) (by rw[List.getElem?_eq_getElem hi,hit])
def VL (mo li:Nat) (A:Option Addr) (n:Nat) (vs:List IV) (w:World) (e:Ending) (w':World):Prop:=∃r,e=.returned (.bool r)/\(r=true->n<=mo/\FQ w A n vs li)/\w'=w
end
section
open Go.RowKit
open Tm
theorem Tb (K:Int) (A:Option Addr) (n c:Nat) (xs:List Int) (w0:World) (hx:GW w0 A n xs) (hk1:-9223372036854775808<=K) (hk2:K<=9223372036854775807) (hxs:∀x∈xs,-9223372036854775808<=x/\x<=9223372036854775807) (hn1:n<=1099511):Calls Tryz.prog 17 #[.int .i64 K,.slice A n c] w0 (O1 (F7 xs) n K 2 w0):=by
 have hln:xs.length=n:=hx.1;obtain ⟨z0,z1,z2⟩:=Bh 40 w0 #[.slice none 0 0,.bool false,.slice none 0 0];have hcl:=JK K (w0.alloc (.cells #[.slice none 0 0,.bool false,.slice none 0 0] 40)) hk1 hk2;go_enter Tryz.func17,Tryz.ntmps17;go_wp2_with fail;refine hcl.mono ?_;rintro e w1 ⟨v1,rfl,r1,b1⟩;obtain ⟨s1,A1,n1,c1,rfl⟩:=r1.form;have t1:=z1.next b1;have q0:=z0.next b1;have hz3:=Ac (show w0.heap.size+1<=w1.heap.size by have:=b1.size;simp at this;omega)
 obtain ⟨y0,y1,y2⟩:=Bh 40 w1 #[.slice none 0 0,.bool s1,.slice A1 n1 c1];have HR1:=Ac (r1.below y1);have XB:=Ac y0;have XR:=Ac (q0.next y1);have HW1:=Ac (t1.next y1);have HI:=Ac hx;have HLN:=Ac hln;clear hcl r1 t1 q0 y0 y1 y2 z0 z1 z2 b1 hx hln;go_wp2_with fail;generalize hW1:w1.alloc (.cells #[.slice none 0 0,.bool s1,.slice A1 n1 c1] 40)=W1 at *;clear hW1;have HE:=Ac (show BM W1 w1.heap.size (F7 xs) K (fun z=>z) 2 0 W1 from
  ⟨[],none,0,s1,A1,n1,c1,XB.out,AF.nil _ _ _ _,rfl,rfl,fun p hp=>by simp at hp,HR1.out,AA.refl _ _,Kp.refl _⟩)
 go_loopw [6,7,13] (fun _ _ i wr=>∃q:Nat,q<=n/\i=.int .i64 q/\Hid (BM W1 w1.heap.size (F7 xs) K (fun z=>z) 2 q wr)) (fun _ _ i _=>n-(intOf i).toNat)
 case atStart=>exact ⟨0,Nat.zero_le _,rfl,HE⟩
 case round=>
  obtain ⟨q,hq,rfl,HR⟩:=hrel;obtain ⟨rs,A4,c4,s4,B4,m4,d4,xg,lr,hrl,hlin,hrz,zK,oW,kW⟩:=HR.out;have hT:Below w0.heap.size w0 wr:=HW1.out.trans (oW.below HW1.out.size (by have:=hz3.out;omega));by_cases hqn:q<n
  · obtain ⟨bb,o,x,rfl,hlt,hx,c0⟩:=(HI.out.below hT).at_ hqn;have hxb:=hxs x (List.mem_of_getElem? hx);have HLp:=Ac (TS xs q x hx);have HXG:=Ac xg;have HL:=Ac lr;have HRL:=Ac hrl;have HLI:=Ac hlin;have HRZ:=Ac hrz;have HZK:=Ac zK;have HOW:=Ac oW;have HKW:=Ac kW;have HWS:=Ac oW.size;have HTT:=Ac hT;have HRW:=Ac (show ∀gs,(Value.slice A4 q c4).ownBlock=some gs->gs<wr.heap.size from fun gs e=>(lr.lt gs e).2);have HF6:=Ac (fun W (_:Below wr.heap.size wr W)=>JK x W hxb.1 hxb.2)
    have SOF:=Ac (show ∀W,Below wr.heap.size wr W->(W.cell? ⟨w1.heap.size,0,none⟩=some (.slice A4 q c4)) from fun W h=>(HXG.out.next h).c0);clear xg lr hrl hlin hrz zK oW kW hT hx hxb HR;go_wp2_with fail;clear c0
    refine AW (by kernel_rfl) (by kernel_rfl) (by kernel_rfl) (by kernel_rfl) (Tg (Value.slice A4 q c4).ownBlock) (fun j v w=>match j with|0=>v=.pointer (some ⟨w1.heap.size,0,none⟩)|1=>v=.slice A4 q c4|2=>v=.int .i64 (q:Int)|3=>v=.int .i64 x|4=>∃s B m d,v=.agg #[.bool s,.slice B m d]/\Au w (.agg #[.bool s,.slice B m d]) x 2|5=>∃s B m d,v=.agg #[.int .i64 (q:Int),.bool s,.slice B m d]/\Au w (.agg #[.bool s,.slice B m d]) x 2|6=>∃gs s B m d,v=.slice (some ⟨gs,0,none⟩) 1 1/\wr.heap.size<=gs/\AK 47 w gs #[.int .i64 (q:Int),.bool s,.slice B m d]/\Au w (.agg #[.bool s,.slice B m d]) x 2|7=>True|8=>v=.pointer (some ⟨w1.heap.size,0,none⟩)|_=>True) (GA 7 wr (fun v w=>∃p2:PV,p2.v=(q:Int)/\p2.Z=x/\AF 47 3 w W1.heap.size v (rs++[p2]).length (flat (rs++[p2]))/\Au w p2.num p2.Z 2/\Tg (Value.slice A4 q c4).ownBlock wr w)) ?_ (fun _=>GA.start _ (Ap wr 1)) ?_ ?_
    · intro j v w w' hT h;match j,h with
      |0,h=>exact h
      |1,h=>exact h
      |2,h=>exact h
      |3,h=>exact h
      |4,h=>exact (by obtain ⟨s,B,m,d,e,z⟩:=h;exact ⟨s,B,m,d,e,z.kp hT.2⟩)
      |5,h=>exact (by obtain ⟨s,B,m,d,e,z⟩:=h;exact ⟨s,B,m,d,e,z.kp hT.2⟩)
      |6,h=>exact (by obtain ⟨gs,s,B,m,d,e,h1,h2,h3⟩:=h;exact ⟨gs,s,B,m,d,e,h1,h2.grown hT.1 (fun e=>by have:=HRW.out gs e.symm;omega),h3.kp hT.2⟩)
      |7,h=>exact trivial
      |8,h=>exact h
      |j+9,h=>trivial
    · refine ⟨?_,?_,?_,?_,?_,?_,?_,?_,?_,trivial⟩
      · intro l9 σ w a hin hout hl hla hs hc hp hG hF;refine Ad.none rfl ?_;have e5:a.tmps.getD 5 undef=.pointer (some ⟨w1.heap.size,0,none⟩):=hout 5 (Ae (by kernel_rfl));refine Does.val (.pointer (some ⟨w1.heap.size,0,none⟩)) (w':=w) ?_ ⟨Tg.refl _ _,rfl,hG.same (by decide)⟩;simp only[Array.getD_eq_getD_getElem?]at e5;go_simp
      · intro l9 σ w a hin hout hl hla hs hc hp hG hF;refine Ad.none rfl ?_;have e18:a.tmps.getD 18 undef=.pointer (some ⟨w1.heap.size,0,none⟩):=Am (hin 0 18) rfl (hp ⟨0,.data⟩ (by simp) rfl) (hF 0);have CC:=SOF.out w (hG.1 (Ai (k:=7) hc hl (by kernel_rfl)));obtain C0:=CC;refine Does.val (.slice A4 q c4) (w':=w) ?_ ⟨Tg.refl _ _,rfl,hG.same (by decide)⟩;go_simp
      · intro l9 σ w a hin hout hl hla hs hc hp hG hF;refine Ad.none rfl ?_;have e6:a.tmps.getD 6 undef=.int .i64 (q:Int):=hout 6 (Ae (by kernel_rfl));refine Does.val (.int .i64 (q:Int)) (w':=w) ?_ ⟨Tg.refl _ _,rfl,hG.same (by decide)⟩;simp only[Array.getD_eq_getD_getElem?]at e6;go_simp
      · intro l9 σ w a hin hout hl hla hs hc hp hG hF;refine Ad.none rfl ?_;have e7:a.tmps.getD 7 undef=.int .i64 x:=hout 7 (Ae (by kernel_rfl));refine Does.val (.int .i64 x) (w':=w) ?_ ⟨Tg.refl _ _,rfl,hG.same (by decide)⟩;simp only[Array.getD_eq_getD_getElem?]at e7;go_simp
      · intro l9 σ w a hin hout hl hla hs hc hp hG hF;refine Ad.none rfl ?_;have e21:a.tmps.getD 21 undef=.int .i64 x:=Am (hin 3 21) rfl (hp ⟨3,.data⟩ (by simp) rfl) (hF 3);refine Does.call ?_ (HF6.out w (hG.1 (Ai (k:=7) hc hl (by kernel_rfl)))) ?_
        · go_simp;(try exact eg _ _)
        · rintro e w' ⟨v,rfl,z,hb⟩;exact ⟨_,rfl,Tg.of_below hb,(by obtain ⟨s,B,m,d,rfl⟩:=z.form;exact ⟨s,B,m,d,rfl,z⟩),hG.call (by decide) (Ai (k:=7) hc hl (by kernel_rfl)) hb⟩
      · intro l9 σ w a hin hout hl hla hs hc hp hG hF;refine Ad.none rfl ?_;have e20:a.tmps.getD 20 undef=.int .i64 (q:Int):=Am (hin 2 20) rfl (hp ⟨2,.data⟩ (by simp) rfl) (hF 2);have e22:=hin 4 22 rfl (hp ⟨4,.data⟩ (by simp) rfl);obtain ⟨s4,B4,m4,d4,ev4,z4⟩:=hF 4 (hp ⟨4,.data⟩ (by simp) rfl);rw[ev4]at e22;refine Does.val (.agg #[.int .i64 (q:Int),.bool s4,.slice B4 m4 d4]) (w':=w) ?_ ⟨Tg.refl _ _,⟨s4,B4,m4,d4,rfl,z4⟩,hG.same (by decide)⟩
        simp only[Array.getD_eq_getD_getElem?]at e20 e22;go_simp
      · intro l9 σ w a hin hout hl hla hs hc hp hG hF;refine Ad.none rfl ?_;have e23:=hin 5 23 rfl (hp ⟨5,.data⟩ (by simp) rfl);obtain ⟨s5,B5,m5,d5,ev5,z5⟩:=hF 5 (hp ⟨5,.data⟩ (by simp) rfl);rw[ev5]at e23
        refine Does.val (.slice (some ⟨w.heap.size,0,none⟩) 1 1) (w':=w.alloc (.cells #[.int .i64 (q:Int),.bool s5,.slice B5 m5 d5] 47)) ?_ ⟨Tg.of_below (Af w _),⟨w.heap.size,s5,B5,m5,d5,rfl,(hG.1 (Ai (k:=7) hc hl (by kernel_rfl))).size,AK.new _ _ _,z5.alloc _⟩,hG.call (by decide) (Ai (k:=7) hc hl (by kernel_rfl)) (Af w _)⟩;simp only[Array.getD_eq_getD_getElem?]at e23;go_simp
      · intro l9 σ w a hin hout hl hla hs hc hp hG hF;refine Ad.none rfl ?_;have e19:a.tmps.getD 19 undef=.slice A4 q c4:=Am (hin 1 19) rfl (hp ⟨1,.data⟩ (by simp) rfl) (hF 1);have e24:=hin 6 24 rfl (hp ⟨6,.data⟩ (by simp) rfl);obtain ⟨g6,s6,B6,m6,d6,ev6,hg6,x6,z6⟩:=hF 6 (hp ⟨6,.data⟩ (by simp) rfl);rw[ev6]at e24;have hl0:=hl;have hB:=hG.1 hl;have hl:=HL.out.below hB;obtain ⟨i0,hi0,hz0,hz1,hz2⟩:=info_parts CR
        obtain ⟨v',w',hr,h2,h3⟩:=Cg (P:=Tryz.prog) w W1.heap.size 34 34 47 i0 _ 3 40 Tryz.underlying34 hi0 hz0 hz1 hz2 rfl (by decide) BK (.slice A4 q c4) q (flat rs) hl ⟨g6,0,none⟩ 1 1 (flat [⟨(q:Int),s6,B6,m6,d6,x⟩]) rfl (fun jj u hu=>by rw[addr_add,Nat.zero_add];exact x6.cell jj u (by simpa[flat,PV.cells] using hu)) (Fc _) (Ew _) (by unfold maxLen;omega) (by omega) (Nat.le_trans HWS.out hB.size);have hk:=hl.kp h3
        refine Does.val v' (w':=w') ?_ ⟨⟨h3,hk⟩,trivial,GA.on_ hl0 (by rw[hs];decide) ⟨⟨(q:Int),s6,B6,m6,d6,x⟩,rfl,rfl,?_,z6.kp hk,⟨World.grownBy.trans2 hB h3,(Kp.of_below hB).trans hk⟩⟩⟩
        · exact Bn rfl e19 e24 hr
        · rw[Do,List.length_append,HRL.out];exact h2
      · intro l9 σ w a hin hout hl hla hs hc hp hG hF;refine Ad.none rfl ?_;have e5:a.tmps.getD 5 undef=.pointer (some ⟨w1.heap.size,0,none⟩):=hout 5 (Ae (by kernel_rfl));refine Does.val (.pointer (some ⟨w1.heap.size,0,none⟩)) (w':=w) ?_ ⟨Tg.refl _ _,rfl,hG.same (by decide)⟩;simp only[Array.getD_eq_getD_getElem?]at e5;go_simp
    · intro o ho;injection ho with ho;subst ho
      intro l9 σ w a hall hin hout hG hF;refine Ad.none rfl ?_;have e26:a.tmps.getD 26 undef=.pointer (some ⟨w1.heap.size,0,none⟩):=(hin 8 26 rfl (by decide)).trans (hF 8 (by decide));have e25:=hin 7 25 rfl (by decide);have z7:=hF 7 (by decide);obtain ⟨p2,e1,e2,l2,z2,tg⟩:=hG.2 (hall 7 (by decide));have hlr:=HL.out;have x9:=HXG.out.grown tg.1 (fun e=>hlr.offTerm HXG.out e.symm);obtain ⟨A2,c2,hv2,-,-,-⟩:=l2.len;have hlen2:(rs++[p2]).length=q+1:=(by simp[HRL.out])
      rw[hlen2]at hv2;rw[hv2]at e25 l2;have u0:=x9.c0;have u1:=x9.fr 0;refine Does.skip (w':=w.setCell ⟨w1.heap.size,0,none⟩ (.slice A2 (q+1) c2)) (by go_simp) ?_;have HE2:=Ac (BM.step (f:=fun z=>z) HXG.out hlr HRL.out HLI.out HRZ.out HZK.out HOW.out HKW.out HLp.out e1 e2 l2 z2 tg)
      rw[show fin _ σ undef _=(Act.put (Act.put (Act.put (Act.put (Act.put (Act.put (Act.put (Act.put (Act.put (Act.put _ (some 18) (σ 0)) (some 19) (σ 1)) (some 20) (σ 2)) (some 21) (σ 3)) (some 22) (σ 4)) (some 23) (σ 5)) (some 24) (σ 6)) (some 25) (σ 7)) (some 26) (σ 8)) none undef) from (Bt hall).trans rfl];simp only[Act.put,List.setIfInBounds_toArray,List.set_cons_zero,List.set_cons_succ]
      generalize σ 0=tt0;generalize σ 1=tt1;generalize σ 2=tt2;generalize σ 3=tt3;generalize σ 4=tt4;generalize σ 5=tt5;generalize σ 6=tt6;generalize σ 7=tt7 at *;generalize σ 8=tt8;clear hF hG hall hin hout SOF HF6 HRW l2 z2 tg x9 u0 u1 hlen2;generalize w.setCell ⟨w1.heap.size,0,none⟩ (.slice A2 (q+1) c2)=w8 at *;go_wp2_with fail;go_roundw
      case rel=>exact ⟨q+1,by omega,by go_num,HE2⟩
      case measure=>simp[intOf]<;>omega
  · obtain rfl:q=n:=(by omega);have hL2:=Ac (show Cl rs=F7 xs by
      rw[hlin,List.take_of_length_le (by rw[O2];have:=HLN.out;omega)];simp)
    have hR:=XR.out.other oW (by have:=hz3.out;omega);obtain ⟨A',c',hv',hc1',hc2',-⟩:=lr.len;injection hv' with e1' e2' e3'
    subst e1' e3';have HOP:=Ac (show Hq wr w0.heap.size (.slice A4 q c4) q (Cl rs) 2 from ⟨rs,lr.rebase HW1.out.size,hrl,rfl,hrz⟩);have HZK:=Ac zK;have HB:=Ac hT;have HR5:=Ac hR;have x0:=xg.c0;have x1:=xg.c1;have x2:=xg.c2;clear lr hrl hlin hrz zK oW kW HR xg hT;go_wp2_with (with_reducible refine Be rfl _ _ rfl w0.heap.size _ _ _ _ _ _ _ rfl rfl _ _ _ hR ?_;intro w7 k7 ho7);refine BJ rfl rfl k7 rfl ?_;have hk:=HR5.out.kp (Te _ _ _ _ _ _ _) ho7
    refine ⟨A4,c4,s4,B4,m4,d4,rfl,?_,hc1',hc2',HZK.out.kp hk,AE HB.out (by omega) ho7⟩;rw[<-hL2.out];obtain ⟨ts,g1,g2,g3,g4⟩:=HOP.out;exact ⟨ts,g1.onlyTerm HR5.out ho7,g2,g3,fun p hp=>(g4 p hp).kp hk⟩
theorem Fp (K:Int) (A:Option Addr) (n c:Nat) (xs:List Int) (w0:World) (hx:GW w0 A n xs) (hk1:-9223372036854775808<=K) (hk2:K<=9223372036854775807) (hxs:∀x∈xs,-9223372036854775808<=x/\x<=9223372036854775807) (hn1:n<=1099511):Calls Tryz.prog 17 #[.int .i64 K,.slice A n c] w0 (BG (F7 xs) K 2 w0):=
 (Tb K A n c xs w0 hx hk1 hk2 hxs hn1).mono fun _ _ h=>h.res
end
end Go.Proofs.YtmedjkhmadfjlaaGreat
