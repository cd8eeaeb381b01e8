/- Texts of one seat, put together: Open OpenZ OpenT R4Few RowLB Drawn. -/
import Derived.Test.YtemfjdedjcjegaaGreatDoorL01
import Derived.ProofKit
import Derived.OpenShut
import Derived.ShutString
import Derived.ChangeOld
import Derived.Below
import Derived.Lib.SmallJoins
import Derived.Test.YtemfjdedjcjegaaGreatDoorL11
import Derived.Deep.Slices
import Derived.Deep.Strs
import Derived.Test.YtemfjdedjcjegaaGreatDoorL23
import Derived.Test.YtemfjdedjcjegaaGreatDoorL21
import Derived.Test.YtemfjdedjcjegaaGreatDoorL09
import Derived.Calls
import Derived.Deep.Draws
import Derived.Sort.Grow
set_option linter.unusedVariables false
set_option linter.unusedSimpArgs false
set_option maxRecDepth 100000
set_option maxHeartbeats 16000000
namespace Go.Proofs.YtemfjdedjcjegaaGreatDoor
section
open Go.ChangeShapes Go.WideShapes Go.ChangeAt Go.RowKit
open Go.ChangeMaps (open_string shut_string)
theorem own:ownKnob Tryz.prog.godebug=none:=by kernel_rfl
theorem laidOut:laidOutB Tryz.prog=true:=by kernel_rfl
theorem wf_u32 {z:Int} (h:(Lit.int .u32 z).wf=true):0<=z/\z<4294967296:=by have h1:IntKind.u32.min=0:=rfl;have h2:IntKind.u32.max=4294967295:=rfl;simp only[Lit.wf,Bool.and_eq_true,decide_eq_true_eq]at h;omega
theorem Pw {H:Type} {enc:TypeId×Value->H} {W:World} {a0:Option Addr} {len0 cap0:Nat} {d:DataW H} {p:List MemPlace}
   (h0:DataW.Trod enc Tryz.prog W 0 (fun _=>true) true 29 (.slice a0 len0 cap0) d p):∃xs,Am W a0 len0 xs/\len0<=cap0/\cap0<=9223372036854775807:=by
 obtain ⟨fuel,hf⟩:=h0;rcases open_ints Tryz.underlying29 Tryz.underlying83 (by kernel_rfl) hf with ⟨hcs,_⟩|⟨x,l,c,zs,hcs,_,hl,hm,hz,_,hcell,hwz⟩
 · simp[Value.cells]at hcs;obtain ⟨rfl,rfl,rfl⟩:=hcs;exact ⟨[],Am.nil _ _,by omega,by omega⟩
 · simp[Value.cells]at hcs;obtain ⟨rfl,rfl,rfl⟩:=hcs;have hz2:zs.length=cap0:=(by simpa using hz);unfold maxLen at hm;refine ⟨(zs.take len0).map Int.toNat,⟨by simp;omega,?_,?_⟩,hl,hm⟩
   · intro y hy;obtain ⟨z,hz1,rfl⟩:=List.mem_map.1 hy;have:=wf_u32 (hwz z (List.mem_of_mem_take hz1));omega
   · intro hn;have h1:=hcell 0 (by omega);obtain ⟨b,o,spot⟩:=x;have hspot:spot=none:=(by simpa[Addr.add] using World.cell?_spot h1);subst hspot;refine ⟨b,o,rfl,fun i hi=>?_⟩;have h2:=hcell i (by omega);have e:(⟨b,o,none⟩:Addr).add i=⟨b,o+i,none⟩:=by
      by_cases hi0:i=0
      · subst hi0;rfl
      · simp[Addr.add,hi0]
     rw[e]at h2;rw[h2];have hlt:i<zs.length:=(by omega);have hw:=wf_u32 (hwz zs[i] (List.getElem_mem hlt));have e1:zs.getD i 0=zs[i]:=(by rw[List.getD_eq_getElem?_getD,List.getElem?_eq_getElem hlt];rfl);have e2:((zs.take len0).map Int.toNat).getD i 0=zs[i].toNat:=by rw[List.getD_eq_getElem?_getD,List.getElem?_map,List.getElem?_take_of_lt hi,List.getElem?_eq_getElem hlt];rfl
     rw[e1,e2];congr 2
     omega
end
section
open Go.ChangeShapes Go.WideShapes Go.ChangeAt Go.RowKit
open Go.ChangeMaps (open_string shut_string)
theorem Ny {H:Type} {enc:TypeId×Value->H} {W:World} {v:Value} {x:DataW H×List MemPlace} {f:Nat}
   (hf:DataW.trod enc Tryz.prog W 0 (fun _=>true) true f 29 [v]=some x):∃a len cap xs,v=.slice a len cap/\Am W a len xs/\len<=cap/\cap<=9223372036854775807:=by
 rcases open_ints Tryz.underlying29 Tryz.underlying83 (by kernel_rfl) hf with ⟨hcs,_⟩|⟨y,l,c,zs,hcs,_⟩
 · injection hcs with hcs
   subst hcs;exact ⟨none,0,0,[],rfl,Am.nil _ _,by omega,by omega⟩
 · injection hcs with hcs
   subst hcs;obtain ⟨xs,h1,h2,h3⟩:=Pw (a0:=some y) (len0:=l) (cap0:=c) (d:=x.1) (p:=x.2) (W:=W) (enc:=enc) ⟨f,hf⟩;exact ⟨some y,l,c,xs,rfl,h1,h2,h3⟩
end
section
open Go.ChangeShapes Go.WideShapes Go.ChangeAt Go.RowKit Go.Deep
theorem IZ:Tryz.prog.cellsOf 31=2:=by kernel_rfl
theorem Kh:Tryz.prog.cellsOf 4=1:=by kernel_rfl
theorem QX:Tryz.prog.cellsOf 29=1:=by kernel_rfl
theorem Tp:Tryz.prog.cellsOf 3=1:=by kernel_rfl
theorem Ki:Tryz.prog.cellsOf 59=3:=by kernel_rfl
theorem Nz:Tryz.prog.cellsOf 27=1:=by kernel_rfl
theorem Kj:Tryz.prog.cellsOf 33=3:=by kernel_rfl
def PI:Nat:=9223372036854775807
section
variable {H:Type} {enc:TypeId×Value->H} {W:World} {f:Nat} {x:DataW H×List MemPlace} {cs:List Value}
theorem Fx (h:DataW.trod enc Tryz.prog W 0 (fun _=>true) true f 31 cs=some x):∃s a len cap Z,cs=[.bool s,.slice a len cap]/\BF W (.agg #[.bool s,.slice a len cap]) Z PI:=by
 obtain ⟨y0,y1,n,-,hl,h0,h1⟩:=trod_struct2 Tryz.underlying31 h;rw[IZ]at hl;match cs,hl with
 |[v0,v1],_=>
  have g0:DataW.trod enc Tryz.prog W 0 (fun _=>true) true n 4 (([v0,v1].drop 0).take (Tryz.prog.cellsOf 4))=some y0:=h0;have g1:DataW.trod enc Tryz.prog W 0 (fun _=>true) true n 29 (([v0,v1].drop 1).take (Tryz.prog.cellsOf 29))=some y1:=h1;rw[Kh]at g0;rw[QX]at g1;obtain ⟨s,e0,-⟩:=DataW.trod_bool Tryz.underlying4 g0;injection e0 with e0
  subst e0;obtain ⟨a,len,cap,xs,rfl,h1,h2,h3⟩:=Ny g1;exact ⟨s,a,len,cap,_,rfl,s,a,len,cap,xs,rfl,h1,h2,h3,by unfold PI;omega,rfl⟩
theorem Ho (h:DataW.trod enc Tryz.prog W 0 (fun _=>true) true f 59 cs=some x):∃p:PV,cs=p.cells/\BF W p.num p.Z PI/\-9223372036854775808<=p.v/\p.v<=9223372036854775807:=by
 obtain ⟨y0,y1,n,-,hl,h0,h1⟩:=trod_struct2 Tryz.underlying59 h;rw[Ki]at hl;match cs,hl with
 |[v0,v1,v2],_=>
  have g0:DataW.trod enc Tryz.prog W 0 (fun _=>true) true n 3 (([v0,v1,v2].drop 0).take (Tryz.prog.cellsOf 3))=some y0:=h0;have g1:DataW.trod enc Tryz.prog W 0 (fun _=>true) true n 31 (([v0,v1,v2].drop 1).take (Tryz.prog.cellsOf 31))=some y1:=h1;rw[Tp]at g0;rw[IZ]at g1;obtain ⟨z,e0,-,hw⟩:=DataW.trod_int Tryz.underlying3 g0;injection e0 with e0
  subst e0;obtain ⟨s,a,len,cap,Z,e,hz⟩:=Fx g1;injection e with e1 e
  injection e with e2 e
  subst e1 e2;exact ⟨⟨z,s,a,len,cap,Z⟩,rfl,hz,(bounds_i64 hw).1,(bounds_i64 hw).2⟩
theorem N0 (ps:List PV) (j:Nat) (u:Value) (h:(flat ps)[j]?=some u):∃i p r,ps[i]?=some p/\j=3*i+r/\p.cells[r]?=some u/\r<3:=by
 induction ps generalizing j with
 |nil=>simp[flat]at h
 |cons p ps ih=>
  rw[CI]at h;have hl:p.cells.length=3:=rfl;by_cases hj:j<3
  · rw[List.getElem?_append_left (by omega)]at h;exact ⟨0,p,j,rfl,by omega,h,hj⟩
  · rw[List.getElem?_append_right (by omega),hl]at h;obtain ⟨i,q,r,h1,h2,h3,h4⟩:=ih _ h;exact ⟨i+1,q,r,by simpa using h1,by omega,h3,h4⟩
instance pvSome:Inhabited PV:=⟨⟨0,false,none,0,0,0⟩⟩
theorem N1 {v:Value} (hf:DataW.trod enc Tryz.prog W 0 (fun _=>true) true f 27 [v]=some x):∃a len cap ps,v=.slice a len cap/\AC W a len ps PI/\(∀p∈ps,-9223372036854775808<=p.v/\p.v<=9223372036854775807)/\len<=cap/\cap<=9223372036854775807:=by
 rcases open_slice Tryz.underlying27 hf with ⟨hcs,_⟩|⟨a,len,cap,m,n,D,Pl,hcs,_,hl,hm,hmm,_,hx⟩
 · injection hcs with hcs
   subst hcs;exact ⟨none,0,0,[],rfl,AC.nil _ _ _,fun p hp=>by simp at hp,by omega,by omega⟩
 · injection hcs with hcs
   subst hcs;unfold maxLen at hm;have hlm:len<=m:=(by rw[hmm];split<;>omega);obtain ⟨p,hp⟩:=choose_lt (α:=PV) (n:=len) (p:=fun i p=>(∀r u,p.cells[r]?=some u->W.cell? (a.add (i*3+r))=some u)/\BF W p.num p.Z PI/\-9223372036854775808<=p.v/\p.v<=9223372036854775807) (fun i hi=>by
     obtain ⟨cs,h1,h2⟩:=hx i (by omega);rw[Ki]at h1;obtain ⟨_,hlen,hcell⟩:=World.cells?_some h1;obtain ⟨p,rfl,hz,hb⟩:=Ho h2;refine ⟨p,fun r u hu=>?_,hz,hb⟩;have hr:r<3:=by have:=(List.getElem?_eq_some_iff.1 hu).1;have hl:p.cells.length=3:=rfl;omega
     rw[<-hu,<-hcell r hr,add_add])
   have hall:∀q∈(List.range len).map p,∃i,i<len/\q=p i:=fun q hq=>by
     obtain ⟨i,hi,rfl⟩:=List.mem_map.1 hq;exact ⟨i,List.mem_range.1 hi,rfl⟩
   refine ⟨some a,len,cap,(List.range len).map p,rfl,⟨by simp,fun hn=>?_,fun q hq=>?_⟩,fun q hq=>?_,hl,hm⟩
   · have h0:=(hp 0 hn).1 0 _ rfl;obtain ⟨b,o,spot⟩:=a;have hspot:spot=none:=(by simpa[Addr.add] using World.cell?_spot h0);subst hspot;refine ⟨b,o,rfl,fun j u hu=>?_⟩;obtain ⟨i,q,r,h1,rfl,h3,h4⟩:=N0 _ _ _ hu;have hi:i<len:=by
      have:=(List.getElem?_eq_some_iff.1 h1).1;simpa using this
     have hq:q=p i:=by rw[List.getElem?_map,List.getElem?_range hi]at h1;exact (Option.some.inj h1).symm
     subst hq;have h5:=(hp i hi).1 r u h3;rw[add_plain]at h5;rw[show 3*i+r=i*3+r by omega];exact h5
   · obtain ⟨i,hi,rfl⟩:=hall q hq;exact (hp i hi).2.1
   · obtain ⟨i,hi,rfl⟩:=hall q hq;exact (hp i hi).2.2
theorem Hp (h:DataW.trod enc Tryz.prog W 0 (fun _=>true) true f 33 cs=some x):∃A n c s B m d L K,cs=[.slice A n c,.bool s,.slice B m d]/\Dw W (.agg #[.slice A n c,.bool s,.slice B m d]) L K PI/\∀p∈L,-9223372036854775808<=p.1/\p.1<=9223372036854775807:=by
 obtain ⟨y0,y1,n,-,hl,h0,h1⟩:=trod_struct2 Tryz.underlying33 h;rw[Kj]at hl;match cs,hl with
 |[v0,v1,v2],_=>
  have g0:DataW.trod enc Tryz.prog W 0 (fun _=>true) true n 27 (([v0,v1,v2].drop 0).take (Tryz.prog.cellsOf 27))=some y0:=h0;have g1:DataW.trod enc Tryz.prog W 0 (fun _=>true) true n 31 (([v0,v1,v2].drop 1).take (Tryz.prog.cellsOf 31))=some y1:=h1;rw[Nz]at g0;rw[IZ]at g1;obtain ⟨a,len,cap,ps,e0,hp,hb,hl1,hl2⟩:=N1 g0;obtain ⟨s,B,m,d,Z,e,hz⟩:=Fx g1;injection e with e1 e
  injection e with e2 e
  subst e0 e1 e2;refine ⟨a,len,cap,s,B,m,d,Ca ps,Z,rfl,⟨a,len,cap,s,B,m,d,rfl,⟨ps,hp,rfl⟩,hl1,hl2,hz⟩,fun p hp=>?_⟩;obtain ⟨q,hq,rfl⟩:=List.mem_map.1 hp;exact hb q hq
end
end
section
open Go.RowKit
def QY (w:World) (li:Nat) (r:RV):Prop:=r.n<=20/\Dw w r.trm r.L r.K li
def QZ (mo li:Nat) (rs:List RV) (w:World) (e:Ending) (w':World):Prop:=∃r,e=.returned (.bool r)/\(r=true->rs.length<=mo/\∀x∈rs,QY w li x)/\w'=w
theorem Px (A:Option Addr) (n c mo li:Nat) (rs:List RV) (w0:World) (hx:Eu w0 A n rs PI) (hn:n<=9223372036854775807) (hmo:mo<=1000) (hli:li<=1000):Calls Tryz.prog 7 #[.slice A n c,.int .i64 mo,.int .i64 li] w0 (QZ mo li rs w0):=by
 have HX:=Ad hx;have HLN:=Ad hx.1.1;clear hx;go_enter Tryz.func7,Tryz.ntmps7;by_cases hnm:(mo:Int)<n
 · go_wp2_with fail;go_ret
   exact ⟨false,rfl,(fun h=>by cases h),rfl⟩
 have HNM:=Ad hnm;go_wp2_with fail;have HF:=Ad (show ∀i t,i<0->rs[i]?=some t->QY w0 li t from fun i t h=>by omega);go_loopw [7] (fun i wr=>∃q:Nat,q<=n/\i=.int .i64 q/\Hid (∀i t,i<q->rs[i]?=some t->QY w0 li t)/\wr=w0) (fun i _=>n-(intOf i).toNat)
 case atStart=>exact ⟨0,Nat.zero_le _,rfl,HF,by trivial⟩
 case round=>
   obtain ⟨q,hq,rfl,HFq,rfl⟩:=hrel;by_cases hqn:q<n
   · obtain ⟨bb,o,t,rfl,hgt,c0,c1,c2,c3⟩:=HX.out.1.at_ hqn;obtain ⟨A',n',c',s',B',m',d',e',hp',hc1,hc2,hK⟩:=HX.out.2 t (List.mem_of_getElem? hgt);have e2:A'=t.A/\n'=t.n/\c'=t.c/\s'=t.s/\B'=t.B/\m'=t.m/\d'=t.d:=(by simpa[RV.trm,eq_comm,and_assoc] using e');obtain ⟨rfl,rfl,rfl,rfl,rfl,rfl,rfl⟩:=e2;clear e';obtain ⟨ps,hps,hpl⟩:=hp';have hm1:=hK.bounds;have ht1:t.n<=9223372036854775807:=(by omega);have HPS:=Ad hps;have HPL:=Ad hpl;have HK:=Ad hK;have HT:=Ad hgt
     have c2':wr.cell? ⟨bb,o+q*4+1+1,none⟩=some (.slice t.B t.m t.d):=c2;clear hps hpl hK hgt;by_cases h30:(20:Int)<t.n
     · go_wp2_with fail;go_ret
       exact ⟨false,rfl,(fun h=>by cases h),rfl⟩
     · by_cases h20:(li:Int)<t.m
       · go_wp2_with fail;go_ret
         exact ⟨false,rfl,(fun h=>by cases h),rfl⟩
       · go_wp2_with fail;have H30:=Ad h30;have H20:=Ad h20;have HG:=Ad (show ∀i x,i<0->ps[i]?=some x->x.m<=li from fun i x h=>by omega);obtain ⟨wo,hwo⟩:∃wo,wo=wr:=⟨_,rfl⟩;go_loopw [8] (fun i w2=>∃r:Nat,r<=t.n/\i=.int .i64 r/\Hid (∀i x,i<r->ps[i]?=some x->x.m<=li)/\w2=wo) (fun i _=>t.n-(intOf i).toNat)
         case atStart=>exact ⟨0,Nat.zero_le _,rfl,HG,by first|trivial|exact hwo.symm⟩
         case round=>
          obtain ⟨r,hr,rfl,HGr,hw2⟩:=hrel;subst hw2;subst hwo;by_cases hrn:r<t.n
          · obtain ⟨pb,po,p,hA,hgp,g0,g1,g2,hpz⟩:=HPS.out.at_ hrn;have c0':=c0;rw[hA]at c0';have HAA:=Ad hA;clear c0 hA;have hpm:=hpz.bounds;have hgp':=Ad hgp;rw[Nat.mul_comm 3 r]at g0 g1 g2;rw[<-Nat.add_assoc]at g1 g2;have g2':wr.cell? ⟨pb,po+r*3+1+1,none⟩=some (.slice p.B p.m p.d):=g2;by_cases hp20:(li:Int)<p.m
            · go_wp2_with fail;go_ret
              exact ⟨false,rfl,(fun h=>by cases h),rfl⟩
            · go_wp2_with fail;go_roundw
              case rel=>exact ⟨r+1,by omega,by go_num,fun i x hi hx=>by
               by_cases hir:i<r
               · exact HGr.out i x hir hx
               · obtain rfl:i=r:=(by omega);rw[hgp'.out]at hx;injection hx with hx
                 subst hx;omega,by trivial⟩
              case measure=>simp[intOf]<;>omega
          · obtain rfl:r=t.n:=(by omega);go_wp2_with fail;go_roundw
            case rel=>exact ⟨q+1,by omega,by go_num,fun i x hi hx=>by
               by_cases hir:i<q
               · exact HFq.out i x hir hx
               · obtain rfl:i=q:=(by omega);rw[HT.out]at hx;injection hx with hx
                 subst hx;have h30:=H30.out;have h20:=H20.out;refine ⟨by omega,t.A,t.n,t.c,t.s,t.B,t.m,t.d,rfl,⟨ps,⟨HPS.out.1,HPS.out.2.1,fun p hp=>?_⟩,HPL.out⟩,hc1,hc2,HK.out.cut (by omega)⟩;obtain ⟨y,hy,hyp⟩:=List.mem_iff_getElem.1 hp;exact (HPS.out.2.2 p hp).cut (HGr.out y p (by have:=HPS.out.1;omega) (by rw[List.getElem?_eq_getElem hy,hyp])),by trivial⟩
            case measure=>simp[intOf]<;>omega
   · obtain rfl:q=n:=(by omega);go_wp2_with fail;go_ret
     refine ⟨true,rfl,fun _=>⟨by have:=HLN.out;have:=HNM.out;omega,fun t ht=>?_⟩,rfl⟩;obtain ⟨i,hi,hit⟩:=List.mem_iff_getElem.1 ht;exact HFq.out i t (by have:=HLN.out;omega) (by rw[List.getElem?_eq_getElem hi,hit])
def TY (mo li:Nat) (A:Option Addr) (n:Nat) (vs:List IV) (w:World) (e:Ending) (w':World):Prop:=∃r,e=.returned (.bool r)/\(r=true->n<=mo/\CY w A n vs li)/\w'=w
end
section
open Go.RowKit
def BD (Pt:List Value->Prop) (T:TypeId) (sz:Nat) (w:World) (base:Nat) (v:Value) (n:Nat) (xs:List Value):Prop:=
 xs.length=n*sz/\((v=.slice none 0 0/\n=0) \/
  ∃g cap cur,v=.slice (some ⟨g,0,none⟩) n cap/\base<=g/\w.heap[g]?=some (.cells cur T (0,0))/\n<=cap/\cap<=maxLen/\cur.size=cap*sz/\cur.toList.take (n*sz)=xs/\EU cur.toList/\Pt cur.toList)
theorem BD.lrow {Pt:List Value->Prop} {T:TypeId} {sz:Nat} {w:World} {base:Nat} {v:Value} {n:Nat} {xs:List Value} (h:BD Pt T sz w base v n xs):Az T sz w base v n xs:=
 ⟨h.1,h.2.imp id fun ⟨g,cap,cur,a,b,c,d,e,f,i,j,_⟩=>⟨g,cap,cur,a,b,c,d,e,f,i,j⟩⟩
theorem BD.nil (Pt:List Value->Prop) (T:TypeId) (sz:Nat) (w:World) (base:Nat):BD Pt T sz w base (.slice none 0 0) 0 []:=⟨by simp,.inl ⟨rfl,rfl⟩⟩
theorem BD.kept {Pt:List Value->Prop} {T:TypeId} {sz:Nat} {w w':World} {base:Nat} {v:Value} {n:Nat} {xs:List Value} {row:Option Nat} (h:BD Pt T sz w base v n xs) (hg:w.grownBy w' row) (hne:v.ownBlock=none\/v.ownBlock≠row):BD Pt T sz w' base v n xs:=by
 refine ⟨h.1,?_⟩;rcases h.2 with hn|⟨g,cap,cur,rfl,hb,hgg,rest⟩
 · exact .inl hn
 · refine .inr ⟨g,cap,cur,rfl,hb,?_,rest⟩;rw[hg.block g (Array.getElem?_eq_some_iff.1 hgg).1 (by simpa[Value.ownBlock] using hne)];exact hgg
theorem BD.below {Pt:List Value->Prop} {T:TypeId} {sz:Nat} {w w':World} {base:Nat} {v:Value} {n:Nat} {xs:List Value} (h:BD Pt T sz w base v n xs) (hb:Below w.heap.size w w'):BD Pt T sz w' base v n xs:=
 h.kept (row:=none) ⟨hb.os,hb.tape,hb.output,hb.size,fun k hk _=>hb.block k hk⟩ (by
  by_cases h0:v.ownBlock=none
  · exact .inl h0
  · exact .inr h0)
section
variable {P:Program} (w:World)
theorem E4 (Pt:List Value->Prop) (base:Nat) (t ty e:TypeId) (i:TypeInfo) (z:Value) (size bytes:Nat) (ht:P.underlying t=some (.slice e)) (hi:P.info? e=some i) (hz:i.zero=some z)
   (hsize:i.size=size) (hby:i.bytes=bytes) (hzs:z.cells.size=size) (hsz:0<size) (hzn:EU z.cells.toList)
   (v:Value) (n:Nat) (xs:List Value) (hown:BD Pt e size w base v n xs)
   (a:Addr) (m c:Nat) (news:List Value) (hl:news.length=m*size) (hnews:∀j u,news[j]?=some u->w.cell? (a.add j)=some u) (h1:∀u∈news,u.oneCell'=true) (hnn:EU news)
   (h63:n+m<=maxLen) (hbytes:(n+m)*bytes<=140737488355328) (hbase:base<=w.heap.size)
   (p0:Pt []) (pa:∀a b:List Value,a.length%size=0->Pt a->Pt b->Pt (a++b)) (pt:∀(a:List Value) (k:Nat),Pt a->Pt (a.take k)) (pd:∀(a:List Value) (k:Nat),k%size=0->Pt a->Pt (a.drop k)) (pz:∀k,Pt (Builtin.zeroCells z.cells k).toList) (pn:Pt news) :
   ∃v' w',(Builtin.append_ #[t,t] ty #[v,.slice (some a) m c]).run P w=.ok v' w'/\BD Pt e size w' base v' (n+m) (xs++news)/\w.grownBy w' v.ownBlock/\(v'.ownBlock=v.ownBlock\/v'.ownBlock=some w.heap.size):=by
 subst hsize;subst hby;have hsmall:n+m<=9223372036854775807:=by simp only[maxLen]at h63;omega
 have hlen:(xs++news).length=(n+m)*i.size:=by rw[List.length_append,hown.1,hl,Nat.add_mul]
 have hxn:=hown.lrow.isNLs;have hxp:Pt xs:=by
   rcases hown.2 with ⟨-,h0⟩|⟨g,cap,cur,-,-,-,-,-,-,ht,-,hp⟩
   · have:xs=[]:=List.eq_nil_of_length_eq_zero (by rw[hown.1,h0,Nat.zero_mul]);rw[this];exact p0
   · rw[<-ht];exact pt _ _ hp
 have hzz:∀k,EU (Builtin.zeroCells z.cells k).toList:=by intro k u hu;have h2:u∈(Builtin.zeroCells z.cells k):=(by simpa using hu);unfold Builtin.zeroCells at h2;obtain ⟨q,-,hq⟩:=Array.mem_map.1 h2;have hlt:q%z.cells.size<z.cells.size:=Nat.mod_lt _ (by omega);rw[getElem!_pos z.cells _ hlt]at hq;exact hzn u (by rw[<-hq];simp)
 have grown:∀(old:Nat),old<n+m->∀(row:Option Nat),
     BD Pt e i.size (w.drew.alloc (.cells (xs.toArray++news.toArray++Builtin.zeroCells z.cells (grownCap w (n+m) old e-(n+m))) e)) base
       (.slice (some ⟨w.heap.size,0,none⟩) (n+m) (grownCap w (n+m) old e)) (n+m) (xs++news) /\
     w.grownBy (w.drew.alloc (.cells (xs.toArray++news.toArray++Builtin.zeroCells z.cells (grownCap w (n+m) old e-(n+m))) e)) row:=by
   intro old ho row;have hge:=grownCap_ge w (n+m) old e;have hcm:grownCap w (n+m) old e<=maxLen:=grownCap_le_maxLen w (n+m) old e h63;refine ⟨⟨hlen,.inr ⟨w.heap.size,_,_,rfl,hbase,heap_alloc_new w.drew _,hge,hcm,?_,?_,?_,?_⟩⟩,⟨rfl,rfl,rfl,by simp,fun k hk _=>Below.heap_alloc w.drew _ k hk⟩⟩
   · simp only[Array.size_append,List.size_toArray,size_zeroCells,hzs,hown.1,hl,<-Nat.add_mul];congr 1
     omega
   · simp only[Array.toList_append,List.append_assoc];rw[<-List.append_assoc,<-hlen];exact List.take_left
   · simp only[Array.toList_append];exact (hxn.append hnn).append (hzz _)
   · simp only[Array.toList_append];exact pa _ _ (by show (xs++news).length%i.size=0;rw[hlen];exact Nat.mul_mod_left _ _) (pa _ _ (by show xs.length%i.size=0;rw[hown.1];exact Nat.mul_mod_left _ _) hxp pn) (pz _)
 rcases hown.2 with ⟨rfl,rfl⟩|⟨g,cap,cur,rfl,hbg,hg,hnc,hcm,hcs,htake,hcn,hcp⟩
 · have hx:xs=[]:=List.eq_nil_of_length_eq_zero (by simpa using hown.1);subst hx;by_cases hm:m=0
   · subst hm;have hn:news=[]:=List.eq_nil_of_length_eq_zero (by simpa using hl);subst hn;refine ⟨.slice none 0 0,w,?_,BD.nil Pt e i.size w base,⟨rfl,rfl,rfl,Nat.le_refl _,fun _ _ _=>rfl⟩,.inl rfl⟩;simp[Builtin.append_,run_underlying ht,sizeOf,typeInfo,hi,Builtin.lenOf,Builtin.firstCells,loadCells,loadCellsFrom]
   · have hr:=run_append_nil (P:=P) w t ty e i z ht hi hz a m c news hl hnews (by omega) (by omega) (by have hb:=hbytes;simp only[Nat.zero_add]at hb;omega);have hgr:=grown 0 (by omega) (Value.ownBlock (.slice none 0 0));simp only[Nat.zero_add,List.nil_append,Array.empty_append]at hgr ⊢;exact ⟨_,_,hr,hgr.1,hgr.2,.inr rfl⟩
 · by_cases hroom:n+m<=cap
   · have hfit:n*i.size+news.length<=cur.size:=(by rw[hl,hcs,<-Nat.add_mul];exact Nat.mul_le_mul_right _ hroom);have hr:=run_append_room (P:=P) w t ty e i ht hi g n cap cur hg a m c news hl hnews h1 hroom hfit;refine ⟨_,_,hr,⟨hlen,.inr ⟨g,cap,_,rfl,hbg,setRow_heap w g cur _ e _ hg,hroom,hcm,?_,?_,?_,?_⟩⟩,⟨rfl,rfl,rfl,by simp,fun k _ hk=>setRow_other w g k _ (fun e=>hk (by simp[Value.ownBlock,e]))⟩,.inl rfl⟩
     · simp only[List.size_toArray,List.length_append,List.length_take,List.length_drop,Array.length_toList];omega
     · rw[htake,<-hlen];exact List.take_left
     · exact ((hcn.take _).append hnn).append (hcn.drop _)
     · have e1:(cur.toList.take (n*i.size)).length%i.size=0:=(by rw[htake,hown.1];exact Nat.mul_mod_left _ _);refine pa _ _ ?_ (pa _ _ e1 (pt _ _ hcp) pn) (pd _ _ ?_ hcp)
       · rw[htake,hlen];exact Nat.mul_mod_left _ _
       · rw[hl,<-Nat.add_mul];exact Nat.mul_mod_left _ _
   · have holds:∀j u,xs[j]?=some u->w.cell? ((⟨g,0,none⟩:Addr).add j)=some u:=by
       intro j u hu;have hadd:(⟨g,0,none⟩:Addr).add j=⟨g,j,none⟩:=(by unfold Addr.add;split<;>simp_all);rw[hadd,cell_of_row w g j cur e (0,0) hg];rw[<-htake,List.getElem?_take]at hu;split at hu
       · simpa using hu
       · cases hu
     have hr:=run_append_grow (P:=P) w t ty e i z ht hi hz ⟨g,0,none⟩ n cap xs hown.1 holds a m c news hl hnews (by omega) (by omega) (growslice_fits (by omega) hbytes);have hgr:=grown cap (by omega) (Value.ownBlock (.slice (some ⟨g,0,none⟩) n cap));exact ⟨_,_,hr,hgr.1,hgr.2,.inr rfl⟩
end
end
end Go.Proofs.YtemfjdedjcjegaaGreatDoor
namespace Go.Proofs.YtemfjdedjcjegaaGreatDoor
namespace Dr
def GY {α:Type} (w:World):Result α->Prop
 |.ok _ w'=>w.drawn<=w'.drawn
 |.halt _ w'=>w.drawn<=w'.drawn
theorem Tq {α:Type}:∀(k:Ask α) (w:World),w.drawn<=(w.ask k).2.drawn:=by
 intro k;induction k with
 |done a=>intro w;exact Nat.le_refl _
 |ask what range k ih=>
  intro w;unfold World.ask;dsimp only
  split
  · exact ih _ w
  · exact Nat.le_trans (Nat.le_succ _) (ih _ { w with drawn:=w.drawn+1 })
theorem Tr (w:World) (c:Sys):w.drawn<=(w.sys c).2.drawn:=by
 have:=Tq (Kernel.perform c w.os) w;unfold World.sys;split
 · exact Nat.le_refl _
 · rename_i h
   rw[h]at this;exact this
theorem Of {ε α β:Type} {x:Except ε α} {f:α->Except ε β} {r:β} (h:(x >>= f)=.ok r):∃a,x=.ok a/\f a=.ok r:=by
 cases x with
 |error e=>cases h
 |ok a=>exact ⟨a,rfl,h⟩
theorem KU {p:Program} {w w':World} {a k:Addr} {u:TypeId} {v:Value} {b:Bool} {l:List Addr} (h:w.viewStore p a u k v b=.ok (w',l)):w'.drawn=w.drawn:=by
 unfold World.viewStore at h;dsimp only at h
 by_cases h1:(!tight p p.depth u)=true
 · rw[if_pos h1]at h;cases h
 · rw[if_neg h1]at h;obtain ⟨⟨c,e,fz,first,like,cells⟩,-,h⟩:=Of h;dsimp only at h
   split at h
   · rename_i bytes hb
     by_cases h2:some bytes.length≠Option.map (fun x=>List.length x) like.bytes?
     · rw[if_pos h2]at h;cases h
     · rw[if_neg h2]at h;obtain ⟨c',-,h⟩:=Of h;cases h
       rfl
   · cases h
theorem Mm {p:Program} {w w':World} {a:Addr} {v:Value} {b:Bool} {l:List Addr} (h:w.farStore p a v b=.ok (w',l)):w'.drawn=w.drawn:=by
 unfold World.farStore at h;split at h
 · split at h
   · rename_i r hr
     cases h
     exact KU hr
   · cases h
 · cases h
theorem N2 {α:Type} (p:Program):∀(s:Sem α) (w:World),GY w (s.run p w):=by
 intro s;induction s with
 |pure a=>intro w;exact Nat.le_refl _
 |load m a k ih=>
  intro w;rw[Sem.run.eq_def];dsimp only
  split
  · exact ih _ w
  · split
    · exact ih _ w
    · exact Nat.le_refl _
 |store m a v k ih=>
  intro w;rw[Sem.run.eq_def];cases v<;>dsimp only<;>first|exact Nat.le_refl _|skip
  all_goals
    split
    · split
      · exact Nat.le_refl _
      · exact ih (w.setCell a _)
    · split
      · rename_i w2 l h2
        have e:=Mm h2;have:=ih w2;revert this
        generalize k.run p w2=r;cases r<;>(intro h2;unfold GY at *;dsimp only at *;omega)
      · exact Nat.le_refl _
 |new o k ih=>intro w;exact ih _ _
 |shape r k ih=>intro w;exact ih _ _
 |freeze a n k ih=>
  intro w;have:=ih (w.freeze a n);have e:(w.freeze a n).drawn=w.drawn:=by unfold World.freeze;split<;>rfl
  have h2:GY (w.freeze a n) ((Sem.freeze a n k).run p w):=this;revert h2
  generalize (Sem.freeze a n k).run p w=r;cases r<;>(intro h2;unfold GY at *;dsimp only at *;omega)
 |frozen a k ih=>intro w;exact ih _ _
 |getObj r k ih=>
  intro w;rw[Sem.run.eq_def];dsimp only
  split
  · exact Nat.le_refl _
  · exact ih _ w
  · exact Nat.le_refl _
 |setObj r o k ih=>
  intro w;rw[Sem.run.eq_def];dsimp only
  split
  · exact Nat.le_refl _
  · exact ih _
  · exact Nat.le_refl _
 |choose q k ih=>
  intro w;rw[Sem.run.eq_def];dsimp only
  split
  · exact ih _ w
  · have:=ih (q.cut (w.tape w.drawn q)) { w with drawn:=w.drawn+1 };revert this
    generalize (k (q.cut (w.tape w.drawn q))).run p { w with drawn:=w.drawn+1 }=r;cases r<;>(intro h2;unfold GY at *;dsimp only at *;omega)
 |sys c k ih=>
  intro w;have:=ih (w.sys c).1 (w.sys c).2;have e:=Tr w c;have h2:GY (w.sys c).2 ((Sem.sys c k).run p w):=this;revert h2
  generalize (Sem.sys c k).run p w=r;cases r<;>(intro h2;unfold GY at *;dsimp only at *;omega)
 |program k ih=>intro w;exact ih _ _
 |mark m k ih=>intro w;exact ih _
 |halt h=>intro w;exact Nat.le_refl _
theorem Be {α:Type} {p:Program} {s:Sem α} {w w':World} {a:α} (h:s.run p w=.ok a w'):w.drawn<=w'.drawn:=by have:=N2 p s w;rw[h]at this;exact this
theorem F8 {α:Type} {p:Program} {s:Sem α} {w w':World} {a:Halt} (h:s.run p w=.halt a w'):w.drawn<=w'.drawn:=by have:=N2 p s w;rw[h]at this;exact this
def Dt (w:World):GStep->Prop
 |.go _ w' _=>w.drawn<=w'.drawn
 |.comm _ _ _ _ w' _=>w.drawn<=w'.drawn
 |.spawn _ _ w' _=>w.drawn<=w'.drawn
 |.count _ w' _=>w.drawn<=w'.drawn
 |.timer _ _ w' _=>w.drawn<=w'.drawn
 |.alone _ _ w' _=>w.drawn<=w'.drawn
 |.newcoro _ _ _ w' _=>w.drawn<=w'.drawn
 |.coroswitch _ _ _ w' _=>w.drawn<=w'.drawn
 |.collect _ w' _=>w.drawn<=w'.drawn
 |.watch _ w' _=>w.drawn<=w'.drawn
 |.ended _ _ _=>True
theorem Dt.after {w:World} {s:GStep} {es:Array Event} (h:Dt w s):Dt w (s.after es):=by cases s<;>exact h
theorem Dt.next {w w':World} {s:GStep} (h:w.drawn<=w'.drawn) (hs:Dt w' s):Dt w s:=by cases s<;>first|exact Nat.le_trans h hs|trivial
theorem KV {w:World} {c:Prop} [Decidable c] {a b:GStep} (h1:Dt w a) (h2:Dt w b):Dt w (if c then a else b):=by split<;>assumption
theorem Em {p:Program} {main:Bool} {fr:Frame} {callers:List Frame} {dying:Option Dying} {v:Value} {w:World}:Dt w (doReturn p main fr callers dying v w):=by
 unfold doReturn;repeat' split
 all_goals first|exact Nat.le_refl _|trivial
theorem Ra {fr:Frame} {l:List ByteArray} {m:String} {b:Bool} {w:World}:Dt w (dieOf fr l m b w):=Nat.le_refl _
theorem En {fr:Frame} {m:String} {w:World}:Dt w (endThrow fr m w):=Nat.le_refl _
theorem N3 {w:World} {fd:Nat} {t:ByteArray} {o:Outcome}:Dt w (endWith w fd t o):=by
 unfold endWith;dsimp only
 repeat' split
 all_goals trivial
theorem Fy {p:Program} {fr:Frame} {v:Value} {w:World}:Dt w (endPrinting p fr v w):=by
 unfold endPrinting;dsimp only
 repeat' split
 all_goals first|exact En|trivial
theorem Ha {p:Program} {fr:Frame} {callers:List Frame} {dying:Option Dying} {m:String} {w:World}:Dt w (endFatal p fr callers dying m w):=by
 unfold endFatal;dsimp only
 split
 · rename_i h
   exact Dt.next (Be h) Ra
 · trivial
 · trivial
theorem Hq {p:Program} {fr:Frame} {callers:List Frame} {dying:Option Dying} {d:Deferred} {w:World}:Dt w (callDeferred p fr callers dying d w):=by
 unfold callDeferred;simp only[Sem.runT_eq];refine KV trivial ?_;refine Dt.after ?_;split<;>(rename_i h;first|have h2:=Be h|have h2:=F8 h)
 all_goals (try split)
 all_goals first|exact h2|trivial|exact Dt.next h2 Ha|exact Dt.next h2 En
theorem Py {p:Program} {main:Bool} {fr:Frame} {callers:List Frame} {dying:Option Dying} {w:World}:Dt w (unwind p main fr callers dying w):=by
 unfold unwind;simp only[Sem.runT_eq];split
 · refine Dt.after ?_;split
   · rename_i h;exact Be h
   · trivial
 · exact Hq
 · split
   · trivial
   · split
     · trivial
     split
     · exact Nat.le_refl _
     split
     · split
       · exact Nat.le_refl _
       split
       · rename_i h;exact Be h
       · trivial
       · trivial
     · split
       · exact Fy
       · trivial
   · split
     · exact Em
     · refine Dt.after ?_;split
       · rename_i h;exact Dt.next (Be h) Em
       · trivial
       · trivial
theorem N4 {p:Program} {fr:Frame} {d:Dying} {f:Fatal} {w:World}:Dt w (writeOn p fr d f w):=by
 unfold writeOn;simp only[Sem.runT_eq];split
 · trivial
 split<;>rename_i h
 all_goals (injection h with h h')
 · exact Be h
 · exact F8 h
 · trivial
 · trivial
theorem Ts {p:Program} {fr:Frame} {d:Dying} {w:World}:Dt w (die p fr d w):=by
 unfold die;simp only[Sem.runT_eq];split
 · exact N4
 split
 · split
   · exact Nat.le_refl _
   · exact N3
 · split
   · exact Nat.le_refl _
   · split
     · rename_i h;exact Be h
     · trivial
   · refine Dt.after ?_;split<;>rename_i h
     · exact Be h
     · exact Be h
     · trivial
     · exact Dt.next (F8 h) Fy
     · trivial
   · trivial
theorem Rb {p:Program} {fr:Frame} {callers:List Frame} {dying:Option Dying} {g:Nat} {w:World}:Dt w (early p fr callers dying g w):=by
 unfold early;dsimp only
 repeat' split
 all_goals first|trivial|exact Nat.le_refl _|(rename_i h;have h2:=Be h;exact h2)|(rename_i h _;have h2:=Be h;exact h2)|(rename_i h _ _;have h2:=Be h;exact h2)|(rename_i h _ _ _;have h2:=Be h;exact h2)|(rename_i h _ _ _ _;have h2:=Be h;exact h2)|(rename_i h _ _ _ _ _;have h2:=Be h;exact h2)|(rename_i h _ _ _ _ _ _;have h2:=Be h;exact h2)|(rename_i h _ _ _ _ _ _ _;have h2:=Be h;exact h2)
end Dr
end Go.Proofs.YtemfjdedjcjegaaGreatDoor
