/- Texts of one seat, put together: OpenR OpenRs OpenV. -/
import Derived.Test.YtemfjdedjcjegaaGreatDoorK27
import Derived.Test.YtemfjdedjcjegaaGreatDoorK23
set_option linter.unusedVariables false
set_option linter.unusedSimpArgs false
set_option maxRecDepth 100000
set_option maxHeartbeats 16000000
namespace Go.Proofs.YtemfjdedjcjegaaGreatDoor
section
open Go.ChangeShapes Go.WideShapes Go.ChangeAt Go.RowKit Go.Deep
theorem MH:Tryz.prog.cellsOf 35=4:=by kernel_rfl
section
variable {H:Type} {enc:TypeId×Value->H} {W:World} {f:Nat} {x:DataW H×List MemPlace} {cs:List Value}
theorem Js (h:DataW.trod enc Tryz.prog W 0 (fun _=>true) true f 35 cs=some x):∃r:RV,cs=r.cells/\Dq W r.trm r.L r.K Mu/\∀p∈r.L,-9223372036854775808<=p.1/\p.1<=9223372036854775807:=by
 obtain ⟨y0,y1,n,-,hl,h0,h1⟩:=trod_struct2 Tryz.underlying35 h;rw[MH]at hl;match cs,hl with
 |[v0,v1,v2,v3],_=>
  have g0:DataW.trod enc Tryz.prog W 0 (fun _=>true) true n 33 (([v0,v1,v2,v3].drop 0).take (Tryz.prog.cellsOf 33))=some y0:=h0;have g1:DataW.trod enc Tryz.prog W 0 (fun _=>true) true n 4 (([v0,v1,v2,v3].drop 3).take (Tryz.prog.cellsOf 4))=some y1:=h1;rw[Kn]at g0;rw[Kl]at g1;obtain ⟨A,n,c,s,B,m,d,L,K,e,hz,hb⟩:=Hr g0;injection e with e1 e
  injection e with e2 e
  injection e with e3 e
  subst e1 e2 e3;obtain ⟨s1,e0,-⟩:=DataW.trod_bool Tryz.underlying4 g1;injection e0 with e0
  subst e0;exact ⟨⟨A,n,c,s,B,m,d,s1,L,K⟩,rfl,hz,hb⟩
end
end
section
open Go.ChangeShapes Go.WideShapes Go.ChangeAt Go.RowKit Go.Deep
theorem MI (ps:List RV) (j:Nat) (u:Value) (h:(AO ps)[j]?=some u):∃i p r,ps[i]?=some p/\j=4*i+r/\p.cells[r]?=some u/\r<4:=by
 induction ps generalizing j with
 |nil=>simp[AO]at h
 |cons p ps ih=>
  rw[show AO (p::ps)=p.cells++AO ps from rfl]at h;have hl:p.cells.length=4:=rfl;by_cases hj:j<4
  · rw[List.getElem?_append_left (by omega)]at h;exact ⟨0,p,j,rfl,by omega,h,hj⟩
  · rw[List.getElem?_append_right (by omega),hl]at h;obtain ⟨i,q,r,h1,h2,h3,h4⟩:=ih _ h;exact ⟨i+1,q,r,by simpa using h1,by omega,h3,h4⟩
instance rvSome:Inhabited RV:=⟨⟨none,0,0,false,none,0,0,false,[],0⟩⟩
section
variable {H:Type} {enc:TypeId×Value->H} {W:World} {f:Nat} {x:DataW H×List MemPlace}
theorem NU {v:Value} (hf:DataW.trod enc Tryz.prog W 0 (fun _=>true) true f 22 [v]=some x):∃a len cap ts,v=.slice a len cap/\EF W a len ts Mu/\(∀t∈ts,∀p∈t.L,-9223372036854775808<=p.1/\p.1<=9223372036854775807)/\len<=cap/\cap<=9223372036854775807:=by
 rcases open_slice Tryz.underlying22 hf with ⟨hcs,_⟩|⟨a,len,cap,m,n,D,Pl,hcs,_,hl,hm,hmm,_,hx⟩
 · injection hcs with hcs
   subst hcs;exact ⟨none,0,0,[],rfl,⟨⟨rfl,fun h=>absurd h (by omega)⟩,fun p hp=>by cases hp⟩,(fun t ht=>by cases ht),by omega,by omega⟩
 · injection hcs with hcs
   subst hcs;unfold maxLen at hm;have hlm:len<=m:=(by rw[hmm];split<;>omega);obtain ⟨p,hp⟩:=choose_lt (α:=RV) (n:=len) (p:=fun i p=>(∀r u,p.cells[r]?=some u->W.cell? (a.add (i*4+r))=some u)/\Dq W p.trm p.L p.K Mu/\∀q∈p.L,-9223372036854775808<=q.1/\q.1<=9223372036854775807) (fun i hi=>by
     obtain ⟨cs,h1,h2⟩:=hx i (by omega);rw[MH]at h1;obtain ⟨_,hlen,hcell⟩:=World.cells?_some h1;obtain ⟨q,e,hz,hb⟩:=Js h2;subst e;refine ⟨q,fun r u hu=>?_,hz,hb⟩;have hr:r<4:=(List.getElem?_eq_some_iff.1 hu).1;rw[<-show q.cells[r]?=some u from hu,<-hcell r hr,add_add])
   have hall:∀q∈(List.range len).map p,∃i,i<len/\q=p i:=fun q hq=>by
     obtain ⟨i,hi,rfl⟩:=List.mem_map.1 hq;exact ⟨i,List.mem_range.1 hi,rfl⟩
   refine ⟨some a,len,cap,(List.range len).map p,rfl,⟨⟨by simp,fun hn=>?_⟩,fun q hq=>?_⟩,fun q hq=>?_,hl,hm⟩
   · have h0:=(hp 0 hn).1 0 _ rfl;obtain ⟨b,o,spot⟩:=a;have hspot:spot=none:=(by simpa[Addr.add] using World.cell?_spot h0);subst hspot;refine ⟨b,o,rfl,fun j u hu=>?_⟩;obtain ⟨i,q,r,h1,rfl,h3,h4⟩:=MI _ _ _ hu;have hi:i<len:=by
      have:=(List.getElem?_eq_some_iff.1 h1).1;simpa using this
     have hq:q=p i:=by rw[List.getElem?_map,List.getElem?_range hi]at h1;exact (Option.some.inj h1).symm
     subst hq;have h5:=(hp i hi).1 r u h3;rw[add_plain]at h5;rw[show 4*i+r=i*4+r by omega];exact h5
   · obtain ⟨i,hi,rfl⟩:=hall q hq;exact (hp i hi).2.1
   · obtain ⟨i,hi,rfl⟩:=hall q hq;exact (hp i hi).2.2
theorem Qa {b:Nat} {v:Value} {d:DataW H} {p:List MemPlace} (hv:Value.okWide Tryz.prog W .any b 22 v)
  (h0:DataW.Trod enc Tryz.prog W 0 (fun _=>true) true 22 v d p):∃a len cap ts,v=.slice a len cap/\EF W a len ts Mu/\(∀t∈ts,∀p∈t.L,-9223372036854775808<=p.1/\p.1<=9223372036854775807)/\len<=cap/\cap<=9223372036854775807:=by
 obtain ⟨a,len,cap,rfl⟩:=okWide_slice Tryz.underlying22 hv;obtain ⟨fuel,hf⟩:=h0;exact NU hf
end
end
section
open Go.ChangeShapes Go.WideShapes Go.ChangeAt Go.RowKit Go.Deep
theorem MJ (ps:List IV) (j:Nat) (u:Value) (h:(GQ ps)[j]?=some u):∃i p r,ps[i]?=some p/\j=2*i+r/\p.cells[r]?=some u/\r<2:=by
 induction ps generalizing j with
 |nil=>simp[GQ]at h
 |cons p ps ih=>
  rw[I2]at h;have hl:p.cells.length=2:=rfl;by_cases hj:j<2
  · rw[List.getElem?_append_left (by omega)]at h;exact ⟨0,p,j,rfl,by omega,h,hj⟩
  · rw[List.getElem?_append_right (by omega),hl]at h;obtain ⟨i,q,r,h1,h2,h3,h4⟩:=ih _ h;exact ⟨i+1,q,r,by simpa using h1,by omega,h3,h4⟩
instance ivSome:Inhabited IV:=⟨⟨false,none,0,0,0⟩⟩
section
variable {H:Type} {enc:TypeId×Value->H} {W:World} {f:Nat} {x:DataW H×List MemPlace}
theorem NV {v:Value} (hf:DataW.trod enc Tryz.prog W 0 (fun _=>true) true f 23 [v]=some x):∃a len cap ivs,v=.slice a len cap/\Ce W a len ivs Mu/\len<=cap/\cap<=9223372036854775807:=by
 rcases open_slice Tryz.underlying23 hf with ⟨hcs,_⟩|⟨a,len,cap,m,n,D,Pl,hcs,_,hl,hm,hmm,_,hx⟩
 · injection hcs with hcs
   subst hcs;exact ⟨none,0,0,[],rfl,⟨rfl,fun h=>absurd h (by omega),fun p hp=>by cases hp⟩,by omega,by omega⟩
 · injection hcs with hcs
   subst hcs;unfold maxLen at hm;have hlm:len<=m:=(by rw[hmm];split<;>omega);obtain ⟨p,hp⟩:=choose_lt (α:=IV) (n:=len) (p:=fun i p=>(∀r u,p.cells[r]?=some u->W.cell? (a.add (i*2+r))=some u)/\BG W p.num p.Z Mu) (fun i hi=>by
     obtain ⟨cs,h1,h2⟩:=hx i (by omega);rw[Gz]at h1;obtain ⟨_,hlen,hcell⟩:=World.cells?_some h1;obtain ⟨s,B,m',d,Z,rfl,hz⟩:=DX h2;refine ⟨⟨s,B,m',d,Z⟩,fun r u hu=>?_,hz⟩;have hr:r<2:=(List.getElem?_eq_some_iff.1 hu).1;rw[<-show ([Value.bool s,Value.slice B m' d])[r]?=some u from hu,<-hcell r hr,add_add])
   have hall:∀q∈(List.range len).map p,∃i,i<len/\q=p i:=fun q hq=>by
     obtain ⟨i,hi,rfl⟩:=List.mem_map.1 hq;exact ⟨i,List.mem_range.1 hi,rfl⟩
   refine ⟨some a,len,cap,(List.range len).map p,rfl,⟨by simp,fun hn=>?_,fun q hq=>?_⟩,hl,hm⟩
   · have h0:=(hp 0 hn).1 0 _ rfl;obtain ⟨b,o,spot⟩:=a;have hspot:spot=none:=(by simpa[Addr.add] using World.cell?_spot h0);subst hspot;refine ⟨b,o,rfl,fun j u hu=>?_⟩;obtain ⟨i,q,r,h1,rfl,h3,h4⟩:=MJ _ _ _ hu;have hi:i<len:=by
      have:=(List.getElem?_eq_some_iff.1 h1).1;simpa using this
     have hq:q=p i:=by rw[List.getElem?_map,List.getElem?_range hi]at h1;exact (Option.some.inj h1).symm
     subst hq;have h5:=(hp i hi).1 r u h3;rw[add_plain]at h5;rw[show 2*i+r=i*2+r by omega];exact h5
   · obtain ⟨i,hi,rfl⟩:=hall q hq;exact (hp i hi).2
theorem Qb {b:Nat} {v:Value} {d:DataW H} {p:List MemPlace} (hv:Value.okWide Tryz.prog W .any b 23 v)
  (h0:DataW.Trod enc Tryz.prog W 0 (fun _=>true) true 23 v d p):∃a len cap ivs,v=.slice a len cap/\Ce W a len ivs Mu/\len<=cap/\cap<=9223372036854775807:=by
 obtain ⟨a,len,cap,rfl⟩:=okWide_slice Tryz.underlying23 hv;obtain ⟨fuel,hf⟩:=h0;exact NV hf
end
end
end Go.Proofs.YtemfjdedjcjegaaGreatDoor
