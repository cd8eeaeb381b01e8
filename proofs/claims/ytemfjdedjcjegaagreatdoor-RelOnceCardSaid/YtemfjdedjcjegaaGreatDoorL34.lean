/- Texts of one seat, put together: TidyG TidyO. -/
import Derived.Test.YtemfjdedjcjegaaGreatDoorL33
import Derived.Test.YtemfjdedjcjegaaGreatDoorL19
import Derived.Test.YtemfjdedjcjegaaGreatDoorL29
set_option linter.unusedVariables false
set_option linter.unusedSimpArgs false
set_option maxRecDepth 100000
set_option maxHeartbeats 16000000
namespace Go.Proofs.YtemfjdedjcjegaaGreatDoor
section
open Go.RowKit
open Tm
def G8 (rs:List R3) (k M:Nat) (w:World) (e:Ending) (w':World):Prop:=
 ∃o:Option (List R3),G7 rs o/\Below w.heap.size w w' /\
  match o with
  |none=>e=.returned (.tuple #[.slice none 0 0,.bool false])
  |some out=>∃A c ps,e=.returned (.tuple #[.slice A out.length c,.bool true])/\Dm w' A out.length ps k/\ps.map RV.rd=out/\out.length<=c/\c<=9223372036854775807/\∀p∈ps,p.L.length<=M
def Le (w0:World) (rs:List RV) (k M:Nat) (q:Nat) (bv:Value) (wr:World):Prop:=
 ∃bs:List BV,LN 72 9 wr w0.heap.size bv bs.length (AL bs)/\bs.map BV.bd=BI ((rs.take q).map RV.rd)/\(∀r∈rs.take q,tk r.rd≠-1)/\(∀b∈bs,Ci wr b k/\b.S.length<=M/\norm b.S=b.S)/\Below w0.heap.size w0 wr/\bs.length<=q
theorem Hg (l:List R3) (r:R3):BI (l++[r])=if tk r=0 then BI l++[BL (tt r)] else BI l:=by
 unfold BI;rw[List.filter_append];by_cases h:tk r=0
 · rw[if_pos h];simp[h]
 · rw[if_neg h];simp[h]
theorem Rm {w0 wr w':World} {rs:List RV} {k M q:Nat} {bv:Value} {r:RV} (h:Le w0 rs k M q bv wr) (hr:rs[q]?=some r) (h1:tk r.rd=1) (hb:Below wr.heap.size wr w'):Le w0 rs k M (q+1) bv w':=by
 obtain ⟨bs,a1,a2,a3,a4,a5,a6⟩:=h;refine ⟨bs,a1.below hb,?_,?_,fun b hm=>⟨(a4 b hm).1.below hb,(a4 b hm).2⟩,a5.next hb,by omega⟩
 · rw[List.take_add_one,hr,List.map_append,a2];show _=BI (_++[r.rd]);rw[Hg,if_neg (by omega)]
 · intro x hx;rw[List.take_add_one,hr]at hx;rcases List.mem_append.1 hx with hx|hx
   · exact a3 x hx
   · have hx:x=r:=(by simpa using hx);subst hx;omega
theorem Sp {w0 wr W w':World} {rs:List RV} {k M q p:Nat} {bv v':Value} {r:RV} {bs:List BV} {b:BV} (hl:LN 72 9 W w0.heap.size bv p (AL bs)) (a2:bs.map BV.bd=BI ((rs.take q).map RV.rd)) (a3:∀r∈rs.take q,tk r.rd≠-1) (a4:∀b∈bs,Ci W b k/\b.S.length<=M/\norm b.S=b.S) (a5:Below w0.heap.size w0 W) (hp:bs.length=p) (a6:p<=q)
   (hr:rs[q]?=some r) (h1:tk r.rd=0) (hb:Ci W b k) (hbd:b.bd=BL (tt r.rd)) (hbl:b.S.length<=M) (h2:LN 72 9 w' w0.heap.size v' (p+1) (AL (bs++[b]))) (h3:Tn bv.ownBlock W w'):Le w0 rs k M (q+1) v' w':=by
 subst hp;refine ⟨bs++[b],by rw[List.length_append];exact h2,?_,?_,?_,hl.lrow.old a5 h3.1 (Nat.le_refl _) (Nat.le_refl _),by simp;omega⟩
 · rw[List.take_add_one,hr,List.map_append,List.map_append,a2];show _=BI (_++[r.rd]);rw[Hg,if_pos h1,<-hbd];rfl
 · intro x hx;rw[List.take_add_one,hr]at hx;rcases List.mem_append.1 hx with hx|hx
   · exact a3 x hx
   · have hx:x=r:=(by simpa using hx);subst hx;omega
 · intro x hx;rcases List.mem_append.1 hx with hx|hx
   · exact ⟨(a4 x hx).1.kt h3.2,(a4 x hx).2⟩
   · rw[List.mem_singleton]at hx;subst hx;have hok:=Ms (F0 h1);rw[<-hbd]at hok;exact ⟨hb.kt h3.2,hbl,hok.1⟩
def Ot (w3:World) (js:List BV) (k M:Nat) (q:Nat) (tv:Value) (wr:World):Prop:=
 ∃ps:List RV,LN 35 4 wr w3.heap.size tv ps.length (AB ps)/\ps.map RV.rd=E6 ((js.take q).map BV.bd)/\(∀b∈js.take q,BH b.bd≠none)/\(∀p∈ps,An wr p.trm p.L p.K k/\p.L.length<=M)/\Below w3.heap.size w3 wr/\ps.length<=2*q
theorem NG (l:List Bd) (b:Bd) (ds:List R3) (h:BH b=some ds):E6 (l++[b])=E6 l++ds:=by unfold E6;rw[List.map_append,List.flatten_append];simp[h]
theorem Rn {w3 W w':World} {js:List BV} {k M q p m:Nat} {tv v':Value} {b:BV} {ps xs:List RV} {ds:List R3} (hl:LN 35 4 W w3.heap.size tv p (AB ps)) (a2:ps.map RV.rd=E6 ((js.take q).map BV.bd)) (a3:∀b∈js.take q,BH b.bd≠none) (a4:∀p∈ps,An W p.trm p.L p.K k/\p.L.length<=M) (a5:Below w3.heap.size w3 W) (hp:ps.length=p) (a6:p<=2*q)
   (hb:js[q]?=some b) (hds:BH b.bd=some ds) (hm:ds.length=m) (hx:xs.map RV.rd=ds) (hxr:∀x∈xs,An W x.trm x.L x.K k/\x.L.length<=M) (h2:LN 35 4 w' w3.heap.size v' (p+m) (AB (ps++xs))) (h3:Tn tv.ownBlock W w'):Ot w3 js k M (q+1) v' w':=by
 subst hp hm;have hxl:xs.length=ds.length:=by rw[<-hx,List.length_map]
 refine ⟨ps++xs,by rw[List.length_append,hxl];exact h2,?_,?_,?_,hl.lrow.old a5 h3.1 (Nat.le_refl _) (Nat.le_refl _),?_⟩
 · rw[List.take_add_one,hb,List.map_append,List.map_append,a2,hx];show _=E6 (_++[b.bd]);rw[NG _ _ _ hds]
 · intro x hm;rw[List.take_add_one,hb]at hm;rcases List.mem_append.1 hm with hm|hm
   · exact a3 x hm
   · have hm:x=b:=(by simpa using hm);subst hm;rw[hds];simp
 · intro x hm;rcases List.mem_append.1 hm with hm|hm
   · exact ⟨h3.2.2 _ _ _ _ (a4 x hm).1,(a4 x hm).2⟩
   · exact ⟨h3.2.2 _ _ _ _ (hxr x hm).1,(hxr x hm).2⟩
 · have:=Ol b.bd;unfold NC at this;rw[hds]at this;rw[List.length_append,hxl];simp at this;omega
theorem NH {b:Bd} {ds:List R3} {M:Nat} (h:BH b=some ds) (hn:norm b.S=b.S) (hl:b.S.length<=M):∀r∈ds,r.1.length<=M:=by
 have h2:(Bl b.S).length<=M:=by rw[Cq hn,List.length_map];exact hl
 obtain ⟨S,lo,hi⟩:=b;unfold BH at h;dsimp only at h hl h2
 intro r hr;cases lo<;>cases hi<;>dsimp only at h
 · cases h;simp at hr
 · cases h
   rw[List.mem_singleton]at hr;subst hr;exact h2
 · cases h
   rw[List.mem_singleton]at hr;subst hr;exact hl
 · split at h
   · cases h
   · split at h
     · cases h
       rw[List.mem_singleton]at hr;subst hr;exact hl
     · cases h
       simp only[List.mem_cons,List.not_mem_nil,or_false]at hr;rcases hr with rfl|rfl
       · exact hl
       · exact h2
theorem JD {b:Bd} {ds:List R3} (h:BH b=some ds) (hb:M7 b):0<ds.length:=by
 obtain ⟨S,lo,hi⟩:=b;obtain ⟨-,-,h3⟩:=hb;unfold BH at h;dsimp only at h h3
 cases lo<;>cases hi<;>dsimp only at h
 · simp at h3
 · cases h;simp
 · cases h;simp
 · split at h
   · cases h
   · split at h<;>(cases h;simp)
theorem Ou (L:List (Int×Int)) (K:Int) (e:Bool):(IJ L K e).length<=L.length:=by
 unfold IJ;have h:=AR L;split
 · simp
 · split
   · rw[List.length_map,Fs];exact h
   · rw[Fs];exact h
theorem PD {r:R3} (h:norm r.1=r.1):(BL r).S.length=r.1.length:=by
 unfold BL;split
 · show (Bl r.1).length=_;rw[Cq h,List.length_map]
 · rfl
theorem E9 (A:Option Addr) (n c k M:Nat) (rs:List RV) (w0:World) (h:Eu w0 A n rs k) (hn:n<=1000) (hnc:n<=c) (hcc:c<=9223372036854775807) (hM:M<=10000) (hl:∀r∈rs,r.L.length<=M) (hk:k<=10000) :
  Calls Tryz.prog 11 #[.slice A n c] w0 (G8 (rs.map RV.rd) (k+3*M+1+3*M) M w0):=by
 have HR:=Ad h;have HLE:=Ad hl;clear h hl;go_enter Tryz.func11,Tryz.ntmps11;go_wp2_with fail;go_loopw [4,16] (fun bv i wr=>∃(q:Nat) (bl:Value),q<=n/\i=.int .i64 q/\bl=bv/\Hid (Le w0 rs (k+3*M) M q bl wr)) (fun _ i _=>n-(intOf i).toNat)
 case atStart=>exact ⟨0,_,Nat.zero_le _,rfl,rfl,[],BD.nil _ _ _ _ _,rfl,(fun r hr=>by cases hr),(fun r hr=>by cases hr),Below.refl _ _,Nat.le_refl _⟩
 case round=>
  obtain ⟨q,bl,hq,rfl,rfl,HT⟩:=hrel;by_cases hqn:q<n
  · have g1:(q:Int)<(n:Int):=(by omega);obtain ⟨bs,a1,a2,a3,a4,a5,a6⟩:=HT.out;obtain ⟨Ab,cb,hbv,-,-,-⟩:=a1.lrow.len;subst hbv;generalize hpl:bs.length=p at *;have HPL:=Ad hpl;clear hpl;obtain ⟨bb,o,r,hA,hr,c0,c1,c2,c3⟩:=(HR.out.1.below a5).at_ hqn;subst hA;have HRQ:=Ad hr;have hmem:=List.mem_of_getElem? hr;have hti:=(HR.out.2 r hmem).below a5;have hrl:=HLE.out r hmem;have HA1:=Ad a1;have HA2:=Ad a2;have HA3:=Ad a3;have HA4:=Ad a4;have HA5:=Ad a5
    have y1:=Ae wr (.cells #[.slice r.A r.n r.c,.bool r.s,.slice r.B r.m r.d,.bool r.f] 35);have x6:=Aw.new 35 wr #[.slice r.A r.n r.c,.bool r.s,.slice r.B r.m r.d,.bool r.f];have hT:=Cn (.agg #[.slice r.A r.n r.c,.bool r.s,.slice r.B r.m r.d,.bool r.f]) r.L r.K r.f k _ ⟨_,_,_,_,_,_,_,rfl,hti.below y1⟩ (by omega) (by omega);have z0:=x6.r0;have z1:=x6.r1;have z2:=x6.r2;have z3:=x6.r3;have HY1:=Ad y1;clear hr hmem hti a1 a2 a3 a4 a5 x6 y1;go_wp2_with fail;refine hT.mono ?_
    rintro e w2 ⟨v2,rfl,⟨A2,n2,cc2,s2,B2,m2,d2,rfl,t2⟩,b2⟩;have HB2:=Ad (HY1.out.trans (b2.mono (by simp)));have hkn:=Mr r.rd;have HT2:=Ad t2;clear hT b2 t2 c0 c1 c2 c3 z0 z1 z2 z3 HY1;rw[show AM r.L r.K r.f=tk r.rd from rfl];rcases hkn with h0|h0|h0
    · rw[h0];have y3:=Ae w2 (.cells #[.slice A2 n2 cc2,.bool s2,.slice B2 m2 d2,.bool (EQ r.L r.K r.f)] 35);have x7:=Aw.new 35 w2 #[.slice A2 n2 cc2,.bool s2,.slice B2 m2 d2,.bool (EQ r.L r.K r.f)];have htl:=Ou r.L r.K r.f;have hbo:=ND (.agg #[.slice A2 n2 cc2,.bool s2,.slice B2 m2 d2,.bool (EQ r.L r.K r.f)]) (IJ r.L r.K r.f) (J0 r.L r.K r.f) (EQ r.L r.K r.f) (k+r.L.length+r.L.length) _ ⟨_,_,_,_,_,_,_,rfl,HT2.out.below y3⟩ (F0 h0) (by omega) (by omega);have z0:=x7.r0
      have z1:=x7.r1;have z2:=x7.r2;have z3:=x7.r3;have HY3:=Ad y3;have HTL:=Ad htl;have H0:=Ad h0;clear x7 y3 htl h0;go_wp2_with fail;refine hbo.mono ?_;rintro e w4 ⟨b,rfl,rb,hbd,b4⟩;unfold BV.agg;have HB4:=Ad ((HB2.out.next HY3.out).next b4);have HBR:=Ad rb;have HBD:=Ad hbd;have HNW:=Ad (Aw.new 72 w4 #[.slice b.A b.n b.c,.bool b.s,.slice b.B b.m b.d,.bool b.lo.g,.bool b.lo.s,.slice b.lo.B b.lo.m b.lo.d,.bool b.hi.g,.bool b.hi.s,.slice b.hi.B b.hi.m b.hi.d])
      have HY5:=Ad (Ae w4 (.cells #[.slice b.A b.n b.c,.bool b.s,.slice b.B b.m b.d,.bool b.lo.g,.bool b.lo.s,.slice b.lo.B b.lo.m b.lo.d,.bool b.hi.g,.bool b.hi.s,.slice b.hi.B b.hi.m b.hi.d] 72));clear hbo rb hbd b4 z0 z1 z2 z3;have HROW:=Ad ((HA1.out.below HB4.out).below HY5.out)
      have HBS:=Ad (show w0.heap.size<=(w4.alloc (.cells #[.slice b.A b.n b.c,.bool b.s,.slice b.B b.m b.d,.bool b.lo.g,.bool b.lo.s,.slice b.lo.B b.lo.m b.lo.d,.bool b.hi.g,.bool b.hi.s,.slice b.hi.B b.hi.m b.hi.d] 72)).heap.size from Nat.le_trans HA5.out.size (Nat.le_trans HB4.out.size HY5.out.size));have hsl:b.S.length<=M:=by have e1:b.S=(BL (tt r.rd)).S:=congrArg Bd.S HBD.out;rw[e1,PD (F0 H0.out).1];exact Nat.le_trans HTL.out hrl
      have HJ:=Ad (fun (v':Value) (w':World) (h1:LN 72 9 w' w0.heap.size v' (p+1) (AL (bs++[b]))) (h2:Tn (Value.slice Ab p cb).ownBlock (w4.alloc (.cells #[.slice b.A b.n b.c,.bool b.s,.slice b.B b.m b.d,.bool b.lo.g,.bool b.lo.s,.slice b.lo.B b.lo.m b.lo.d,.bool b.hi.g,.bool b.hi.s,.slice b.hi.B b.hi.m b.hi.d] 72)) w')=>Sp (k:=k+3*M) (M:=M) (wr:=wr) HROW.out HA2.out HA3.out (fun x hx=>⟨((HA4.out x hx).1.below HB4.out).below HY5.out,(HA4.out x hx).2⟩) ((HA5.out.next HB4.out).next HY5.out) HPL.out a6 HRQ.out H0.out ((HBR.out.below HY5.out).mono (by have:=HTL.out;omega)) HBD.out hsl h1 h2)
      clear hsl;go_wp2_with (at_builtin;refine Ct rfl _ _ rfl rfl w0.heap.size _ _ bs rfl HROW.out ⟨w4.heap.size,0,none⟩ 1 1 rfl [b] rfl (fun jj u hu=>by rw[addr_add,Nat.zero_add];exact HNW.out.cell jj u (by simpa[AL,BV.cells] using hu)) (by omega) (by omega) HBS.out ?_;intro v' w' h1 h2;have HE:=Ad (HJ.out v' w' h1 h2);clear h1 h2);go_roundw
      case rel=>exact ⟨q+1,_,by omega,by go_num,rfl,HE.out⟩
      case measure=>simp[intOf]<;>omega
    · rw[h0];have y3:=Ae w2 (.cells #[.slice A2 n2 cc2,.bool s2,.slice B2 m2 d2,.bool (EQ r.L r.K r.f)] 35);have HE:=Ad (Rm HT.out HRQ.out h0 (HB2.out.next y3));clear y3 h0;go_wp2_with fail;go_roundw
      case rel=>exact ⟨q+1,_,by omega,by go_num,rfl,HE.out⟩
      case measure=>simp[intOf]<;>omega
    · rw[h0];have y3:=Ae w2 (.cells #[.slice A2 n2 cc2,.bool s2,.slice B2 m2 d2,.bool (EQ r.L r.K r.f)] 35);have HE:=Ad (show G8 (rs.map RV.rd) (k+3*M+1+3*M) M w0 (.returned (.tuple #[.slice none 0 0,.bool false])) (w2.alloc (.cells #[.slice A2 n2 cc2,.bool s2,.slice B2 m2 d2,.bool (EQ r.L r.K r.f)] 35)) from ⟨none,.inl ⟨r.rd,List.mem_map.2 ⟨r,List.mem_of_getElem? HRQ.out,rfl⟩,h0⟩,(HA5.out.next HB2.out).next y3,rfl⟩);clear y3 h0;go_wp2_with fail;go_ret2
      exact HE.out
  · have e0:q=n:=(by omega);subst e0;have g1:¬(q:Int)<(q:Int):=(by omega);obtain ⟨bs,a1,a2,a3,a4,a5,a6⟩:=HT.out;have hnn:rs.length=q:=HR.out.1.1;rw[List.take_of_length_le (by omega)]at a2 a3;obtain ⟨Ab,cb,hbv,hbc,hbc2,-⟩:=a1.lrow.len;subst hbv;have hJ:=NF w0.heap.size Ab bs.length cb (k+3*M) bs wr a1 (by omega) (fun b hb=>⟨(a4 b hb).1,Nat.le_trans (a4 b hb).2.1 (by omega),(a4 b hb).2.2⟩) (by omega);have HA1:=Ad a1;have HA2B:=Ad a2;have HA3B:=Ad a3;have HA2:=Ad a2
    have HA3:=Ad a3;have HA4:=Ad a4;have HA5:=Ad a5;clear a1 a2 a3 a4 a5 HT;go_wp2_with fail;refine hJ.mono ?_;rintro e w3 ⟨qs,js,jv,rfl,hp,hsb,hjd,hjl,hjr,hkt,hg⟩;have HB3:=Ad (HA1.out.lrow.old HA5.out hg (Nat.le_refl _) (Nat.le_refl _));have HOK:=Ad (show ∀j∈js,M7 j.bd/\j.S.length<=M from by
      have h1:=FB (bs:=qs.map BV.bd) (fun c=>M7 c/\c.S.length<=M) (fun x y hx hy _=>⟨Jh hx.1 hy.1,hx.2⟩) (fun c hc=>by
        obtain ⟨b,hb,rfl⟩:=List.mem_map.1 hc;have hb':=hp.mem_iff.1 hb;exact ⟨(E7 _ _ (HA2.out▸List.mem_map.2 ⟨b,hb',rfl⟩)).1,(HA4.out b hb').2.1⟩)
      intro j hj;exact h1 j.bd (hjd▸List.mem_map.2 ⟨j,hj,rfl⟩))
    have HP:=Ad hp;have HSB:=Ad hsb;have HJD:=Ad hjd;have HJL:=Ad hjl;have HJR:=Ad hjr;have hjn:js.length<=1000:=by
      have h1:=congrArg List.length hjd;rw[List.length_map]at h1;rw[h1];have h2:=Km (qs.map BV.bd) (fun b hb=>by
        obtain ⟨b',hb',rfl⟩:=List.mem_map.1 hb;exact (E7 _ _ (HA2.out▸List.mem_map.2 ⟨b',hp.mem_iff.1 hb',rfl⟩)).2)
      have h3:(BN (qs.map BV.bd)).length<=GL (BN (qs.map BV.bd)):=by
        generalize BN (qs.map BV.bd)=l;induction l with
        |nil=>exact Nat.le_refl _
        |cons x l ih=>have:=Ri x;simp only[GL,List.map_cons,List.sum_cons,List.length_cons]at *;omega
      rw[List.length_map,hp.length_eq]at h2;omega
    obtain ⟨Aj,cj,hjv,hjc,hjc2,-⟩:=hjl.lrow.len;subst hjv;clear hJ hp hsb hjd hjl hjr hkt hg HA1 HA2 HA3 HA4 HA5;go_wp2_with fail;go_loopw [9,39] (fun tv i wz=>∃(p:Nat) (tl:Value),p<=js.length/\i=.int .i64 p/\tl=tv/\Hid (Ot w3 js (k+3*M+1+3*M) M p tl wz)) (fun _ i _=>js.length-(intOf i).toNat)
    case atStart=>exact ⟨0,_,Nat.zero_le _,rfl,rfl,[],BD.nil _ _ _ _ _,rfl,(fun r hr=>by cases hr),(fun r hr=>by cases hr),Below.refl _ _,Nat.le_refl _⟩
    case round=>
      obtain ⟨p,tl,hp,rfl,rfl,HT2⟩:=hrel;by_cases hpj:p<js.length
      · have g1:(p:Int)<(js.length:Int):=(by omega);obtain ⟨j,hj⟩:∃j,js[p]?=some j:=⟨_,List.getElem?_eq_getElem hpj⟩;obtain ⟨ps,a1,a2,a3,a4,a5,a6⟩:=HT2.out;obtain ⟨gj,hgj,-,hlt,hc⟩:=HJL.out.lrow.cell (by omega);subst hgj;have z0:wr.cell? ⟨gj,p*9+0,none⟩=some (.slice j.A j.n j.c):=(Below.cell a5 (p:=⟨gj,p*9+0,none⟩) hlt).trans (hc (p*9+0) _ (AP js p j hj 0 _ rfl)).1
        have z1:wr.cell? ⟨gj,p*9+1,none⟩=some (.bool j.s):=(Below.cell a5 (p:=⟨gj,p*9+1,none⟩) hlt).trans (hc (p*9+1) _ (AP js p j hj 1 _ rfl)).1;have z2:wr.cell? ⟨gj,p*9+2,none⟩=some (.slice j.B j.m j.d):=(Below.cell a5 (p:=⟨gj,p*9+2,none⟩) hlt).trans (hc (p*9+2) _ (AP js p j hj 2 _ rfl)).1;have z3:wr.cell? ⟨gj,p*9+3,none⟩=some (.bool j.lo.g):=(Below.cell a5 (p:=⟨gj,p*9+3,none⟩) hlt).trans (hc (p*9+3) _ (AP js p j hj 3 _ rfl)).1
        have z4:wr.cell? ⟨gj,p*9+4,none⟩=some (.bool j.lo.s):=(Below.cell a5 (p:=⟨gj,p*9+4,none⟩) hlt).trans (hc (p*9+4) _ (AP js p j hj 4 _ rfl)).1;have z5:wr.cell? ⟨gj,p*9+5,none⟩=some (.slice j.lo.B j.lo.m j.lo.d):=(Below.cell a5 (p:=⟨gj,p*9+5,none⟩) hlt).trans (hc (p*9+5) _ (AP js p j hj 5 _ rfl)).1;have z6:wr.cell? ⟨gj,p*9+6,none⟩=some (.bool j.hi.g):=(Below.cell a5 (p:=⟨gj,p*9+6,none⟩) hlt).trans (hc (p*9+6) _ (AP js p j hj 6 _ rfl)).1
        have z7:wr.cell? ⟨gj,p*9+7,none⟩=some (.bool j.hi.s):=(Below.cell a5 (p:=⟨gj,p*9+7,none⟩) hlt).trans (hc (p*9+7) _ (AP js p j hj 7 _ rfl)).1;have z8:wr.cell? ⟨gj,p*9+8,none⟩=some (.slice j.hi.B j.hi.m j.hi.d):=(Below.cell a5 (p:=⟨gj,p*9+8,none⟩) hlt).trans (hc (p*9+8) _ (AP js p j hj 8 _ rfl)).1;simp only[Nat.add_zero]at z0;obtain ⟨At,ct,htv,-,-,-⟩:=a1.lrow.len;subst htv;generalize hpl:ps.length=pn at *;have HPN:=Ad hpl;have hjm:=List.mem_of_getElem? hj
        have HJ:=Ad hj;have HA1:=Ad a1;have HA2:=Ad a2;have HA3:=Ad a3;have HA4:=Ad a4;have HA5:=Ad a5;have x11:=Aw.new 72 wr #[.slice j.A j.n j.c,.bool j.s,.slice j.B j.m j.d,.bool j.lo.g,.bool j.lo.s,.slice j.lo.B j.lo.m j.lo.d,.bool j.hi.g,.bool j.hi.s,.slice j.hi.B j.hi.m j.hi.d];have y1:=Ae wr (.cells #[.slice j.A j.n j.c,.bool j.s,.slice j.B j.m j.d,.bool j.lo.g,.bool j.lo.s,.slice j.lo.B j.lo.m j.lo.d,.bool j.hi.g,.bool j.hi.s,.slice j.hi.B j.hi.m j.hi.d] 72)
        have hok:=HOK.out j hjm;have hre:=JB j (k+3*M) _ (((HJR.out j hjm).below a5).below y1) (by omega) hok.1.1 (by omega);have HOKJ:=Ad hok;have HJM:=Ad hjm;have HY1:=Ad y1;have q0:=x11.cell 0 _ rfl;have q1:=x11.cell 1 _ rfl;have q2:=x11.cell 2 _ rfl;have q3:=x11.cell 3 _ rfl;have q4:=x11.cell 4 _ rfl;have q5:=x11.cell 5 _ rfl;have q6:=x11.cell 6 _ rfl;have q7:=x11.cell 7 _ rfl;have q8:=x11.cell 8 _ rfl;unfold Ep BV.agg at hre
        clear hpl hj hjm a1 a2 a3 a4 a5 x11 y1 hok hc hlt;cases hds:BH j.bd with
        |none=>
         rw[hds]at hre;have HDS:=Ad hds;clear hds;go_wp2_with fail;refine hre.mono ?_;rintro e w5 ⟨rfl,b5⟩;have HE:=Ad (show G8 (rs.map RV.rd) (k+3*M+1+3*M) M w0 (.returned (.tuple #[.slice none 0 0,.bool false])) w5 from ⟨none,.inr ⟨qs.map BV.bd,by rw[<-HA2B.out];exact HP.out.map _,HSB.out,j.bd,by rw[<-HJD.out];exact List.mem_map.2 ⟨j,HJM.out,rfl⟩,HDS.out⟩,((HB3.out.trans (HA5.out.mono HB3.out.size)).next HY1.out).next b5,rfl⟩)
         clear hre b5 z0 z1 z2 z3 z4 z5 z6 z7 z8 q0 q1 q2 q3 q4 q5 q6 q7 q8;go_wp2_with fail;go_ret2
         exact HE.out
        |some ds=>
         rw[hds]at hre;have HDS:=Ad hds;clear hds;go_wp2_with fail;refine hre.mono ?_;rintro e w5 ⟨Ax,cx,xs,rfl,hx,hxd,hxc,hxc2,b5⟩;have hdp:=JD HDS.out HOKJ.out.1;have HDL:=Ad (show ∀x∈xs,x.L.length<=M from fun x hm=>NH HDS.out HOKJ.out.1.1 HOKJ.out.2 x.rd (by rw[<-hxd];exact List.mem_map.2 ⟨x,hm,rfl⟩));have hdn:ds.length<=2:=(by have:=Ol j.bd;unfold NC at this;rw[HDS.out]at this;exact this);have HXD:=Ad hxd;have hxl:xs.length=ds.length:=(by rw[<-hxd,List.length_map])
         generalize hdl:ds.length=dn at *;have HDN:=Ad hdl;obtain ⟨bx,ox,hAx,hxcell⟩:=hx.1.2 hdp;subst hAx;have HXC:=Ad (show ∀jj u,(AB xs)[jj]?=some u->w5.cell? ((⟨bx,ox,none⟩:Addr).add jj)=some u from fun jj u hu=>by rw[addr_add];exact hxcell jj u hu);have HB5:=Ad (HY1.out.trans (b5.mono (by simp)));have HROW:=Ad (HA1.out.below HB5.out);have HBS:=Ad (show w3.heap.size<=w5.heap.size from Nat.le_trans HA5.out.size HB5.out.size);have HXR:=Ad hx.2
         have HJJ:=Ad (fun (v':Value) (w':World) (h1:LN 35 4 w' w3.heap.size v' (pn+dn) (AB (ps++xs))) (h2:Tn (Value.slice At pn ct).ownBlock w5 w')=>Rn (k:=k+3*M+1+3*M) (M:=M) HROW.out HA2.out HA3.out (fun x hm=>⟨(HA4.out x hm).1.below HB5.out,(HA4.out x hm).2⟩) (HA5.out.next HB5.out) HPN.out a6 HJ.out HDS.out HDN.out HXD.out (fun x hm=>⟨(HXR.out x hm).mono (by have:=HOKJ.out.2;omega),HDL.out x hm⟩) h1 h2)
         clear hre b5 z0 z1 z2 z3 z4 z5 z6 z7 z8 q0 q1 q2 q3 q4 q5 q6 q7 q8 hx hxd hxcell hdl;go_wp2_with (at_builtin;refine FX rfl _ _ rfl rfl w3.heap.size _ _ ps rfl HROW.out ⟨bx,ox,none⟩ dn cx rfl xs hxl HXC.out (by omega) (by omega) HBS.out ?_;intro v' w' h1 h2;have HE:=Ad (HJJ.out v' w' h1 h2);clear h1 h2);go_roundw
         case rel=>exact ⟨p+1,_,by omega,by go_num,rfl,HE.out⟩
         case measure=>simp[intOf]<;>omega
      · have e0:p=js.length:=(by omega);subst e0;have g1:¬(js.length:Int)<(js.length:Int):=(by omega);obtain ⟨ps,a1,a2,a3,a4,a5,a6⟩:=HT2.out;rw[List.take_of_length_le (Nat.le_refl _)]at a2 a3;obtain ⟨At,ct,htv,htc,htc2,-⟩:=a1.lrow.len;subst htv;have hso:=La w3.heap.size At ps.length ct (k+3*M+1+3*M) ps wr a1 (by omega) (fun r hr=>⟨(a4 r hr).1,by have:=(a4 r hr).2;omega⟩) (by omega);have hbb:=HB3.out.trans (a5.mono HB3.out.size);generalize hpl:ps.length=pn at *
        have HPN:=Ad hpl;have HA1:=Ad a1;have HA2:=Ad a2;have HA3:=Ad a3;have HA4:=Ad a4;have HA5:=Ad a5;have HBB:=Ad hbb;clear hpl a1 a2 a3 a4 a5 hbb;go_wp2_with fail;refine hso.mono ?_;rintro e w6 ⟨rfl,zs,hz,hzl,hzs,hzk,hzg⟩;have hzn:zs.length=pn:=(by rw[hz.length_eq];exact HPN.out);have hbz:=HA1.out.lrow.old HBB.out hzg (HB3.out.size) (Nat.le_refl _)
        have HE:=Ad (show G8 (rs.map RV.rd) (k+3*M+1+3*M) M w0 (.returned (.tuple #[.slice At pn ct,.bool true])) w6 from ⟨some (zs.map RV.rd),⟨fun r hr=>by
          obtain ⟨x,hx,rfl⟩:=List.mem_map.1 hr;exact HA3B.out x hx,qs.map BV.bd,by rw[<-HA2B.out];exact HP.out.map _,HSB.out,fun b hb=>by
          rw[<-HJD.out]at hb;obtain ⟨x,hx,rfl⟩:=List.mem_map.1 hb;exact HA3.out x hx,by rw[<-HJD.out,<-HA2.out];exact hz.map _,by rw[List.pairwise_map];exact hzs⟩,hbz,At,ct,zs,by rw[List.length_map,hzn],⟨by rw[List.length_map];rw[hzn];exact hzl.rels hzn,fun x hx=>hzk.2 _ _ _ _ (HA4.out x (hz.mem_iff.1 hx)).1⟩,rfl,by rw[List.length_map,hzn];exact htc,htc2,fun x hx=>(HA4.out x (hz.mem_iff.1 hx)).2⟩)
        clear hso hz hzl hzs hzk hzg hbz;go_wp2_with fail;go_ret2
        exact HE.out
end
section
open Tm
theorem F3 {α:Type} {lt:α->α->Prop} (hi:∀x,¬lt x x) (ht:∀x y z,lt x y->lt y z->lt x z):∀{l m:List α},l.Pairwise lt->m.Pairwise lt->(∀x,x∈l↔x∈m)->l=m
 |[],[],_,_,_=>rfl
 |[],y::m,_,_,h=>by have:=(h y).2 (by simp);simp at this
 |x::l,[],_,_,h=>by have:=(h x).1 (by simp);simp at this
 |x::l,y::m,hl,hm,h=>by
  rw[List.pairwise_cons]at hl hm;have hxy:x=y:=by
   rcases List.mem_cons.1 ((h x).1 (by simp)) with e|e
   · exact e
   · rcases List.mem_cons.1 ((h y).2 (by simp)) with e2|e2
     · exact e2.symm
     · exact absurd (ht _ _ _ (hm.1 x e) (hl.1 y e2)) (hi _)
  subst hxy;rw[F3 hi ht hl.2 hm.2 (fun z=>by
   constructor
   · intro hz;rcases List.mem_cons.1 ((h z).1 (List.mem_cons_of_mem _ hz)) with e|e
     · subst e;exact absurd (hl.1 _ hz) (hi _)
     · exact e
   · intro hz;rcases List.mem_cons.1 ((h z).2 (List.mem_cons_of_mem _ hz)) with e|e
     · subst e;exact absurd (hm.1 _ hz) (hi _)
     · exact e)]
def Lf (b:Bd) (z:Int):Prop:=∀x,b.lo=some x->x<=z
def Lg (b:Bd) (z:Int):Prop:=∀x,b.hi=some x->z<=x
theorem M0 {a b:Option Int} (h:∀z,(∀x,a=some x->x<=z)↔∀x,b=some x->x<=z):a=b:=by
 cases a with
 |none=>
  cases b with
  |none=>rfl
  |some y=>have:=(h (y-1)).1 (by simp) y rfl;omega
 |some x=>
  cases b with
  |none=>have:=(h (x-1)).2 (by simp) x rfl;omega
  |some y=>
   have h1:=(h y).2 (by simp) x rfl;have h2:=(h x).1 (by simp) y rfl;congr 1
   omega
theorem M1 {a b:Option Int} (h:∀z,(∀x,a=some x->z<=x)↔∀x,b=some x->z<=x):a=b:=by
 cases a with
 |none=>
  cases b with
  |none=>rfl
  |some y=>have:=(h (y+1)).1 (by simp) y rfl;omega
 |some x=>
  cases b with
  |none=>have:=(h (x+1)).2 (by simp) x rfl;omega
  |some y=>
   have h1:=(h y).2 (by simp) x rfl;have h2:=(h x).1 (by simp) y rfl;congr 1
   omega
structure Ds (bs js:List Bd):Prop where
 from_:∀c∈js,∃b∈bs,b.S=c.S
 all_:∀b∈bs,∃c∈js,c.S=b.S
 lo:∀c∈js,∀z,Lf c z↔∀b∈bs,b.S=c.S->Lf b z
 hi:∀c∈js,∀z,Lg c z↔∀b∈bs,b.S=c.S->Lg b z
theorem PE (a b:Bd) (z:Int):Lf (D9 a b) z↔Lf a z/\Lf b z:=P1 a.lo b.lo z
theorem PF (a b:Bd) (z:Int):Lg (D9 a b) z↔Lg a z/\Lg b z:=P2 a.hi b.hi z
theorem Ds.push {bs js:List Bd} {b:Bd} (h:Ds bs js) (hu:N9 js) (hl:∀x,js.getLast?=some x->cmpL x.S b.S<=0):Ds (bs++[b]) (pushB js b):=by
 rcases List.eq_nil_or_concat js with e|⟨r,x,e⟩
 · subst e;rw[FA];have hb0:∀y∈bs,False:=fun y hy=>by obtain ⟨c,hc,-⟩:=h.all_ y hy;cases hc
   refine ⟨fun c hc=>?_,fun y hy=>?_,fun c hc z=>?_,fun c hc z=>?_⟩
   · rw[List.mem_singleton]at hc;subst hc;exact ⟨c,by simp,rfl⟩
   · rcases List.mem_append.1 hy with hy|hy
     · exact absurd (hb0 y hy) id
     · rw[List.mem_singleton]at hy;subst hy;exact ⟨y,by simp,rfl⟩
   · rw[List.mem_singleton]at hc;subst hc;constructor
     · intro h1 y hy _;rcases List.mem_append.1 hy with hy|hy
       · exact absurd (hb0 y hy) id
       · rw[List.mem_singleton]at hy;subst hy;exact h1
     · intro h1;exact h1 c (by simp) rfl
   · rw[List.mem_singleton]at hc;subst hc;constructor
     · intro h1 y hy _;rcases List.mem_append.1 hy with hy|hy
       · exact absurd (hb0 y hy) id
       · rw[List.mem_singleton]at hy;subst hy;exact h1
     · intro h1;exact h1 c (by simp) rfl
 · rw[List.concat_eq_append]at e;subst e;rw[CE];unfold N9 at hu;rw[List.pairwise_append]at hu;obtain ⟨-,-,hrx⟩:=hu;by_cases he:x.S=b.S
   · rw[if_pos he];have hne:∀c∈r,c.S≠b.S:=fun c hc hh=>by
       have:=hrx c hc x (by simp);rw[hh,he,Cy.refl]at this;omega
     refine ⟨fun c hc=>?_,fun y hy=>?_,fun c hc z=>?_,fun c hc z=>?_⟩
     · replace hc:=List.mem_append.1 hc;rcases hc with hc|hc
       · obtain ⟨y,hy,e⟩:=h.from_ c (List.mem_append.2 (.inl hc));exact ⟨y,List.mem_append.2 (.inl hy),e⟩
       · rw[List.mem_singleton]at hc;subst hc;exact ⟨b,by simp,he.symm⟩
     · rcases List.mem_append.1 hy with hy|hy
       · obtain ⟨c,hc,e⟩:=h.all_ y hy;replace hc:=List.mem_append.1 hc;rcases hc with hc|hc
         · exact ⟨c,List.mem_append.2 (.inl hc),e⟩
         · rw[List.mem_singleton]at hc;subst hc;exact ⟨D9 c b,by simp,e⟩
       · rw[List.mem_singleton]at hy;subst hy;exact ⟨D9 x y,by simp,he⟩
     · replace hc:=List.mem_append.1 hc;rcases hc with hc|hc
       · rw[h.lo c (List.mem_append.2 (.inl hc)) z];constructor
         · intro h1 y hy e;rcases List.mem_append.1 hy with hy|hy
           · exact h1 y hy e
           · rw[List.mem_singleton]at hy;subst hy;exact absurd e.symm (hne c hc)
         · intro h1 y hy e;exact h1 y (List.mem_append.2 (.inl hy)) e
       · rw[List.mem_singleton]at hc;subst hc;rw[PE,h.lo x (by simp) z];constructor
         · rintro ⟨h1,h2⟩ y hy e;rcases List.mem_append.1 hy with hy|hy
           · exact h1 y hy e
           · rw[List.mem_singleton]at hy;subst hy;exact h2
         · intro h1;exact ⟨fun y hy e=>h1 y (List.mem_append.2 (.inl hy)) e,h1 b (by simp) he.symm⟩
     · replace hc:=List.mem_append.1 hc;rcases hc with hc|hc
       · rw[h.hi c (List.mem_append.2 (.inl hc)) z];constructor
         · intro h1 y hy e;rcases List.mem_append.1 hy with hy|hy
           · exact h1 y hy e
           · rw[List.mem_singleton]at hy;subst hy;exact absurd e.symm (hne c hc)
         · intro h1 y hy e;exact h1 y (List.mem_append.2 (.inl hy)) e
       · rw[List.mem_singleton]at hc;subst hc;rw[PF,h.hi x (by simp) z];constructor
         · rintro ⟨h1,h2⟩ y hy e;rcases List.mem_append.1 hy with hy|hy
           · exact h1 y hy e
           · rw[List.mem_singleton]at hy;subst hy;exact h2
         · intro h1;exact ⟨fun y hy e=>h1 y (List.mem_append.2 (.inl hy)) e,h1 b (by simp) he.symm⟩
   · rw[if_neg he];have hx0:=hl x (by simp);have hx:cmpL x.S b.S<0:=by
       by_cases h0:cmpL x.S b.S=0
       · exact absurd (Df.1 h0) he
       · omega
     have hne:∀c∈r++[x],c.S≠b.S:=fun c hc hh=>by
       replace hc:=List.mem_append.1 hc;rcases hc with hc|hc
       · have:=Cy.lt_le (hrx c hc x (by simp)) hx0;rw[hh,Cy.refl]at this;omega
       · rw[List.mem_singleton]at hc;subst hc;exact he hh
     have hnb:∀y∈bs,y.S≠b.S:=fun y hy e=>by
       obtain ⟨c,hc,e2⟩:=h.all_ y hy;exact hne c hc (e2.trans e)
     refine ⟨fun c hc=>?_,fun y hy=>?_,fun c hc z=>?_,fun c hc z=>?_⟩
     · replace hc:=List.mem_append.1 hc;rcases hc with hc|hc
       · obtain ⟨y,hy,e⟩:=h.from_ c hc;exact ⟨y,List.mem_append.2 (.inl hy),e⟩
       · rw[List.mem_singleton]at hc;subst hc;exact ⟨c,by simp,rfl⟩
     · rcases List.mem_append.1 hy with hy|hy
       · obtain ⟨c,hc,e⟩:=h.all_ y hy;exact ⟨c,List.mem_append.2 (.inl hc),e⟩
       · rw[List.mem_singleton]at hy;subst hy;exact ⟨y,by simp,rfl⟩
     · replace hc:=List.mem_append.1 hc;rcases hc with hc|hc
       · rw[h.lo c hc z];constructor
         · intro h1 y hy e;rcases List.mem_append.1 hy with hy|hy
           · exact h1 y hy e
           · rw[List.mem_singleton]at hy;subst hy;exact absurd e.symm (hne c hc)
         · intro h1 y hy e;exact h1 y (List.mem_append.2 (.inl hy)) e
       · rw[List.mem_singleton]at hc;subst hc;constructor
         · intro h1 y hy e;rcases List.mem_append.1 hy with hy|hy
           · exact absurd e (hnb y hy)
           · rw[List.mem_singleton]at hy;subst hy;exact h1
         · intro h1;exact h1 c (by simp) rfl
     · replace hc:=List.mem_append.1 hc;rcases hc with hc|hc
       · rw[h.hi c hc z];constructor
         · intro h1 y hy e;rcases List.mem_append.1 hy with hy|hy
           · exact h1 y hy e
           · rw[List.mem_singleton]at hy;subst hy;exact absurd e.symm (hne c hc)
         · intro h1 y hy e;exact h1 y (List.mem_append.2 (.inl hy)) e
       · rw[List.mem_singleton]at hc;subst hc;constructor
         · intro h1 y hy e;rcases List.mem_append.1 hy with hy|hy
           · exact absurd e (hnb y hy)
           · rw[List.mem_singleton]at hy;subst hy;exact h1
         · intro h1;exact h1 c (by simp) rfl
theorem Cj {bs:List Bd} (h:Cp bs):Ds bs (BN bs):=by
 have key:∀(l done r:List Bd),Cp l->N9 r->Ds done r->(∀x,r.getLast?=some x->∀b∈l,cmpL x.S b.S<=0)->Ds (done++l) (l.foldl pushB r):=by
  intro l;induction l with
  |nil=>intro done r _ _ hj _;simpa using hj
  |cons b l ih=>
   intro done r hl hr hj hx;unfold Cp at hl;rw[List.pairwise_cons]at hl;rw[List.foldl_cons];have:=ih (done++[b]) _ hl.2 (Mo hr fun x h=>hx x h b (by simp)) (hj.push hr fun x h=>hx x h b (by simp)) (fun x h c hc=>by
    obtain ⟨y,hy,hs⟩:=Jf r b;rw[hy]at h;injection h with h
    subst h;rw[hs];exact hl.1 c hc)
   simpa using this
 exact key bs [] [] h List.Pairwise.nil ⟨(fun c hc=>by cases hc),(fun c hc=>by cases hc),(fun c hc=>by cases hc),(fun c hc=>by cases hc)⟩ (fun x h=>by simp at h)
theorem Ds.uniq {bs bs' js js':List Bd} (hb:∀b,b∈bs↔b∈bs') (h:Ds bs js) (h':Ds bs' js') (hu:N9 js) (hu':N9 js'):js=js':=by
 have half:∀{bs bs' js js':List Bd},(∀b,b∈bs↔b∈bs')->Ds bs js->Ds bs' js'->∀c∈js,c∈js':=by
  intro bs bs' js js' hb h h' c hc;obtain ⟨b,hm,e⟩:=h.from_ c hc;obtain ⟨c',hc',e'⟩:=h'.all_ b ((hb b).1 hm);have hS:c'.S=c.S:=e'.trans e;have hlo:c.lo=c'.lo:=M0 (fun z=>by
   have h1:=h.lo c hc z;have h2:=h'.lo c' hc' z;unfold Lf at h1 h2;rw[h1,h2];constructor
   · intro h3 y hy e;exact h3 y ((hb y).2 hy) (e.trans hS)
   · intro h3 y hy e;exact h3 y ((hb y).1 hy) (e.trans hS.symm))
  have hhi:c.hi=c'.hi:=M1 (fun z=>by
   have h1:=h.hi c hc z;have h2:=h'.hi c' hc' z;unfold Lg at h1 h2;rw[h1,h2];constructor
   · intro h3 y hy e;exact h3 y ((hb y).2 hy) (e.trans hS)
   · intro h3 y hy e;exact h3 y ((hb y).1 hy) (e.trans hS.symm))
  have:c=c':=by
   cases c;cases c'
   simp only at hS hlo hhi;rw[hS,hlo,hhi]
  rw[this];exact hc'
 refine F3 (lt:=fun a b:Bd=>cmpL a.S b.S<0) (fun x hx=>by rw[Cy.refl]at hx;omega) (fun x y z h1 h2=>Cy.lt_le h1 (by omega)) hu hu' (fun c=>⟨half hb h h' c,half (fun b=>(hb b).symm) h' h c⟩)
theorem FY {rs rs':List R3} (h:∀r,r∈rs↔r∈rs') (b:Bd):b∈BI rs↔b∈BI rs':=by
 unfold BI;simp only[List.mem_map,List.mem_filter];constructor
 · rintro ⟨r,⟨h1,h2⟩,e⟩;exact ⟨r,⟨(h r).1 h1,h2⟩,e⟩
 · rintro ⟨r,⟨h1,h2⟩,e⟩;exact ⟨r,⟨(h r).2 h1,h2⟩,e⟩
theorem Kn {l m:List R3} (hl:l.Pairwise fun a b=>Je a b<0) (hm:m.Pairwise fun a b=>Je a b<0) (h:∀x,x∈l↔x∈m):l=m:=
 F3 (lt:=fun a b:R3=>Je a b<0) (fun x hx=>by rw[KX.refl]at hx;omega) (fun x y z h1 h2=>KX.lt_le h1 (by omega)) hl hm h
theorem FC {rs rs':List R3} {o o':Option (List R3)} (hr:∀r,r∈rs↔r∈rs') (h:G7 rs o) (h':G7 rs' o'):o=o':=by
 cases o with
 |none=>
  cases o' with
  |none=>rfl
  |some out'=>
   exfalso;obtain ⟨hk',bs',hp',hs',hn',-,-⟩:=h';rcases h with ⟨r,hm,h⟩|⟨bs,hp,hs,b,hb,h⟩
   · exact hk' r ((hr r).1 hm) h
   · have e:=Ds.uniq (fun b=>(hp.mem_iff.trans (FY hr b)).trans hp'.mem_iff.symm) (Cj hs) (Cj hs') (Cw hs) (Cw hs');exact hn' b (e▸hb) h
 |some out=>
  cases o' with
  |none=>
   exfalso;obtain ⟨hk,bs,hp,hs,hn,-,-⟩:=h;rcases h' with ⟨r,hm,h'⟩|⟨bs',hp',hs',b,hb,h'⟩
   · exact hk r ((hr r).2 hm) h'
   · have e:=Ds.uniq (fun b=>(hp.mem_iff.trans (FY hr b)).trans hp'.mem_iff.symm) (Cj hs) (Cj hs') (Cw hs) (Cw hs');exact hn b (e.symm▸hb) h'
  |some out'=>
   have r1:=EN h;have r2:=EN h';obtain ⟨hk,bs,hp,hs,hn,ho,-⟩:=h;obtain ⟨hk',bs',hp',hs',hn',ho',-⟩:=h';have e:=Ds.uniq (fun b=>(hp.mem_iff.trans (FY hr b)).trans hp'.mem_iff.symm) (Cj hs) (Cj hs') (Cw hs) (Cw hs');congr 1
   exact Kn r1 r2 (fun x=>by rw[ho.mem_iff,ho'.mem_iff,e])
end
end Go.Proofs.YtemfjdedjcjegaaGreatDoor
