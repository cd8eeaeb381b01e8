/- Texts of one seat, put together: R4Tight RelOnce OpenR OpenRs. -/
import Derived.Test.YtemfjdedjcjegaaGreatDoorL19
import Derived.Test.YtemfjdedjcjegaaGreatDoorL23
import Derived.Test.YtemfjdedjcjegaaGreatDoorL25
import Derived.Test.YtemfjdedjcjegaaGreatDoorL35
import Derived.Test.YtemfjdedjcjegaaGreatDoorL18
import Derived.Test.YtemfjdedjcjegaaGreatDoorL16
import Derived.Test.YtemfjdedjcjegaaGreatDoorL26
import Derived.Test.YtemfjdedjcjegaaGreatDoorL27
set_option linter.unusedVariables false
set_option linter.unusedSimpArgs false
set_option maxRecDepth 100000
set_option maxHeartbeats 16000000
namespace Go.Proofs.YtemfjdedjcjegaaGreatDoor
section
open Go.RowKit
open Tm
theorem Ew (A B:Option Addr) (n c d:Nat) (rs ts:List RV) (k ku:Nat) (w0:World) (ha:Dm w0 A n rs k) (hb0:Dm w0 B n ts ku) (he:rs.map RV.rd=ts.map RV.rd) (hll:∀r∈rs,r.L.length<=1099511) (hn:n<=1099511627):Calls Tryz.prog 14 #[.slice A n c,.slice B n d] w0 (Ef w0):=by
 have HA:=Ad ha;have HB:=Ad hb0;have HE:=Ad he;clear ha hb0 he;go_enter Tryz.func14,Tryz.ntmps14;go_wp2_with fail;have HBB:=Ad (Below.refl w0.heap.size w0);go_loopw [5] (fun i wr=>∃q:Nat,q<=n/\i=.int .i64 q/\Hid (Below w0.heap.size w0 wr)) (fun i _=>n-(intOf i).toNat)
 case atStart=>exact ⟨0,Nat.zero_le _,rfl,HBB⟩
 case round=>
  obtain ⟨q,hq,rfl,HBr⟩:=hrel;by_cases hqn:q<n
  · obtain ⟨ab,ao,r,rfl,hri,c0,c1,c2,c3⟩:=(HA.out.1.below HBr.out).at_ hqn;obtain ⟨bb,bo,t,rfl,hti,d0,d1,d2,d3⟩:=(HB.out.1.below HBr.out).at_ hqn;have hrd:r.rd=t.rd:=by
      have h1:(rs.map RV.rd)[q]?=some r.rd:=(by rw[List.getElem?_map,hri];rfl);rw[HE.out,List.getElem?_map,hti]at h1;exact (Option.some.inj h1).symm
    have hL:t.L=r.L:=(congrArg (fun x=>x.1) hrd).symm;have hK:t.K=r.K:=(congrArg (fun x=>x.2.1) hrd).symm;have hf:t.f=r.f:=(congrArg (fun x=>x.2.2) hrd).symm;have HR1:=Ad ((HA.out.below HBr.out).2 r (List.mem_of_getElem? hri));have HR2:=Ad (show An wr (.agg #[.slice t.A t.n t.c,.bool t.s,.slice t.B t.m t.d]) r.L r.K ku by have h:=(HB.out.below HBr.out).2 t (List.mem_of_getElem? hti);rw[hL,hK]at h;exact h);have HRL:=Ad (hll r (List.mem_of_getElem? hri));rw[hf]at d3
    have la:=World.block_lt_of_cell? wr _ c0;have lb:=World.block_lt_of_cell? wr _ d0
    have SOF:=Ad (show ∀W,Below wr.heap.size wr W->(W.cell? ⟨ab,ao+q*4,none⟩=some (.slice r.A r.n r.c)/\W.cell? ⟨ab,ao+q*4+1,none⟩=some (.bool r.s)/\W.cell? ⟨ab,ao+q*4+2,none⟩=some (.slice r.B r.m r.d)/\W.cell? ⟨ab,ao+q*4+3,none⟩=some (.bool r.f)/\W.cell? ⟨bb,bo+q*4,none⟩=some (.slice t.A t.n t.c)/\W.cell? ⟨bb,bo+q*4+1,none⟩=some (.bool t.s)/\W.cell? ⟨bb,bo+q*4+2,none⟩=some (.slice t.B t.m t.d)/\W.cell? ⟨bb,bo+q*4+3,none⟩=some (.bool r.f)) from fun W h=>⟨(h.cell (p:=⟨ab,ao+q*4,none⟩) la).trans c0,(h.cell (p:=⟨ab,ao+q*4+1,none⟩) la).trans c1,(h.cell (p:=⟨ab,ao+q*4+2,none⟩) la).trans c2,(h.cell (p:=⟨ab,ao+q*4+3,none⟩) la).trans c3,(h.cell (p:=⟨bb,bo+q*4,none⟩) lb).trans d0,(h.cell (p:=⟨bb,bo+q*4+1,none⟩) lb).trans d1,(h.cell (p:=⟨bb,bo+q*4+2,none⟩) lb).trans d2,(h.cell (p:=⟨bb,bo+q*4+3,none⟩) lb).trans d3⟩)
    clear hri hti c0 c1 c2 c3 d0 d1 d2 d3 hrd hL hK hf;go_wp2_with fail
    refine BC (by kernel_rfl) (by kernel_rfl) (by kernel_rfl) (fun w w'=>Below w.heap.size w w') (fun j v w=>match j with|0=>v=.slice (some ⟨ab,ao,none⟩) n c|1=>v=.int .i64 (q:Int)|2=>v=.pointer (some ⟨ab,ao+q*4,none⟩)|3=>v=.agg #[.slice r.A r.n r.c,.bool r.s,.slice r.B r.m r.d,.bool r.f]|4=>v=.slice (some ⟨bb,bo,none⟩) n d|5=>v=.int .i64 (q:Int)|6=>v=.pointer (some ⟨bb,bo+q*4,none⟩)|7=>v=.agg #[.slice t.A t.n t.c,.bool t.s,.slice t.B t.m t.d,.bool r.f]|8=>v=.bool true|9=>v=.bool false|_=>True) (fun _ _ w=>Below wr.heap.size wr w) ?_ (fun _=>Ak wr 1) ?_ ?_
    · intro j v w w' hT h;match j,h with
      |0,h=>exact h
      |1,h=>exact h
      |2,h=>exact h
      |3,h=>exact h
      |4,h=>exact h
      |5,h=>exact h
      |6,h=>exact h
      |7,h=>exact h
      |8,h=>exact h
      |9,h=>exact h
      |j+10,h=>trivial
    · refine ⟨?_,?_,?_,?_,?_,?_,?_,?_,?_,?_,trivial⟩
      · intro listed σ w a hin hout hl hc hp hG hF;refine Ac.none rfl ?_;have e0:a.tmps.getD 0 undef=.slice (some ⟨ab,ao,none⟩) n c:=hout 0 (Af (by kernel_rfl));refine Does.val (.slice (some ⟨ab,ao,none⟩) n c) (w':=w) ?_ ⟨Below.refl _ _,rfl,hG⟩;simp only[Array.getD_eq_getD_getElem?]at e0;go_simp
      · intro listed σ w a hin hout hl hc hp hG hF;refine Ac.none rfl ?_;have e5:a.tmps.getD 5 undef=.int .i64 (q:Int):=hout 5 (Af (by kernel_rfl));refine Does.val (.int .i64 (q:Int)) (w':=w) ?_ ⟨Below.refl _ _,rfl,hG⟩;simp only[Array.getD_eq_getD_getElem?]at e5;go_simp
      · intro listed σ w a hin hout hl hc hp hG hF;refine Ac.none rfl ?_;have e17:a.tmps.getD 17 undef=.slice (some ⟨ab,ao,none⟩) n c:=(hin 0 17 rfl (hp ⟨0,.data⟩ (by simp) rfl)).trans (hF 0 (hp ⟨0,.data⟩ (by simp) rfl));have e18:a.tmps.getD 18 undef=.int .i64 (q:Int):=(hin 1 18 rfl (hp ⟨1,.data⟩ (by simp) rfl)).trans (hF 1 (hp ⟨1,.data⟩ (by simp) rfl));refine Does.val (.pointer (some ⟨ab,ao+q*4,none⟩)) (w':=w) ?_ ⟨Below.refl _ _,rfl,hG⟩
        simp only[Array.getD_eq_getD_getElem?]at e17 e18;go_simp;(try (intro hh;exfalso;omega))
      · intro listed σ w a hin hout hl hc hp hG hF;refine Ac.none rfl ?_;have e19:a.tmps.getD 19 undef=.pointer (some ⟨ab,ao+q*4,none⟩):=(hin 2 19 rfl (hp ⟨2,.data⟩ (by simp) rfl)).trans (hF 2 (hp ⟨2,.data⟩ (by simp) rfl));have CC:=SOF.out w hG;obtain ⟨C0,C1,C2,C3,D0,D1,D2,D3⟩:=CC;refine Does.val (.agg #[.slice r.A r.n r.c,.bool r.s,.slice r.B r.m r.d,.bool r.f]) (w':=w) ?_ ⟨Below.refl _ _,rfl,hG⟩;go_simp
      · intro listed σ w a hin hout hl hc hp hG hF;refine Ac.none rfl ?_;have e1:a.tmps.getD 1 undef=.slice (some ⟨bb,bo,none⟩) n d:=hout 1 (Af (by kernel_rfl));refine Does.val (.slice (some ⟨bb,bo,none⟩) n d) (w':=w) ?_ ⟨Below.refl _ _,rfl,hG⟩;simp only[Array.getD_eq_getD_getElem?]at e1;go_simp
      · intro listed σ w a hin hout hl hc hp hG hF;refine Ac.none rfl ?_;have e5:a.tmps.getD 5 undef=.int .i64 (q:Int):=hout 5 (Af (by kernel_rfl));refine Does.val (.int .i64 (q:Int)) (w':=w) ?_ ⟨Below.refl _ _,rfl,hG⟩;simp only[Array.getD_eq_getD_getElem?]at e5;go_simp
      · intro listed σ w a hin hout hl hc hp hG hF;refine Ac.none rfl ?_;have e21:a.tmps.getD 21 undef=.slice (some ⟨bb,bo,none⟩) n d:=(hin 4 21 rfl (hp ⟨4,.data⟩ (by simp) rfl)).trans (hF 4 (hp ⟨4,.data⟩ (by simp) rfl));have e22:a.tmps.getD 22 undef=.int .i64 (q:Int):=(hin 5 22 rfl (hp ⟨5,.data⟩ (by simp) rfl)).trans (hF 5 (hp ⟨5,.data⟩ (by simp) rfl));refine Does.val (.pointer (some ⟨bb,bo+q*4,none⟩)) (w':=w) ?_ ⟨Below.refl _ _,rfl,hG⟩
        simp only[Array.getD_eq_getD_getElem?]at e21 e22;go_simp;(try (intro hh;exfalso;omega))
      · intro listed σ w a hin hout hl hc hp hG hF;refine Ac.none rfl ?_;have e23:a.tmps.getD 23 undef=.pointer (some ⟨bb,bo+q*4,none⟩):=(hin 6 23 rfl (hp ⟨6,.data⟩ (by simp) rfl)).trans (hF 6 (hp ⟨6,.data⟩ (by simp) rfl));have CC:=SOF.out w hG;obtain ⟨C0,C1,C2,C3,D0,D1,D2,D3⟩:=CC;refine Does.val (.agg #[.slice t.A t.n t.c,.bool t.s,.slice t.B t.m t.d,.bool r.f]) (w':=w) ?_ ⟨Below.refl _ _,rfl,hG⟩;go_simp
      · intro listed σ w a hin hout hl hc hp hG hF;refine Ac.none rfl ?_;have e20:a.tmps.getD 20 undef=.agg #[.slice r.A r.n r.c,.bool r.s,.slice r.B r.m r.d,.bool r.f]:=(hin 3 20 rfl (hp ⟨3,.data⟩ (by simp) rfl)).trans (hF 3 (hp ⟨3,.data⟩ (by simp) rfl));have e24:a.tmps.getD 24 undef=.agg #[.slice t.A t.n t.c,.bool t.s,.slice t.B t.m t.d,.bool r.f]:=(hin 7 24 rfl (hp ⟨7,.data⟩ (by simp) rfl)).trans (hF 7 (hp ⟨7,.data⟩ (by simp) rfl))
        refine Does.call ?_ (Di _ _ r.L r.K r.f k ku w ⟨_,_,_,_,_,_,_,rfl,HR1.out.below hG⟩ ⟨_,_,_,_,_,_,_,rfl,HR2.out.below hG⟩ HRL.out) ?_
        · go_simp
        · rintro e w' ⟨rfl,hb⟩;exact ⟨_,rfl,hb,rfl,hG.next hb⟩
      · intro listed σ w a hin hout hl hc hp hG hF;refine Ac.none rfl ?_;have e25:a.tmps.getD 25 undef=.bool true:=(hin 8 25 rfl (hp ⟨8,.data⟩ (by simp) rfl)).trans (hF 8 (hp ⟨8,.data⟩ (by simp) rfl));refine Does.val (.bool false) (w':=w) ?_ ⟨Below.refl _ _,rfl,hG⟩;simp only[Array.getD_eq_getD_getElem?]at e25;go_simp
    · intro listed σ W9 hall hG hF;rw[show mid _ σ listed _=(Act.put (Act.put (Act.put (Act.put (Act.put (Act.put (Act.put (Act.put (Act.put (Act.put _ (some 17) (σ 0)) (some 18) (σ 1)) (some 19) (σ 2)) (some 20) (σ 3)) (some 21) (σ 4)) (some 22) (σ 5)) (some 23) (σ 6)) (some 24) (σ 7)) (some 25) (σ 8)) (some 26) (σ 9)) from (BP hall).trans rfl];generalize σ 0=tt0;generalize σ 1=tt1;generalize σ 2=tt2;generalize σ 3=tt3;generalize σ 4=tt4;generalize σ 5=tt5
      generalize σ 6=tt6;generalize σ 7=tt7;generalize σ 8=tt8;rw[show σ 9=.bool false from hF 9 (by decide)];simp only[Act.put,List.setIfInBounds_toArray,List.set_cons_zero,List.set_cons_succ];have TG:=hG;clear hF hG hall;clear σ;go_wp2_with fail;go_roundw
      case rel=>exact ⟨q+1,by omega,by go_num,Ad (HBr.out.next TG)⟩
      case measure=>simp[intOf]<;>omega
  · obtain rfl:q=n:=(by omega);go_wp2_with fail;go_ret
    exact ⟨rfl,HBr.out⟩
end
section
open Go.RowKit
open Tm
theorem Sr (n:Int):bits .and .i64 n 1023=n%1024:=by
 have key:(BitVec.ofInt 64 n &&& BitVec.ofInt 64 1023).toNat=(n%((2^64:Nat):Int)).toNat%1024:=by rw[BitVec.toNat_and,BitVec.toNat_ofInt,show (BitVec.ofInt 64 1023).toNat=2^10-1 by decide,Nat.and_two_pow_sub_one_eq_mod]
 show IntKind.i64.wrap ((BitVec.ofInt 64 n &&& BitVec.ofInt 64 1023).toNat:Nat)=_;rw[key,IntKind.wrap_i64];omega
theorem Lh (A:Option Addr) (n c:Nat) (rs:List RV) (turn:Int) (w0:World) (hv:Eu w0 A n rs PI) (hnc:n<=c) (hcc:c<=9223372036854775807) (ht1:-9223372036854775808<=turn) (ht2:turn<=9223372036854775807) :
  Calls Tryz.prog 4 #[.slice A n c,.int .i64 turn] w0 (Ef w0):=by
 have HV:=Ad hv;clear hv;go_enter Tryz.func4,Tryz.ntmps4;go_wp2_with fail;refine (Nx _).mono ?_;rintro en w1 ⟨rfl,b1⟩;have T1:=Ad b1;clear b1;go_wp2_with fail;refine (M2 _).mono ?_;rintro en w2 ⟨rfl,b2⟩;have T2:=Ad (T1.out.next b2);clear b2 T1;have hfw:=Px A n c 12 12 rs w2 (HV.out.below T2.out) (by omega) (by decide) (by decide);go_wp2_with fail;refine hfw.mono ?_;rintro en w3 ⟨f1,rfl,hr,rfl⟩;have HR:=Ad hr;clear hfw hr;cases f1 with
 |false=>
  go_wp2_with fail;go_ret
  exact ⟨rfl,T2.out⟩
 |true=>
  have F1:=Ad (HR.out rfl);clear HR;by_cases hn0:n=0
  · subst hn0;go_wp2_with fail;go_ret
    exact ⟨rfl,T2.out⟩
  · have g0:((n:Int)==0)=false:=(by rw[beq_eq_false_iff_ne];omega);have hrn:rs.length=n:=HV.out.1.1;have hn12:n<=12:=(by have:=F1.out.1;omega);have HRS:=Ad (show Eu w3 A n rs 12/\∀r∈rs,r.L.length<=20 from ⟨⟨(HV.out.below T2.out).1,fun r hm=>(F1.out.2 r hm).2⟩,fun r hm=>by
     have h1:=F1.out.2 r hm;have h2:Dw w3 (.agg #[.slice r.A r.n r.c,.bool r.s,.slice r.B r.m r.d]) r.L r.K 12:=h1.2;rw[h2.opn.1.len];exact h1.1⟩)
    have HRN:=Ad hrn;clear HV hrn;go_wp2_with fail;go_loopw [35] (fun i wr=>∃q:Nat,q<=n/\i=.int .i64 q/\Hid (Below w3.heap.size w3 wr)) (fun i _=>n-(intOf i).toNat)
    case atStart=>exact ⟨0,Nat.zero_le _,rfl,Below.refl _ _⟩
    case round=>
     obtain ⟨q,hq,rfl,HBW⟩:=hrel;by_cases hqn:q<n
     · have g1:(q:Int)<(n:Int):=(by omega);obtain ⟨bb,o,r,hA,hr,c0,c1,c2,c3⟩:=(HRS.out.1.1.below HBW.out).at_ hqn;subst hA;have hmem:=List.mem_of_getElem? hr;have hti:=(HRS.out.1.2 r hmem).below HBW.out;have hrl:=HRS.out.2 r hmem;have y1:=Ae wr (.cells #[.slice r.A r.n r.c,.bool r.s,.slice r.B r.m r.d,.bool r.f] 35);have x6:=Aw.new 35 wr #[.slice r.A r.n r.c,.bool r.s,.slice r.B r.m r.d,.bool r.f]
       have hT:=Cn (.agg #[.slice r.A r.n r.c,.bool r.s,.slice r.B r.m r.d,.bool r.f]) r.L r.K r.f 12 _ ⟨_,_,_,_,_,_,_,rfl,hti.below y1⟩ (by omega) (by omega);have z0:=x6.r0;have z1:=x6.r1;have z2:=x6.r2;have z3:=x6.r3;have HY1:=Ad y1;clear hr hmem hti x6 y1;go_wp2_with fail;refine hT.mono ?_;rintro e w5 ⟨v2,rfl,⟨A2,n2,cc2,s2,B2,m2,d2,rfl,t2⟩,b2⟩;have HB2:=Ad (HY1.out.trans (b2.mono (by simp)))
       have y3:=Ae w5 (.cells #[.slice A2 n2 cc2,.bool s2,.slice B2 m2 d2,.bool (EQ r.L r.K r.f)] 35);have x7:=Aw.new 35 w5 #[.slice A2 n2 cc2,.bool s2,.slice B2 m2 d2,.bool (EQ r.L r.K r.f)];have HB3:=Ad (HB2.out.next y3);have HTT:=Ad (t2.below y3);have HX7:=Ad x7;have htl:=Ou r.L r.K r.f
       have hT2:=Cn (.agg #[.slice A2 n2 cc2,.bool s2,.slice B2 m2 d2,.bool (EQ r.L r.K r.f)]) (IJ r.L r.K r.f) (J0 r.L r.K r.f) (EQ r.L r.K r.f) (12+r.L.length+r.L.length) _ ⟨_,_,_,_,_,_,_,rfl,(t2.below y3).in_⟩ (by omega) (by omega);have k0:=x7.r0;have k1:=x7.r1;have k2:=x7.r2;have k3:=x7.r3;have hkn:=Mr r.rd;have h2:=t2.opn.1.len;have HN2:=Ad h2;clear hT b2 t2 c0 c1 c2 c3 z0 z1 z2 z3 HY1 y3 HB2 x7 h2;rw[show AM r.L r.K r.f=tk r.rd from rfl];go_upto_region 9 with fail
       generalize hW:(w5.alloc (.cells #[.slice A2 n2 cc2,.bool s2,.slice B2 m2 d2,.bool (EQ r.L r.K r.f)] 35))=W6 at *;clear hW;go_wp2_with fail;refine hT2.mono ?_;rintro e w7 ⟨v3,rfl,⟨A3,n3,cc3,s3,B3,m3,d3,rfl,t3⟩,b7⟩;have y9:=Ae w7 (.cells #[.slice A3 n3 cc3,.bool s3,.slice B3 m3 d3,.bool (EQ (IJ r.L r.K r.f) (J0 r.L r.K r.f) (EQ r.L r.K r.f))] 35)
       have x9:=Aw.new 35 w7 #[.slice A3 n3 cc3,.bool s3,.slice B3 m3 d3,.bool (EQ (IJ r.L r.K r.f) (J0 r.L r.K r.f) (EQ r.L r.K r.f))];have x8:=(HX7.out.next b7).next y9;have j0:=x8.r0;have j1:=x8.r1;have j2:=x8.r2;have j3:=x8.r3;have i0:=x9.r0;have i1:=x9.r1;have i2:=x9.r2;have i3:=x9.r3;have HT3:=Ad (t3.below y9);have HT8:=Ad ((HTT.out.below b7).below y9);have HB9:=Ad ((HB3.out.next b7).next y9);clear hT2 t3 b7 k0 k1 k2 k3 x8 x9 y9 HX7 HTT;rcases hkn with h0|h0|h0
       · obtain ⟨a1,a2⟩:=M4 h0;have e1:IJ (IJ r.L r.K r.f) (J0 r.L r.K r.f) (EQ r.L r.K r.f)=IJ r.L r.K r.f:=congrArg Prod.fst a2;have e2:J0 (IJ r.L r.K r.f) (J0 r.L r.K r.f) (EQ r.L r.K r.f)=J0 r.L r.K r.f:=congrArg (fun x:R3=>x.2.1) a2;have e3:EQ (IJ r.L r.K r.f) (J0 r.L r.K r.f) (EQ r.L r.K r.f)=EQ r.L r.K r.f:=congrArg (fun x:R3=>x.2.2) a2
         have hsm:=Di (.agg #[.slice A2 n2 cc2,.bool s2,.slice B2 m2 d2,.bool (EQ r.L r.K r.f)]) (.agg #[.slice A3 n3 cc3,.bool s3,.slice B3 m3 d3,.bool (EQ (IJ r.L r.K r.f) (J0 r.L r.K r.f) (EQ r.L r.K r.f))]) (IJ r.L r.K r.f) (J0 r.L r.K r.f) (EQ r.L r.K r.f) _ _ _ ⟨_,_,_,_,_,_,_,rfl,HT8.out⟩ ⟨_,_,_,_,_,_,_,by rw[e3],e1▸e2▸HT3.out⟩ (by omega);rw[show AM (IJ r.L r.K r.f) (J0 r.L r.K r.f) (EQ r.L r.K r.f)=0 from a1,h0];clear h0 a1 a2 e1 e2 e3;go_wp2_with fail
         refine hsm.mono ?_;rintro e w9 ⟨rfl,b9⟩;have HF:=Ad (HBW.out.next (HB9.out.next b9));clear hsm b9 i0 i1 i2 i3 j0 j1 j2 j3;go_wp2_with fail;go_roundw
         case rel=>exact ⟨q+1,by omega,by go_num,HF.out⟩
         case measure=>simp[intOf]<;>omega
       all_goals
         have en:n2=0:=by have:=HN2.out;rw[(Gx (show AM r.L r.K r.f≠0 from by rw[show AM r.L r.K r.f=tk r.rd from rfl,h0];decide)).1]at this;simpa using this.symm
         subst en;rw[h0];have HF:=Ad (HBW.out.next HB9.out);clear h0;go_wp2_with fail;go_roundw
         case rel=>exact ⟨q+1,by omega,by go_num,HF.out⟩
         case measure=>simp[intOf]<;>omega
     · have e0:q=n:=(by omega);subst e0;have g1:¬(q:Int)<(q:Int):=(by omega);have hb0:=Sr turn;obtain ⟨t,htt⟩:∃t:Nat,turn%1024=(t:Int):=⟨(turn%1024).toNat,by omega⟩;rw[htt]at hb0;clear htt;go_upto_region 14 with fail;obtain ⟨kk,hkk,hkq⟩:∃kk:Nat,(t:Int)%(q:Int)=(kk:Int)/\kk<q:=⟨t%q,by omega,Nat.mod_lt _ (by omega)⟩;rw[hkk];clear hkk hb0;obtain ⟨bb,o,hA,hcl⟩:=HRS.out.1.1.2 (by omega);subst hA
       have hlt:bb<w3.heap.size:=World.block_lt_of_cell? w3 _ (hcl 0 _ (Kc rs 0 (rs[0]'(by have:=HRN.out;omega)) (List.getElem?_eq_getElem _)).1);have HCL:=Ad (show ∀W,Below w3.heap.size w3 W->∀j u,(AB rs)[j]?=some u->W.cell? ⟨bb,o+j,none⟩=some u from fun W h j u hu=>(Below.cell h (p:=⟨bb,o+j,none⟩) hlt).trans (hcl j u hu))
       have HLS:=Ad (show (rs.drop kk).length=q-kk/\rs.length=q/\(rs.take kk).length=kk from ⟨by rw[List.length_drop,HRN.out],HRN.out,by rw[List.length_take,HRN.out];omega⟩);generalize wr=W0 at *;have HC2:=Ad (show ∀W,Below W0.heap.size W0 W->∀j u,(AB rs)[j]?=some u->W.cell? ⟨bb,o+j,none⟩=some u from fun W h=>HCL.out W (HBW.out.next h))
       have HC1:=Ad (show ∀W,Below W0.heap.size W0 W->∀j u,(AB (rs.drop kk))[j]?=some u->W.cell? ⟨bb,o+kk*4+j,none⟩=some u from fun W h j u hu=>by
         have h1:(AB rs)[kk*4+j]?=some u:=by have e:AB rs=AB (rs.take kk)++AB (rs.drop kk):=(by rw[<-EM,List.take_append_drop]);rw[e,List.getElem?_append_right (by rw[GK,HLS.out.2.2];omega),GK,HLS.out.2.2,show kk*4+j-kk*4=j by omega];exact hu
         have:=HC2.out W h _ u h1;rwa [<-Nat.add_assoc]at this)
       have HC3:=Ad (show ∀W,Below W0.heap.size W0 W->∀j u,(AB (rs.take kk))[j]?=some u->W.cell? ⟨bb,o+j,none⟩=some u from fun W h j u hu=>by
         refine HC2.out W h j u ?_;have e:AB rs=AB (rs.take kk)++AB (rs.drop kk):=(by rw[<-EM,List.take_append_drop]);rw[e,List.getElem?_append_left (List.getElem?_eq_some_iff.1 hu).1];exact hu)
       clear hcl hlt;obtain ⟨M,hM⟩:∃M,M=0+(rs.drop kk).length+rs.length+(rs.take kk).length:=⟨_,rfl⟩;have HM:=Ad hM;have hM2:M<=24:=(by have:=HLS.out;omega);clear hM
       refine AJ (by kernel_rfl) (by kernel_rfl) (by kernel_rfl) (by kernel_rfl) (fun _ _=>True) (fun j v w=>match j with|0=>True|1=>v=.slice (some ⟨bb,o,none⟩) q c|2=>v=.int .i64 kk|3=>v=.slice (some ⟨bb,o+kk*4,none⟩) (q-kk) (c-kk)|4=>True|5=>v=.slice (some ⟨bb,o,none⟩) q c|6=>True|7=>v=.slice (some ⟨bb,o,none⟩) q c|8=>v=.int .i64 kk|9=>v=.slice (some ⟨bb,o,none⟩) kk c|10=>True|_=>True) (Ko W0 12 0 4 6 10 (rs.drop kk) rs (rs.take kk)) ?_ (fun _=>Ko.start (Ak W0 1)) ?_ ?_
       · intro j v w w' hT h;match j,h with
         |0,h=>exact trivial
         |1,h=>exact h
         |2,h=>exact h
         |3,h=>exact h
         |4,h=>exact trivial
         |5,h=>exact h
         |6,h=>exact trivial
         |7,h=>exact h
         |8,h=>exact h
         |9,h=>exact h
         |10,h=>exact trivial
         |j+11,h=>trivial
       · refine ⟨?_,?_,?_,?_,?_,?_,?_,?_,?_,?_,?_,trivial⟩
         · intro listed σ w a hin hout hl hla hs hc hp hG hF;refine Ac.none rfl ?_;have hl1:=Ah (k:=4) hc hl (by kernel_rfl);have hl2:=Ah (k:=6) hc hl1 (by kernel_rfl);have hl3:=Ah (k:=10) hc hl2 (by kernel_rfl);refine Does.val (.slice (some ⟨w.heap.size,0,none⟩) 0 0) (w':=w.alloc (.cells #[] 35)) ?_ ⟨trivial,trivial,Ko.made hG.1 hl1 hl2 hl3 (by decide) (by decide) (by decide) (hG.2.1.next (Ae _ _)) (BD.lit0 _ _ hG.2.1.size EY.nil)⟩;go_simp
         · intro listed σ w a hin hout hl hla hs hc hp hG hF;refine Ac.none rfl ?_;have e0:a.tmps.getD 0 undef=.slice (some ⟨bb,o,none⟩) q c:=hout 0 (Af (by kernel_rfl));refine Does.val (.slice (some ⟨bb,o,none⟩) q c) (w':=w) ?_ ⟨trivial,rfl,hG.same (by decide) (by decide) (by decide) (by decide)⟩;simp only[Array.getD_eq_getD_getElem?]at e0;go_simp
         · intro listed σ w a hin hout hl hla hs hc hp hG hF;refine Ac.none rfl ?_;have e11:a.tmps.getD 11 undef=.int .i64 kk:=hout 11 (Af (by kernel_rfl));refine Does.val (.int .i64 kk) (w':=w) ?_ ⟨trivial,rfl,hG.same (by decide) (by decide) (by decide) (by decide)⟩;simp only[Array.getD_eq_getD_getElem?]at e11;go_simp
         · intro listed σ w a hin hout hl hla hs hc hp hG hF;refine Ac.none rfl ?_;have e79:a.tmps.getD 79 undef=.slice (some ⟨bb,o,none⟩) q c:=(hin 1 79 rfl (hp ⟨1,.data⟩ (by simp) rfl)).trans (hF 1 (hp ⟨1,.data⟩ (by simp) rfl));have e80:a.tmps.getD 80 undef=.int .i64 kk:=(hin 2 80 rfl (hp ⟨2,.data⟩ (by simp) rfl)).trans (hF 2 (hp ⟨2,.data⟩ (by simp) rfl))
           refine Does.val (.slice (some ⟨bb,o+kk*4,none⟩) (q-kk) (c-kk)) (w':=w) ?_ ⟨trivial,rfl,hG.same (by decide) (by decide) (by decide) (by decide)⟩;simp only[Array.getD_eq_getD_getElem?]at e79 e80;go_simp;rw[if_pos (by omega),if_neg (by omega)]
         · intro listed σ w a hin hout hl hla hs hc hp hG hF;refine Ac.none rfl ?_;have e78:=hin 0 78 rfl (hp ⟨0,.data⟩ (by simp) rfl);have z0:=hF 0 (hp ⟨0,.data⟩ (by simp) rfl);have e81:a.tmps.getD 81 undef=.slice (some ⟨bb,o+kk*4,none⟩) (q-kk) (c-kk):=(hin 3 81 rfl (hp ⟨3,.data⟩ (by simp) rfl)).trans (hF 3 (hp ⟨3,.data⟩ (by simp) rfl));have LR:=hG.2.2.1 (hp ⟨0,.data⟩ (by simp) rfl) hl
           obtain ⟨v',w',hr,h2,tn⟩:=Bf (w:=w) W0.heap.size (σ 0) 0 [] LR ⟨bb,o+kk*4,none⟩ (q-kk) (c-kk) (rs.drop kk) HLS.out.1 (fun jj u hu=>by rw[addr_add];exact HC1.out w hG.2.1 jj u hu) (by have:=HLS.out;omega) (by have:=HLS.out;omega) hG.2.1.size;have hb:=LR.lrow.old hG.2.1 tn.1 (Nat.le_refl _) (Nat.le_refl _);have hl2:=Ah (k:=6) hc hl (by kernel_rfl);have hl3:=Ah (k:=10) hc hl2 (by kernel_rfl);rw[show 0+(q-kk)=0+(rs.drop kk).length from by rw[HLS.out.1]]at h2
           refine Does.val v' (w':=w') ?_ ⟨trivial,trivial,Ko.one hG.1 hl2 hl3 (by decide) (by decide) (by decide) hb h2⟩;exact AW rfl e78 e81 hr
         · intro listed σ w a hin hout hl hla hs hc hp hG hF;refine Ac.none rfl ?_;have e0:a.tmps.getD 0 undef=.slice (some ⟨bb,o,none⟩) q c:=hout 0 (Af (by kernel_rfl));refine Does.val (.slice (some ⟨bb,o,none⟩) q c) (w':=w) ?_ ⟨trivial,rfl,hG.same (by decide) (by decide) (by decide) (by decide)⟩;simp only[Array.getD_eq_getD_getElem?]at e0;go_simp
         · intro listed σ w a hin hout hl hla hs hc hp hG hF;refine Ac.none rfl ?_;have e82:=hin 4 82 rfl (hp ⟨4,.data⟩ (by simp) rfl);have z4:=hF 4 (hp ⟨4,.data⟩ (by simp) rfl);have e83:a.tmps.getD 83 undef=.slice (some ⟨bb,o,none⟩) q c:=(hin 5 83 rfl (hp ⟨5,.data⟩ (by simp) rfl)).trans (hF 5 (hp ⟨5,.data⟩ (by simp) rfl));have LR:=hG.2.2.2.1 (hp ⟨4,.data⟩ (by simp) rfl) hl
           obtain ⟨v',w',hr,h2,tn⟩:=Bf (w:=w) W0.heap.size (σ 4) (0+(rs.drop kk).length) ([]++rs.drop kk) LR ⟨bb,o,none⟩ q c rs HLS.out.2.1 (fun jj u hu=>by rw[addr_add];exact HC2.out w hG.2.1 jj u hu) (by have:=HLS.out;omega) (by have:=HLS.out;omega) hG.2.1.size;have hb:=LR.lrow.old hG.2.1 tn.1 (Nat.le_refl _) (Nat.le_refl _);have hl3:=Ah (k:=10) hc hl (by kernel_rfl);rw[show 0+(rs.drop kk).length+q=0+(rs.drop kk).length+rs.length from by rw[HLS.out.2.1]]at h2
           refine Does.val v' (w':=w') ?_ ⟨trivial,trivial,Ko.two hG.1 (hp ⟨4,.data⟩ (by simp) rfl) hl3 (by decide) (by decide) (by decide) hb h2⟩;exact AW rfl e82 e83 hr
         · intro listed σ w a hin hout hl hla hs hc hp hG hF;refine Ac.none rfl ?_;have e0:a.tmps.getD 0 undef=.slice (some ⟨bb,o,none⟩) q c:=hout 0 (Af (by kernel_rfl));refine Does.val (.slice (some ⟨bb,o,none⟩) q c) (w':=w) ?_ ⟨trivial,rfl,hG.same (by decide) (by decide) (by decide) (by decide)⟩;simp only[Array.getD_eq_getD_getElem?]at e0;go_simp
         · intro listed σ w a hin hout hl hla hs hc hp hG hF;refine Ac.none rfl ?_;have e11:a.tmps.getD 11 undef=.int .i64 kk:=hout 11 (Af (by kernel_rfl));refine Does.val (.int .i64 kk) (w':=w) ?_ ⟨trivial,rfl,hG.same (by decide) (by decide) (by decide) (by decide)⟩;simp only[Array.getD_eq_getD_getElem?]at e11;go_simp
         · intro listed σ w a hin hout hl hla hs hc hp hG hF;refine Ac.none rfl ?_;have e85:a.tmps.getD 85 undef=.slice (some ⟨bb,o,none⟩) q c:=(hin 7 85 rfl (hp ⟨7,.data⟩ (by simp) rfl)).trans (hF 7 (hp ⟨7,.data⟩ (by simp) rfl));have e86:a.tmps.getD 86 undef=.int .i64 kk:=(hin 8 86 rfl (hp ⟨8,.data⟩ (by simp) rfl)).trans (hF 8 (hp ⟨8,.data⟩ (by simp) rfl))
           refine Does.val (.slice (some ⟨bb,o,none⟩) kk c) (w':=w) ?_ ⟨trivial,rfl,hG.same (by decide) (by decide) (by decide) (by decide)⟩;simp only[Array.getD_eq_getD_getElem?]at e85 e86;go_simp;intro hh;exfalso;omega
         · intro listed σ w a hin hout hl hla hs hc hp hG hF;refine Ac.none rfl ?_;have e84:=hin 6 84 rfl (hp ⟨6,.data⟩ (by simp) rfl);have z6:=hF 6 (hp ⟨6,.data⟩ (by simp) rfl);have e87:a.tmps.getD 87 undef=.slice (some ⟨bb,o,none⟩) kk c:=(hin 9 87 rfl (hp ⟨9,.data⟩ (by simp) rfl)).trans (hF 9 (hp ⟨9,.data⟩ (by simp) rfl));have LR:=hG.2.2.2.2.1 (hp ⟨6,.data⟩ (by simp) rfl) hl
           obtain ⟨v',w',hr,h2,tn⟩:=Bf (w:=w) W0.heap.size (σ 6) (0+(rs.drop kk).length+rs.length) ([]++rs.drop kk++rs) LR ⟨bb,o,none⟩ kk c (rs.take kk) HLS.out.2.2 (fun jj u hu=>by rw[addr_add];exact HC3.out w hG.2.1 jj u hu) (by have:=HLS.out;omega) (by have:=HLS.out;omega) hG.2.1.size;have hb:=LR.lrow.old hG.2.1 tn.1 (Nat.le_refl _) (Nat.le_refl _)
           rw[show 0+(rs.drop kk).length+rs.length+kk=0+(rs.drop kk).length+rs.length+(rs.take kk).length from by rw[HLS.out.2.2]]at h2;refine Does.val v' (w':=w') ?_ ⟨trivial,trivial,Ko.three hG.1 (by cases h4:listed.getD 4 false with|true=>rfl|false=>(have h5:=Ah (k:=6) hc h4 (by kernel_rfl);rw[hp ⟨6,.data⟩ (by simp) rfl]at h5;cases h5)) (hp ⟨6,.data⟩ (by simp) rfl) (by decide) (by decide) (by decide) hb h2⟩;exact AW rfl e84 e87 hr
       · intro o ho;injection ho with ho;subst ho
         intro listed σ w a hall hin hout hG hF;refine Ac.none rfl ?_;have e88:=hin 10 88 rfl (by decide);have z10:=hF 10 (by decide);have hl:=hG.2.2.2.2.2 (hall 10 (by decide));rw[<-HM.out]at hl;obtain ⟨A4,c4,hv4,hmc,hmc2,-⟩:=hl.lrow.len;rw[hv4]at e88 hl;refine Does.val (.slice A4 M c4) (w':=w) (by simp only[Array.getD_eq_getD_getElem?]at e88;go_simp) ?_
         rw[show fin _ σ (.slice A4 M c4) _=(Act.put (Act.put (Act.put (Act.put (Act.put (Act.put (Act.put (Act.put (Act.put (Act.put (Act.put (Act.put _ (some 78) (σ 0)) (some 79) (σ 1)) (some 80) (σ 2)) (some 81) (σ 3)) (some 82) (σ 4)) (some 83) (σ 5)) (some 84) (σ 6)) (some 85) (σ 7)) (some 86) (σ 8)) (some 87) (σ 9)) (some 88) (σ 10)) (some 12) (.slice A4 M c4)) from (Bn hall).trans rfl]
         simp only[Act.put,List.setIfInBounds_toArray,List.set_cons_zero,List.set_cons_succ];have HLO:=Ad hl;have HBO:=Ad (HBW.out.next hG.2.1);generalize σ 0=tt0 at *;generalize σ 1=tt1 at *;generalize σ 2=tt2 at *;generalize σ 3=tt3 at *;generalize σ 4=tt4 at *;generalize σ 5=tt5 at *;generalize σ 6=tt6 at *;generalize σ 7=tt7 at *;generalize σ 8=tt8 at *;generalize σ 9=tt9 at *;generalize σ 10=tt10 at *;clear hF hG hall hin hout HC1 HC2 HC3 HCL hl e88
         generalize w=W1 at *;have hset:∀x,x∈(rs.drop kk++rs++rs.take kk).map RV.rd↔x∈rs.map RV.rd:=by
           intro x;simp only[List.map_append,List.mem_append,List.mem_map];constructor
           · rintro ((⟨y,hy,e⟩|⟨y,hy,e⟩)|⟨y,hy,e⟩)
             · exact ⟨y,List.mem_of_mem_drop hy,e⟩
             · exact ⟨y,hy,e⟩
             · exact ⟨y,List.mem_of_mem_take hy,e⟩
           · rintro ⟨y,hy,e⟩;exact .inl (.inr ⟨y,hy,e⟩)
         have HSET:=Ad hset;have hmo:∀x∈([]++rs.drop kk++rs++rs.take kk),x∈rs:=by
           intro x hx;simp only[List.nil_append,List.mem_append]at hx;rcases hx with (hx|hx)|hx
           · exact List.mem_of_mem_drop hx
           · exact hx
           · exact List.mem_of_mem_take hx
         have HMO:=Ad hmo;have hlm:([]++rs.drop kk++rs++rs.take kk).length=M:=by rw[HM.out];simp only[List.nil_append,List.length_append];omega
         have hra:=HLO.out.rels hlm;have HRA:=Ad hra;have hta:=E9 (some ⟨bb,o,none⟩) q c 12 20 rs W1 ⟨HRS.out.1.1.below HBO.out,fun r hm=>(HRS.out.1.2 r hm).below HBO.out⟩ (by omega) hnc hcc (by decide) HRS.out.2 (by decide);clear hset hmo hlm hra HLO;go_wp2_with fail;refine hta.mono ?_;rintro e w5 ⟨o1,hto1,bt1,hm1⟩;have HTO1:=Ad hto1;have HB1:=Ad (HBO.out.next bt1);have hra5:=HRA.out.below bt1;clear hta hto1
         have htb:=E9 A4 M c4 12 20 ([]++rs.drop kk++rs++rs.take kk) w5 ⟨hra5,fun r hm=>(HRS.out.1.2 r (HMO.out r hm)).below HB1.out⟩ (by omega) hmc hmc2 (by decide) (fun r hm=>HRS.out.2 r (HMO.out r hm)) (by decide);clear hra5;cases o1 with
         |none=>
           dsimp only at hm1
           subst hm1;clear bt1;go_wp2_with fail;refine htb.mono ?_;rintro e w6 ⟨o2,hto2,bt2,hm2⟩;have eo2:o2=none:=FC (fun x=>by rw[List.nil_append];exact HSET.out x) hto2 HTO1.out;subst eo2;dsimp only at hm2
           subst hm2;have HB2:=Ad (HB1.out.next bt2);have htc:=E9 none 0 0 12 20 [] w6 ⟨⟨rfl,fun h=>absurd h (by decide)⟩,fun r hm=>by cases hm⟩ (by decide) (by decide) (by decide) (by decide) (fun r hm=>by cases hm) (by decide);have hsa:=fun W=>Ew none none 0 0 0 [] [] 0 0 W ⟨⟨rfl,fun h=>absurd h (by decide)⟩,fun r hm=>by cases hm⟩ ⟨⟨rfl,fun h=>absurd h (by decide)⟩,fun r hm=>by cases hm⟩ rfl (fun r hm=>by cases hm) (by decide)
           clear htb hto2 bt2;go_wp2_with fail;refine htc.mono ?_;rintro e w7 ⟨o3,hto3,bt3,hm3⟩;have HB3:=Ad (HB2.out.next bt3);clear htc hto3 bt3;cases o3 with
           |none=>
             dsimp only at hm3
             subst hm3;go_wp2_with fail;refine (hsa w7).mono ?_;rintro e w8 ⟨rfl,b8⟩;have HF:=Ad (T2.out.next (HB3.out.next b8));clear hsa b8;go_wp2_with fail;go_ret
             exact ⟨rfl,HF.out⟩
           |some out3=>
             obtain ⟨A3,c3,ps3,rfl,-,-,-,-,-⟩:=hm3;go_wp2_with fail;refine (hsa w7).mono ?_;rintro e w8 ⟨rfl,b8⟩;have HF:=Ad (T2.out.next (HB3.out.next b8));clear hsa b8;go_wp2_with fail;go_ret
             exact ⟨rfl,HF.out⟩
         |some out1=>
           obtain ⟨A5,c5,ps5,rfl,hps5,hpd5,hc51,hc52,hpl5⟩:=hm1;have hol:out1.length<=12:=(by have:=Mt HTO1.out;rw[List.length_map,HRN.out]at this;omega);have HPS5:=Ad hps5;have HPD5:=Ad hpd5;have HPL5:=Ad hpl5;have hp5n:=hps5.1.1;clear bt1 hps5 hpd5 hpl5;go_wp2_with fail;refine htb.mono ?_;rintro e w6 ⟨o2,hto2,bt2,hm2⟩;have eo2:o2=some out1:=FC (fun x=>by rw[List.nil_append];exact HSET.out x) hto2 HTO1.out;subst eo2;obtain ⟨A6,c6,ps6,rfl,hps6,hpd6,-,-,hpl6⟩:=hm2
           have HPS6:=Ad hps6;have HPD6:=Ad hpd6;have HB2:=Ad (HB1.out.next bt2);have h56:=HPS5.out.below bt2;have HPS5b:=Ad h56;have htc:=E9 A5 out1.length c5 (12+3*20+1+3*20) 20 ps5 w6 h56.in_ (by omega) hc51 hc52 (by decide) HPL5.out (by decide);clear htb hto2 bt2 hps6 hpd6 hpl6 h56;go_wp2_with fail;refine htc.mono ?_;rintro e w7 ⟨o3,hto3,bt3,hm3⟩;have eo3:o3=some out1:=NK HTO1.out (HPD5.out▸hto3);subst eo3;obtain ⟨A7,c7,ps7,rfl,hps7,hpd7,-,-,hpl7⟩:=hm3
           have HB3:=Ad (HB2.out.next bt3);have h57:=HPS5b.out.below bt3;have hs1:=Ew A5 A6 out1.length c5 c6 ps5 ps6 _ _ w7 h57 (HPS6.out.below bt3) (by rw[HPD5.out,HPD6.out]) (fun r hm=>Nat.le_trans (HPL5.out r hm) (by decide)) (by omega);have hs2:=fun W (h:Below w7.heap.size w7 W)=>Ew A5 A7 out1.length c5 c7 ps5 ps7 _ _ W (h57.below h) (hps7.below h) (by rw[HPD5.out,hpd7]) (fun r hm=>Nat.le_trans (HPL5.out r hm) (by decide)) (by omega)
           have HS2:=Ad hs2;clear htc hto3 bt3 hps7 hpd7 hpl7 h57 hs2;go_wp2_with fail;refine hs1.mono ?_;rintro e w8 ⟨rfl,b8⟩;have hs3:=HS2.out w8 b8;have HB4:=Ad (HB3.out.next b8);clear hs1 b8;go_wp2_with fail;refine hs3.mono ?_;rintro e w9 ⟨rfl,b9⟩;have HF:=Ad (T2.out.next (HB4.out.next b9));clear hs3 b9;go_wp2_with fail;go_ret
           exact ⟨rfl,HF.out⟩
end
section
open Go.ChangeShapes Go.WideShapes Go.ChangeAt Go.RowKit Go.Deep
theorem M5:Tryz.prog.cellsOf 35=4:=by kernel_rfl
section
variable {H:Type} {enc:TypeId×Value->H} {W:World} {f:Nat} {x:DataW H×List MemPlace} {cs:List Value}
theorem Jn (h:DataW.trod enc Tryz.prog W 0 (fun _=>true) true f 35 cs=some x):∃r:RV,cs=r.cells/\Dw W r.trm r.L r.K PI/\∀p∈r.L,-9223372036854775808<=p.1/\p.1<=9223372036854775807:=by
 obtain ⟨y0,y1,n,-,hl,h0,h1⟩:=trod_struct2 Tryz.underlying35 h;rw[M5]at hl;match cs,hl with
 |[v0,v1,v2,v3],_=>
  have g0:DataW.trod enc Tryz.prog W 0 (fun _=>true) true n 33 (([v0,v1,v2,v3].drop 0).take (Tryz.prog.cellsOf 33))=some y0:=h0;have g1:DataW.trod enc Tryz.prog W 0 (fun _=>true) true n 4 (([v0,v1,v2,v3].drop 3).take (Tryz.prog.cellsOf 4))=some y1:=h1;rw[Kj]at g0;rw[Kh]at g1;obtain ⟨A,n,c,s,B,m,d,L,K,e,hz,hb⟩:=Hp g0;injection e with e1 e
  injection e with e2 e
  injection e with e3 e
  subst e1 e2 e3;obtain ⟨s1,e0,-⟩:=DataW.trod_bool Tryz.underlying4 g1;injection e0 with e0
  subst e0;exact ⟨⟨A,n,c,s,B,m,d,s1,L,K⟩,rfl,hz,hb⟩
end
end
section
open Go.ChangeShapes Go.WideShapes Go.ChangeAt Go.RowKit Go.Deep
theorem M6 (ps:List RV) (j:Nat) (u:Value) (h:(AB ps)[j]?=some u):∃i p r,ps[i]?=some p/\j=4*i+r/\p.cells[r]?=some u/\r<4:=by
 induction ps generalizing j with
 |nil=>simp[AB]at h
 |cons p ps ih=>
  rw[show AB (p::ps)=p.cells++AB ps from rfl]at h;have hl:p.cells.length=4:=rfl;by_cases hj:j<4
  · rw[List.getElem?_append_left (by omega)]at h;exact ⟨0,p,j,rfl,by omega,h,hj⟩
  · rw[List.getElem?_append_right (by omega),hl]at h;obtain ⟨i,q,r,h1,h2,h3,h4⟩:=ih _ h;exact ⟨i+1,q,r,by simpa using h1,by omega,h3,h4⟩
instance rvSome:Inhabited RV:=⟨⟨none,0,0,false,none,0,0,false,[],0⟩⟩
section
variable {H:Type} {enc:TypeId×Value->H} {W:World} {f:Nat} {x:DataW H×List MemPlace}
theorem NM {v:Value} (hf:DataW.trod enc Tryz.prog W 0 (fun _=>true) true f 22 [v]=some x):∃a len cap ts,v=.slice a len cap/\Eu W a len ts PI/\(∀t∈ts,∀p∈t.L,-9223372036854775808<=p.1/\p.1<=9223372036854775807)/\len<=cap/\cap<=9223372036854775807:=by
 rcases open_slice Tryz.underlying22 hf with ⟨hcs,_⟩|⟨a,len,cap,m,n,D,Pl,hcs,_,hl,hm,hmm,_,hx⟩
 · injection hcs with hcs
   subst hcs;exact ⟨none,0,0,[],rfl,⟨⟨rfl,fun h=>absurd h (by omega)⟩,fun p hp=>by cases hp⟩,(fun t ht=>by cases ht),by omega,by omega⟩
 · injection hcs with hcs
   subst hcs;unfold maxLen at hm;have hlm:len<=m:=(by rw[hmm];split<;>omega);obtain ⟨p,hp⟩:=choose_lt (α:=RV) (n:=len) (p:=fun i p=>(∀r u,p.cells[r]?=some u->W.cell? (a.add (i*4+r))=some u)/\Dw W p.trm p.L p.K PI/\∀q∈p.L,-9223372036854775808<=q.1/\q.1<=9223372036854775807) (fun i hi=>by
     obtain ⟨cs,h1,h2⟩:=hx i (by omega);rw[M5]at h1;obtain ⟨_,hlen,hcell⟩:=World.cells?_some h1;obtain ⟨q,e,hz,hb⟩:=Jn h2;subst e;refine ⟨q,fun r u hu=>?_,hz,hb⟩;have hr:r<4:=(List.getElem?_eq_some_iff.1 hu).1;rw[<-show q.cells[r]?=some u from hu,<-hcell r hr,add_add])
   have hall:∀q∈(List.range len).map p,∃i,i<len/\q=p i:=fun q hq=>by
     obtain ⟨i,hi,rfl⟩:=List.mem_map.1 hq;exact ⟨i,List.mem_range.1 hi,rfl⟩
   refine ⟨some a,len,cap,(List.range len).map p,rfl,⟨⟨by simp,fun hn=>?_⟩,fun q hq=>?_⟩,fun q hq=>?_,hl,hm⟩
   · have h0:=(hp 0 hn).1 0 _ rfl;obtain ⟨b,o,spot⟩:=a;have hspot:spot=none:=(by simpa[Addr.add] using World.cell?_spot h0);subst hspot;refine ⟨b,o,rfl,fun j u hu=>?_⟩;obtain ⟨i,q,r,h1,rfl,h3,h4⟩:=M6 _ _ _ hu;have hi:i<len:=by
      have:=(List.getElem?_eq_some_iff.1 h1).1;simpa using this
     have hq:q=p i:=by rw[List.getElem?_map,List.getElem?_range hi]at h1;exact (Option.some.inj h1).symm
     subst hq;have h5:=(hp i hi).1 r u h3;rw[add_plain]at h5;rw[show 4*i+r=i*4+r by omega];exact h5
   · obtain ⟨i,hi,rfl⟩:=hall q hq;exact (hp i hi).2.1
   · obtain ⟨i,hi,rfl⟩:=hall q hq;exact (hp i hi).2.2
theorem PH {b:Nat} {v:Value} {d:DataW H} {p:List MemPlace} (hv:Value.okWide Tryz.prog W .any b 22 v)
  (h0:DataW.Trod enc Tryz.prog W 0 (fun _=>true) true 22 v d p):∃a len cap ts,v=.slice a len cap/\Eu W a len ts PI/\(∀t∈ts,∀p∈t.L,-9223372036854775808<=p.1/\p.1<=9223372036854775807)/\len<=cap/\cap<=9223372036854775807:=by
 obtain ⟨a,len,cap,rfl⟩:=okWide_slice Tryz.underlying22 hv;obtain ⟨fuel,hf⟩:=h0;exact NM hf
end
end
end Go.Proofs.YtemfjdedjcjegaaGreatDoor
