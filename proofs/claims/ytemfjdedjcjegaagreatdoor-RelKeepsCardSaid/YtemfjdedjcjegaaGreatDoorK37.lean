/- Texts of one seat, put together: RelKeeps. -/
import Derived.Test.YtemfjdedjcjegaaGreatDoorK26
import Derived.Test.YtemfjdedjcjegaaGreatDoorK27
import Derived.Test.YtemfjdedjcjegaaGreatDoorK36
set_option linter.unusedVariables false
set_option linter.unusedSimpArgs false
set_option maxRecDepth 100000
set_option maxHeartbeats 16000000
namespace Go.Proofs.YtemfjdedjcjegaaGreatDoor
section
open Go.RowKit
open Tm
theorem FU (a b:Int):AF a b=-1\/AF a b=0\/AF a b=1:=by
 unfold AF;repeat' split
 all_goals simp
theorem Jr:∀(a b:List (Int×Int)),cmpL a b=-1\/cmpL a b=0\/cmpL a b=1
 |[],[]=>by simp[cmpL]
 |[],_::_=>by simp[cmpL]
 |_::_,[]=>by simp[cmpL]
 |(u,c)::a,(v,d)::b=>by
  unfold cmpL;split
  · exact FU _ _
  · split
    · exact FU _ _
    · exact Jr a b
theorem Ky {a b:Int} (h1:a=-1\/a=0\/a=1) (h2:b=-1\/b=0\/b=1):Ew a b=-1\/Ew a b=0\/Ew a b=1:=by
 unfold Ew;split
 · exact h1
 · exact h2
theorem MF {x y:R3} (h:EU x y<0):EU x y=-1:=by
 have h3:CL x.2.2-CL y.2.2=-1\/CL x.2.2-CL y.2.2=0\/CL x.2.2-CL y.2.2=1:=by cases x.2.2<;>cases y.2.2<;>simp[CL]
 have:EU x y=-1\/EU x y=0\/EU x y=1:=Ky (Ky (Jr _ _) (FU _ _)) h3;omega
theorem Ep {w w':World} {p:Addr} {v:Value} (h:Below w.heap.size w w') (hc:w.cell? p=some v):w'.cell? p=w.cell? p:=Below.cell h (World.block_lt_of_cell? w _ hc)
theorem MG {us:List Int} {l:List R3} {q:Nat} {r:R3} (h:l[q]?=some r):(l.take (q+1)).all (Bw us)=((l.take q).all (Bw us)&&Bw us r):=by rw[List.take_add_one,h];simp
theorem JJ (A:Option Addr) (n c:Nat) (rs:List RV) (VA:Option Addr) (vn vc:Nat) (ivs:List IV) (w0:World) (hv:EF w0 A n rs Mu) (hnc:n<=c) (hcc:c<=9223372036854775807) (hvs:Ce w0 VA vn ivs Mu) (hvc1:vn<=vc) (hvc2:vc<=9223372036854775807) :
  Calls Tryz.prog 3 #[.slice A n c,.slice VA vn vc] w0 (E9 w0):=by
 have HV:=Ad hv;have HVS:=Ad hvs;clear hv hvs;go_enter Tryz.func3,Tryz.ntmps3;go_wp2_with fail;refine (N8 _).mono ?_;rintro en w1 ⟨rfl,b1⟩;have T1:=Ad b1;clear b1;go_wp2_with fail;refine (ME _).mono ?_;rintro en w2 ⟨rfl,b2⟩;have T2:=Ad (T1.out.next b2);clear b2 T1;have hfw:=P8 A n c 12 12 rs w2 (HV.out.below T2.out) (by omega) (by decide) (by decide);have hfv:=JC VA vn vc 20 12 ivs w2 (HVS.out.below T2.out) (by omega) (by decide) (by decide);go_wp2_with fail
 refine hfw.mono ?_;rintro en w3 ⟨f1,rfl,hr,rfl⟩;have HR:=Ad hr;clear hfw hr;cases f1 with
 |false=>
  clear hfv;go_wp2_with fail;go_ret
  exact ⟨rfl,T2.out⟩
 |true=>
  have F1:=Ad (HR.out rfl);go_wp2_with fail;refine hfv.mono ?_;rintro en w4 ⟨f2,rfl,hr2,rfl⟩;have HR2:=Ad hr2;clear hfv hr2;cases f2 with
  |false=>
   go_wp2_with fail;go_ret
   exact ⟨rfl,T2.out⟩
  |true=>
   have F2:=Ad (HR2.out rfl);have hrn:rs.length=n:=HV.out.1.1;have hn12:n<=12:=(by have:=F1.out.1;omega);have hvn:vn<=20:=F2.out.1;have HVV:=Ad F2.out.2;have HRS:=Ad (show EF w4 A n rs 12/\∀r∈rs,r.L.length<=20 from ⟨⟨(HV.out.below T2.out).1,fun r hm=>(F1.out.2 r hm).2⟩,fun r hm=>by
    have h1:=F1.out.2 r hm;have h2:Dq w4 (.agg #[.slice r.A r.n r.c,.bool r.s,.slice r.B r.m r.d]) r.L r.K 12:=h1.2;rw[h2.opn.1.len];exact h1.1⟩)
   have HRN:=Ad hrn;clear HR HR2 HV HVS hrn;go_wp2_with fail;go_loopw [5,32] (fun al i wr=>∃(q:Nat) (ab:Bool),q<=n/\i=.int .i64 q/\al=.bool ab/\Hid (ab=((rs.map RV.rd).take q).all (Bw (nums ivs)))/\Hid (Below w4.heap.size w4 wr)) (fun _ i _=>n-(intOf i).toNat)
   case atStart=>exact ⟨0,true,Nat.zero_le _,rfl,rfl,rfl,Below.refl _ _⟩
   case round=>
    obtain ⟨q,ab,hq,rfl,rfl,HAB,HBW⟩:=hrel;by_cases hqn:q<n
    · have g1:(q:Int)<(n:Int):=(by omega);obtain ⟨bb,o,r,hA,hr,c0,c1,c2,c3⟩:=(HRS.out.1.1.below HBW.out).at_ hqn;subst hA;have hmem:=List.mem_of_getElem? hr;have hti:=(HRS.out.1.2 r hmem).below HBW.out;have hrl:=HRS.out.2 r hmem;have HRQ:=Ad (show (rs.map RV.rd)[q]?=some r.rd from by rw[List.getElem?_map,hr];rfl);have y1:=Ae wr (.cells #[.slice r.A r.n r.c,.bool r.s,.slice r.B r.m r.d,.bool r.f] 35)
      have x6:=Aw.new 35 wr #[.slice r.A r.n r.c,.bool r.s,.slice r.B r.m r.d,.bool r.f];have hT:=CV (.agg #[.slice r.A r.n r.c,.bool r.s,.slice r.B r.m r.d,.bool r.f]) r.L r.K r.f 12 _ ⟨_,_,_,_,_,_,_,rfl,hti.below y1⟩ (by omega) (by omega);have z0:=x6.r0;have z1:=x6.r1;have z2:=x6.r2;have z3:=x6.r3;have HTI:=Ad hti;have HY1:=Ad y1;have HX6:=Ad x6;clear hr hmem hti x6 y1;go_wp2_with fail;refine hT.mono ?_;rintro e w5 ⟨v2,rfl,⟨A2,n2,cc2,s2,B2,m2,d2,rfl,t2⟩,b2⟩
      have HB2:=Ad (HY1.out.trans (b2.mono (by simp)));have HT2:=Ad t2;have y3:=Ae w5 (.cells #[.slice A2 n2 cc2,.bool s2,.slice B2 m2 d2,.bool (Hk r.L r.K r.f)] 35);have x6:=((HX6.out.next b2).next y3);have z0:=x6.r0;have z1:=x6.r1;have z2:=x6.r2;have z3:=x6.r3
      have hho:=Cn (.agg #[.slice r.A r.n r.c,.bool r.s,.slice r.B r.m r.d,.bool r.f]) r.L r.K r.f 12 12 VA vn vc ivs _ ⟨_,_,_,_,_,_,_,rfl,(HTI.out.below HB2.out).below y3⟩ (((HVV.out.below HBW.out).below HB2.out).below y3) (by omega) (by omega) (by decide) (by decide);have HX8:=Ad (Aw.new 35 w5 #[.slice A2 n2 cc2,.bool s2,.slice B2 m2 d2,.bool (Hk r.L r.K r.f)]);have HB3:=Ad (HB2.out.next y3);have HTT:=Ad (HT2.out.below y3)
      clear hT b2 t2 c0 c1 c2 c3 HY1 x6 y3 HX6 HB2 HT2;rw[show AV r.L r.K r.f=tk r.rd from rfl];obtain ⟨hb,hhb⟩:∃hb,hb=Bw (nums ivs) r.rd:=⟨_,rfl⟩;have HHB:=Ad hhb;rw[show BD r.f (r.K+val (nums ivs) r.L)=hb from hhb.symm]at hho;clear hhb;go_upto_region 10 with fail;generalize hW:(w5.alloc (.cells #[.slice A2 n2 cc2,.bool s2,.slice B2 m2 d2,.bool (Hk r.L r.K r.f)] 35))=W6 at *;clear hW;go_wp2_with fail;refine hho.mono ?_;rintro e w7 ⟨rfl,b7⟩;have HB7:=Ad (HB3.out.next b7)
      have x8:=HX8.out.next b7;have y0:=x8.r0;have y1:=x8.r1;have y2:=x8.r2;have y3:=x8.r3;have htl:=O5 r.L r.K r.f;have hh2:=Cn (.agg #[.slice A2 n2 cc2,.bool s2,.slice B2 m2 d2,.bool (Hk r.L r.K r.f)]) (Oq r.L r.K r.f) (Qc r.L r.K r.f) (Hk r.L r.K r.f) (12+r.L.length+r.L.length) 12 VA vn vc ivs w7 ⟨_,_,_,_,_,_,_,rfl,(HTT.out.below b7).in_⟩ ((HVV.out.below HBW.out).below (HB7.out)) (by omega) (by omega) (by omega) (by decide);have hkn:=Jk r.rd
      obtain ⟨k1,k2,k3⟩:=Dm (us:=nums ivs) (r:=r.rd);have HE:=Ad (show ∀wz,Below w7.heap.size w7 wz->(Below w4.heap.size w4 wz) from fun wz hz=>(HBW.out.next HB7.out).next hz);have HAL:=Ad (show (ab&&hb)=((rs.map RV.rd).take (q+1)).all (Bw (nums ivs)) from by rw[MG HRQ.out,<-HAB.out,<-HHB.out]);clear hho z0 z1 z2 z3 x8 b7 HX8 HTT HAB HRQ;rcases hkn with h0|h0|h0
      · rw[show BD (Hk r.L r.K r.f) (Qc r.L r.K r.f+val (nums ivs) (Oq r.L r.K r.f))=hb from (show Bw (nums ivs) (tt r.rd)=hb from by rw[k3 h0,<-HHB.out])]at hh2;rw[h0];clear k1 k2 k3 HHB;cases ab<;>cases hb
        all_goals
         go_wp2_with fail;refine hh2.mono ?_;rintro e w8 ⟨rfl,b8⟩;have HF:=Ad (HE.out _ b8);clear hh2 b8 y0 y1 y2 y3;go_wp2_with fail;go_roundw
         case rel=>exact ⟨q+1,_,by omega,by go_num,rfl,HAL.out,HF.out⟩
         case measure=>simp[intOf]<;>omega
      · have ehb:hb=true:=(by rw[HHB.out,k1 h0]);subst ehb;rw[h0];clear k1 k2 k3 HHB hh2;have HF:=Ad (HE.out _ (Below.refl _ _));cases ab
        all_goals
         go_wp2_with fail;go_roundw
         case rel=>exact ⟨q+1,_,by omega,by go_num,rfl,HAL.out,HF.out⟩
         case measure=>simp[intOf]<;>omega
      · have ehb:hb=false:=(by rw[HHB.out,k2 h0]);subst ehb;rw[h0];clear k1 k2 k3 HHB hh2;have HF:=Ad (HE.out _ (Below.refl _ _));cases ab
        all_goals
         go_wp2_with fail;go_roundw
         case rel=>exact ⟨q+1,_,by omega,by go_num,rfl,HAL.out,HF.out⟩
         case measure=>simp[intOf]<;>omega
    · have e0:q=n:=(by omega);subst e0;have g1:¬(q:Int)<(q:Int):=(by omega);have hab:ab=(rs.map RV.rd).all (Bw (nums ivs)):=by
        have h1:=HAB.out;rw[List.take_of_length_le (by rw[List.length_map,HRN.out];exact Nat.le_refl _)]at h1;exact h1
      have HA:=Ad hab;have hty:=Jq A q c 12 20 rs wr ⟨HRS.out.1.1.below HBW.out,fun r hm=>(HRS.out.1.2 r hm).below HBW.out⟩ (by omega) hnc hcc (by decide) HRS.out.2 (by decide);clear hab HAB;go_wp2_with fail;refine hty.mono ?_;rintro e w5 ⟨o,hto,bt,hm⟩;clear hty;cases o with
      |none=>
        dsimp only at hm
        subst hm;have hf:ab=false:=by rw[HA.out,Bool.eq_false_iff];intro hall;exact PM (us:=nums ivs) hto (List.all_eq_true.1 hall)
        subst hf;have HF:=Ad (T2.out.next (HBW.out.next bt));clear hto bt;go_wp2_with fail;go_ret
        exact ⟨rfl,HF.out⟩
      |some out=>
        obtain ⟨At,ct,ps,rfl,hps,hpd,hc1,hc2,hpl⟩:=hm;have HTO:=Ad hto;have HPS:=Ad hps;have HPD:=Ad hpd;have HPL:=Ad hpl;have hmq:=M5 hto;rw[List.length_map,HRN.out]at hmq;have HBT:=Ad (HBW.out.next bt);generalize hml:out.length=m at *;have HML:=Ad hml;clear hto bt hps hpd hpl hml HBW;go_wp2_with fail
        go_loopw [13,89] (fun nw i wz=>∃(p:Nat) (nb:Bool),p<=m/\i=.int .i64 p/\nw=.bool nb/\Hid (nb=(out.take p).all (Bw (nums ivs)))/\Hid (Below w5.heap.size w5 wz)) (fun _ i _=>m-(intOf i).toNat)
        case atStart=>exact ⟨0,true,Nat.zero_le _,rfl,rfl,rfl,Below.refl _ _⟩
        case round=>
         obtain ⟨p,nb,hp,rfl,rfl,HNB,HBZ⟩:=hrel;by_cases hpm:p<m
         · have g1:(p:Int)<(m:Int):=(by omega);obtain ⟨bx,ox,r,hA,hr,c0,c1,c2,c3⟩:=(HPS.out.1.below HBZ.out).at_ hpm;subst hA;have hmem:=List.mem_of_getElem? hr;have hrt:=(HPS.out.2 r hmem).below HBZ.out;have hrl:=HPL.out r hmem;have HOQ:=Ad (show out[p]?=some r.rd from by rw[<-HPD.out,List.getElem?_map,hr];rfl);have y1:=Ae wr (.cells #[.slice r.A r.n r.c,.bool r.s,.slice r.B r.m r.d,.bool r.f] 35)
           have x6:=Aw.new 35 wr #[.slice r.A r.n r.c,.bool r.s,.slice r.B r.m r.d,.bool r.f];have z0:=x6.r0;have z1:=x6.r1;have z2:=x6.r2;have z3:=x6.r3;have HPR:=Ad hr;have hho:=Cn (.agg #[.slice r.A r.n r.c,.bool r.s,.slice r.B r.m r.d,.bool r.f]) r.L r.K r.f (12+3*20+1+3*20) 12 VA vn vc ivs _ ⟨_,_,_,_,_,_,_,rfl,(hrt.below y1).in_⟩ (((HVV.out.below HBT.out).below HBZ.out).below y1) (by omega) (by omega) (by decide) (by decide)
           obtain ⟨hb,hhb⟩:∃hb,hb=Bw (nums ivs) r.rd:=⟨_,rfl⟩;rw[show BD r.f (r.K+val (nums ivs) r.L)=hb from hhb.symm]at hho;have HNX:=Ad (show (nb&&hb)=(out.take (p+1)).all (Bw (nums ivs)) from by rw[MG HOQ.out,<-HNB.out,<-hhb]);have HRT:=Ad hrt;have HY1:=Ad y1;have HX6:=Ad x6;clear hr hmem hrt y1 x6 hhb;cases nb
           · clear hho;have hbn:(false&&hb)=false:=(by cases hb<;>rfl);have HNY:=Ad (hbn▸HNX.out);clear hbn;go_upto_region 23 with fail;obtain ⟨w7,hw7⟩:∃w7,w7=(wr.alloc (.cells #[.slice r.A r.n r.c,.bool r.s,.slice r.B r.m r.d,.bool r.f] 35)):=⟨_,rfl⟩
             have b7:Below (wr.alloc (.cells #[.slice r.A r.n r.c,.bool r.s,.slice r.B r.m r.d,.bool r.f] 35)).heap.size (wr.alloc (.cells #[.slice r.A r.n r.c,.bool r.s,.slice r.B r.m r.d,.bool r.f] 35)) w7:=(by rw[hw7];exact Below.refl _ _);rw[<-hw7];clear hw7;have HB7:=Ad (HY1.out.next b7);have X15:=Ad (HX6.out.next b7);have HR7:=Ad (HRT.out.below HB7.out);have HBZ7:=Ad (HBZ.out.next HB7.out);clear b7 z0 z1 z2 z3 c0 c1 c2 c3 HX6 HY1 HRT;generalize w7=W9 at *
             generalize wr.heap.size=gx at *;by_cases hp0:p=0
             · have gz:¬(0:Int)<(p:Int):=(by omega);have SOF:=Ad (show ∀W,Below W9.heap.size W9 W->True from fun _ _=>trivial)
               refine Bg (by kernel_rfl) (by kernel_rfl) (by kernel_rfl) (fun w w'=>Below w.heap.size w w') (fun j v w=>match j with|0=>v=.int .i64 p|1=>v=.bool false|2=>v=.bool false|3=>v=undef|4=>v=undef|5=>v=undef|6=>v=undef|7=>v=undef|8=>v=undef|9=>v=undef|10=>v=undef|11=>v=.bool false|_=>True) (fun _ _ w=>Below W9.heap.size W9 w) ?_ (fun _=>Ak W9 1) ?_ ?_
               · intro j v w w' hT h;match j,h with
                 |0,h=>exact h
                 |1,h=>exact h
                 |2,h=>exact h
                 |3,h=>exact h
                 |4,h=>exact h
                 |5,h=>exact h
                 |6,h=>exact h
                 |7,h=>exact h
                 |8,h=>exact h
                 |9,h=>exact h
                 |10,h=>exact h
                 |11,h=>exact h
                 |j+12,h=>trivial
               · refine ⟨?_,?_,?_,?_,?_,?_,?_,?_,?_,?_,?_,?_,trivial⟩
                 · intro listed σ w a hin hout hl hc hp hG hF;refine Ac.none rfl ?_;have e14:a.tmps.getD 14 undef=.int .i64 p:=hout 14 (Af (by kernel_rfl));refine Does.val (.int .i64 p) (w':=w) ?_ ⟨Below.refl _ _,rfl,hG⟩;simp only[Array.getD_eq_getD_getElem?]at e14;go_simp
                 · intro listed σ w a hin hout hl hc hp hG hF;refine Ac.none rfl ?_;have e100:a.tmps.getD 100 undef=.int .i64 p:=(hin 0 100 rfl (hp ⟨0,.data⟩ (by simp) rfl)).trans (hF 0 (hp ⟨0,.data⟩ (by simp) rfl));refine Does.val (.bool false) (w':=w) ?_ ⟨Below.refl _ _,rfl,hG⟩;simp only[Array.getD_eq_getD_getElem?]at e100;go_simp
                 · intro listed σ w a hin hout hl hc hp hG hF;refine Ac.none rfl ?_;have e101:a.tmps.getD 101 undef=.bool false:=(hin 1 101 rfl (hp ⟨1,.data⟩ (by simp) rfl)).trans (hF 1 (hp ⟨1,.data⟩ (by simp) rfl));refine Does.val (.bool false) (w':=w) ?_ ⟨Below.refl _ _,rfl,hG⟩;simp only[Array.getD_eq_getD_getElem?]at e101;go_simp
                 · intro listed σ w a hin hout hl hc hp hG hF;refine Ac.some (d:=102) (b:=false) rfl rfl ((hin 2 102 rfl (hp ⟨2,.guard⟩ (by simp) rfl)).trans (hF 2 (hp ⟨2,.guard⟩ (by simp) rfl))) ?_;exact Or.inr ⟨(fun h=>by cases h),Below.refl _ _,rfl,hG⟩
                 · intro listed σ w a hin hout hl hc hp hG hF;refine Ac.some (d:=102) (b:=false) rfl rfl ((hin 2 102 rfl (hp ⟨2,.guard⟩ (by simp) rfl)).trans (hF 2 (hp ⟨2,.guard⟩ (by simp) rfl))) ?_;exact Or.inr ⟨(fun h=>by cases h),Below.refl _ _,rfl,hG⟩
                 · intro listed σ w a hin hout hl hc hp hG hF;refine Ac.some (d:=102) (b:=false) rfl rfl ((hin 2 102 rfl (hp ⟨2,.guard⟩ (by simp) rfl)).trans (hF 2 (hp ⟨2,.guard⟩ (by simp) rfl))) ?_;exact Or.inr ⟨(fun h=>by cases h),Below.refl _ _,rfl,hG⟩
                 · intro listed σ w a hin hout hl hc hp hG hF;refine Ac.some (d:=102) (b:=false) rfl rfl ((hin 2 102 rfl (hp ⟨2,.guard⟩ (by simp) rfl)).trans (hF 2 (hp ⟨2,.guard⟩ (by simp) rfl))) ?_;exact Or.inr ⟨(fun h=>by cases h),Below.refl _ _,rfl,hG⟩
                 · intro listed σ w a hin hout hl hc hp hG hF;refine Ac.some (d:=102) (b:=false) rfl rfl ((hin 2 102 rfl (hp ⟨2,.guard⟩ (by simp) rfl)).trans (hF 2 (hp ⟨2,.guard⟩ (by simp) rfl))) ?_;exact Or.inr ⟨(fun h=>by cases h),Below.refl _ _,rfl,hG⟩
                 · intro listed σ w a hin hout hl hc hp hG hF;refine Ac.some (d:=102) (b:=false) rfl rfl ((hin 2 102 rfl (hp ⟨2,.guard⟩ (by simp) rfl)).trans (hF 2 (hp ⟨2,.guard⟩ (by simp) rfl))) ?_;exact Or.inr ⟨(fun h=>by cases h),Below.refl _ _,rfl,hG⟩
                 · intro listed σ w a hin hout hl hc hp hG hF;refine Ac.some (d:=102) (b:=false) rfl rfl ((hin 2 102 rfl (hp ⟨2,.guard⟩ (by simp) rfl)).trans (hF 2 (hp ⟨2,.guard⟩ (by simp) rfl))) ?_;exact Or.inr ⟨(fun h=>by cases h),Below.refl _ _,rfl,hG⟩
                 · intro listed σ w a hin hout hl hc hp hG hF;refine Ac.some (d:=102) (b:=false) rfl rfl ((hin 2 102 rfl (hp ⟨2,.guard⟩ (by simp) rfl)).trans (hF 2 (hp ⟨2,.guard⟩ (by simp) rfl))) ?_;exact Or.inr ⟨(fun h=>by cases h),Below.refl _ _,rfl,hG⟩
                 · intro listed σ w a hin hout hl hc hp hG hF;refine Ac.none rfl ?_;have e102:a.tmps.getD 102 undef=.bool false:=(hin 2 102 rfl (hp ⟨2,.data⟩ (by simp) rfl)).trans (hF 2 (hp ⟨2,.data⟩ (by simp) rfl));have e110:a.tmps.getD 110 undef=undef:=(hin 10 110 rfl (hp ⟨10,.data⟩ (by simp) rfl)).trans (hF 10 (hp ⟨10,.data⟩ (by simp) rfl));refine Does.val (.bool false) (w':=w) ?_ ⟨Below.refl _ _,rfl,hG⟩;simp only[Array.getD_eq_getD_getElem?]at e102 e110
                   go_simp
               · intro listed σ W8 hall hG hF;rw[show mid _ σ listed _=(Act.put (Act.put (Act.put (Act.put (Act.put (Act.put (Act.put (Act.put (Act.put (Act.put (Act.put (Act.put _ (some 100) (σ 0)) (some 101) (σ 1)) (some 102) (σ 2)) (some 103) (σ 3)) (some 104) (σ 4)) (some 105) (σ 5)) (some 106) (σ 6)) (some 107) (σ 7)) (some 108) (σ 8)) (some 109) (σ 9)) (some 110) (σ 10)) (some 111) (σ 11)) from (Bv hall).trans rfl];generalize σ 0=tt0;generalize σ 1=tt1
                 generalize σ 2=tt2;generalize σ 3=tt3;generalize σ 4=tt4;generalize σ 5=tt5;generalize σ 6=tt6;generalize σ 7=tt7;generalize σ 8=tt8;generalize σ 9=tt9;generalize σ 10=tt10;rw[show σ 11=.bool false from hF 11 (by decide)];simp only[Act.put,List.setIfInBounds_toArray,List.set_cons_zero,List.set_cons_succ];have TG:=hG;clear hF hG hall;clear σ;have HF:=Ad (HBZ7.out.next TG);clear TG SOF;go_wp2_with fail;go_roundw
                 case rel=>exact ⟨p+1,_,by omega,by go_num,rfl,HNY.out,HF.out⟩
                 case measure=>simp[intOf]<;>omega
             · obtain ⟨p',hpp⟩:∃p',p=p'+1:=⟨p-1,by omega⟩;subst hpp;have gz:(0:Int)<((p'+1:Nat):Int):=(by omega);have gp:(p':Int)<(m:Int):=(by omega);obtain ⟨b9,o9,r9,hA9,hr9,d0,d1,d2,d3⟩:=(HPS.out.1.below HBZ7.out).at_ (i:=p') (by omega);have hA9':b9=bx/\o9=ox:=(by simpa[eq_comm] using hA9);obtain ⟨rfl,rfl⟩:=hA9';have hmem9:=List.mem_of_getElem? hr9;have hcm:EU r9.rd r.rd=-1:=by
                 have h1:=EL HTO.out;rw[List.pairwise_iff_getElem]at h1;have e1:out[p']?=some r9.rd:=(by rw[<-HPD.out,List.getElem?_map,hr9];rfl);obtain ⟨i1,j1⟩:=List.getElem?_eq_some_iff.1 e1;obtain ⟨i2,j2⟩:=List.getElem?_eq_some_iff.1 HOQ.out;have h2:=h1 p' (p'+1) i1 i2 (by omega);rw[j1,j2]at h2;exact MF h2
               have HC9:=Ad hcm;have HR9:=Ad ((HPS.out.2 r9 hmem9).below HBZ7.out);have hl9:=HPL.out r9 hmem9;have HCM:=Ad (fun W (h:Below W9.heap.size W9 W)=>show Calls Tryz.prog 12 #[.agg #[.slice r9.A r9.n r9.c,.bool r9.s,.slice r9.B r9.m r9.d,.bool r9.f],.agg #[.slice r.A r.n r.c,.bool r.s,.slice r.B r.m r.d,.bool r.f]] W (fun e w'=>e=.returned (.int .i64 (-1))/\Below W.heap.size W w') from by have h3:=DV (.agg #[.slice r9.A r9.n r9.c,.bool r9.s,.slice r9.B r9.m r9.d,.bool r9.f]) (.agg #[.slice r.A r.n r.c,.bool r.s,.slice r.B r.m r.d,.bool r.f]) r9.L r.L r9.K r.K r9.f r.f (12+3*20+1+3*20) W ⟨_,_,_,_,_,_,_,rfl,(HR9.out.below h).in_⟩ ⟨_,_,_,_,_,_,_,rfl,(HR7.out.below h).in_⟩ (by omega) (by omega) (by decide);rw[show Ml r9.L r.L r9.K r.K r9.f r.f=-1 from HC9.out]at h3;exact h3)
               have SOF:=Ad (show ∀W,Below W9.heap.size W9 W->(W.cell? ⟨gx,0,none⟩=some (.slice r.A r.n r.c)/\W.cell? ⟨gx,1,none⟩=some (.bool r.s)/\W.cell? ⟨gx,2,none⟩=some (.slice r.B r.m r.d)/\W.cell? ⟨gx,3,none⟩=some (.bool r.f)/\W.cell? ⟨b9,o9+p'*4,none⟩=some (.slice r9.A r9.n r9.c)/\W.cell? ⟨b9,o9+p'*4+1,none⟩=some (.bool r9.s)/\W.cell? ⟨b9,o9+p'*4+2,none⟩=some (.slice r9.B r9.m r9.d)/\W.cell? ⟨b9,o9+p'*4+3,none⟩=some (.bool r9.f)) from fun W h=>⟨(X15.out.next h).r0,(X15.out.next h).r1,(X15.out.next h).r2,(X15.out.next h).r3,(Ep h d0).trans d0,(Ep h d1).trans d1,(Ep h d2).trans d2,(Ep h d3).trans d3⟩)
               clear d0 d1 d2 d3 hA9 hr9 hmem9 hcm
               refine Bg (by kernel_rfl) (by kernel_rfl) (by kernel_rfl) (fun w w'=>Below w.heap.size w w') (fun j v w=>match j with|0=>v=.int .i64 ((p'+1:Nat):Int)|1=>v=.bool true|2=>v=.bool true|3=>v=.slice (some ⟨b9,o9,none⟩) m ct|4=>v=.int .i64 ((p'+1:Nat):Int)|5=>v=.int .i64 p'|6=>v=.pointer (some ⟨b9,o9+p'*4,none⟩)|7=>v=.agg #[.slice r9.A r9.n r9.c,.bool r9.s,.slice r9.B r9.m r9.d,.bool r9.f]|8=>v=.agg #[.slice r.A r.n r.c,.bool r.s,.slice r.B r.m r.d,.bool r.f]|9=>v=.int .i64 (-1)|10=>v=.bool false|11=>v=.bool false|_=>True) (fun _ _ w=>Below W9.heap.size W9 w) ?_ (fun _=>Ak W9 1) ?_ ?_
               · intro j v w w' hT h;match j,h with
                 |0,h=>exact h
                 |1,h=>exact h
                 |2,h=>exact h
                 |3,h=>exact h
                 |4,h=>exact h
                 |5,h=>exact h
                 |6,h=>exact h
                 |7,h=>exact h
                 |8,h=>exact h
                 |9,h=>exact h
                 |10,h=>exact h
                 |11,h=>exact h
                 |j+12,h=>trivial
               · refine ⟨?_,?_,?_,?_,?_,?_,?_,?_,?_,?_,?_,?_,trivial⟩
                 · intro listed σ w a hin hout hl hc hp hG hF;refine Ac.none rfl ?_;have e14:a.tmps.getD 14 undef=.int .i64 ((p'+1:Nat):Int):=hout 14 (Af (by kernel_rfl));refine Does.val (.int .i64 ((p'+1:Nat):Int)) (w':=w) ?_ ⟨Below.refl _ _,rfl,hG⟩;simp only[Array.getD_eq_getD_getElem?]at e14;go_simp
                 · intro listed σ w a hin hout hl hc hp hG hF;refine Ac.none rfl ?_;have e100:a.tmps.getD 100 undef=.int .i64 ((p'+1:Nat):Int):=(hin 0 100 rfl (hp ⟨0,.data⟩ (by simp) rfl)).trans (hF 0 (hp ⟨0,.data⟩ (by simp) rfl));refine Does.val (.bool true) (w':=w) ?_ ⟨Below.refl _ _,rfl,hG⟩;simp only[Array.getD_eq_getD_getElem?]at e100;go_simp
                 · intro listed σ w a hin hout hl hc hp hG hF;refine Ac.none rfl ?_;have e101:a.tmps.getD 101 undef=.bool true:=(hin 1 101 rfl (hp ⟨1,.data⟩ (by simp) rfl)).trans (hF 1 (hp ⟨1,.data⟩ (by simp) rfl));refine Does.val (.bool true) (w':=w) ?_ ⟨Below.refl _ _,rfl,hG⟩;simp only[Array.getD_eq_getD_getElem?]at e101;go_simp
                 · intro listed σ w a hin hout hl hc hp hG hF;refine Ac.some (d:=102) (b:=true) rfl rfl ((hin 2 102 rfl (hp ⟨2,.guard⟩ (by simp) rfl)).trans (hF 2 (hp ⟨2,.guard⟩ (by simp) rfl))) ?_;refine Or.inl ⟨rfl,?_⟩;have e11:a.tmps.getD 11 undef=.slice (some ⟨b9,o9,none⟩) m ct:=hout 11 (Af (by kernel_rfl));refine Does.val (.slice (some ⟨b9,o9,none⟩) m ct) (w':=w) ?_ ⟨Below.refl _ _,rfl,hG⟩;simp only[Array.getD_eq_getD_getElem?]at e11;go_simp
                 · intro listed σ w a hin hout hl hc hp hG hF;refine Ac.some (d:=102) (b:=true) rfl rfl ((hin 2 102 rfl (hp ⟨2,.guard⟩ (by simp) rfl)).trans (hF 2 (hp ⟨2,.guard⟩ (by simp) rfl))) ?_;refine Or.inl ⟨rfl,?_⟩;have e14:a.tmps.getD 14 undef=.int .i64 ((p'+1:Nat):Int):=hout 14 (Af (by kernel_rfl));refine Does.val (.int .i64 ((p'+1:Nat):Int)) (w':=w) ?_ ⟨Below.refl _ _,rfl,hG⟩;simp only[Array.getD_eq_getD_getElem?]at e14;go_simp
                 · intro listed σ w a hin hout hl hc hp hG hF;refine Ac.some (d:=102) (b:=true) rfl rfl ((hin 2 102 rfl (hp ⟨2,.guard⟩ (by simp) rfl)).trans (hF 2 (hp ⟨2,.guard⟩ (by simp) rfl))) ?_;refine Or.inl ⟨rfl,?_⟩;have e104:a.tmps.getD 104 undef=.int .i64 ((p'+1:Nat):Int):=(hin 4 104 rfl (hp ⟨4,.data⟩ (by simp) rfl)).trans (hF 4 (hp ⟨4,.data⟩ (by simp) rfl));refine Does.val (.int .i64 p') (w':=w) ?_ ⟨Below.refl _ _,rfl,hG⟩
                   simp only[Array.getD_eq_getD_getElem?]at e104;go_simp;exact IntWalk.i64_in _ (by omega)
                 · intro listed σ w a hin hout hl hc hp hG hF;refine Ac.some (d:=102) (b:=true) rfl rfl ((hin 2 102 rfl (hp ⟨2,.guard⟩ (by simp) rfl)).trans (hF 2 (hp ⟨2,.guard⟩ (by simp) rfl))) ?_;refine Or.inl ⟨rfl,?_⟩;have e103:a.tmps.getD 103 undef=.slice (some ⟨b9,o9,none⟩) m ct:=(hin 3 103 rfl (hp ⟨3,.data⟩ (by simp) rfl)).trans (hF 3 (hp ⟨3,.data⟩ (by simp) rfl))
                   have e105:a.tmps.getD 105 undef=.int .i64 p':=(hin 5 105 rfl (hp ⟨5,.data⟩ (by simp) rfl)).trans (hF 5 (hp ⟨5,.data⟩ (by simp) rfl));refine Does.val (.pointer (some ⟨b9,o9+p'*4,none⟩)) (w':=w) ?_ ⟨Below.refl _ _,rfl,hG⟩;simp only[Array.getD_eq_getD_getElem?]at e103 e105;go_simp;(try (intro hh;exfalso;omega))
                 · intro listed σ w a hin hout hl hc hp hG hF;refine Ac.some (d:=102) (b:=true) rfl rfl ((hin 2 102 rfl (hp ⟨2,.guard⟩ (by simp) rfl)).trans (hF 2 (hp ⟨2,.guard⟩ (by simp) rfl))) ?_;refine Or.inl ⟨rfl,?_⟩;have e106:a.tmps.getD 106 undef=.pointer (some ⟨b9,o9+p'*4,none⟩):=(hin 6 106 rfl (hp ⟨6,.data⟩ (by simp) rfl)).trans (hF 6 (hp ⟨6,.data⟩ (by simp) rfl));have CC:=SOF.out w hG;obtain ⟨C0,C1,C2,C3,D0,D1,D2,D3⟩:=CC
                   refine Does.val (.agg #[.slice r9.A r9.n r9.c,.bool r9.s,.slice r9.B r9.m r9.d,.bool r9.f]) (w':=w) ?_ ⟨Below.refl _ _,rfl,hG⟩;go_simp
                 · intro listed σ w a hin hout hl hc hp hG hF;refine Ac.some (d:=102) (b:=true) rfl rfl ((hin 2 102 rfl (hp ⟨2,.guard⟩ (by simp) rfl)).trans (hF 2 (hp ⟨2,.guard⟩ (by simp) rfl))) ?_;refine Or.inl ⟨rfl,?_⟩;have e15:a.tmps.getD 15 undef=.pointer (some ⟨gx,0,none⟩):=hout 15 (Af (by kernel_rfl));have CC:=SOF.out w hG;obtain ⟨C0,C1,C2,C3,D0,D1,D2,D3⟩:=CC
                   refine Does.val (.agg #[.slice r.A r.n r.c,.bool r.s,.slice r.B r.m r.d,.bool r.f]) (w':=w) ?_ ⟨Below.refl _ _,rfl,hG⟩;go_simp
                 · intro listed σ w a hin hout hl hc hp hG hF;refine Ac.some (d:=102) (b:=true) rfl rfl ((hin 2 102 rfl (hp ⟨2,.guard⟩ (by simp) rfl)).trans (hF 2 (hp ⟨2,.guard⟩ (by simp) rfl))) ?_;refine Or.inl ⟨rfl,?_⟩;have e107:a.tmps.getD 107 undef=.agg #[.slice r9.A r9.n r9.c,.bool r9.s,.slice r9.B r9.m r9.d,.bool r9.f]:=(hin 7 107 rfl (hp ⟨7,.data⟩ (by simp) rfl)).trans (hF 7 (hp ⟨7,.data⟩ (by simp) rfl))
                   have e108:a.tmps.getD 108 undef=.agg #[.slice r.A r.n r.c,.bool r.s,.slice r.B r.m r.d,.bool r.f]:=(hin 8 108 rfl (hp ⟨8,.data⟩ (by simp) rfl)).trans (hF 8 (hp ⟨8,.data⟩ (by simp) rfl));refine Does.call ?_ (HCM.out w hG) ?_
                   · go_simp
                   · rintro e w' ⟨rfl,hb⟩;exact ⟨_,rfl,hb,rfl,hG.next hb⟩
                 · intro listed σ w a hin hout hl hc hp hG hF;refine Ac.some (d:=102) (b:=true) rfl rfl ((hin 2 102 rfl (hp ⟨2,.guard⟩ (by simp) rfl)).trans (hF 2 (hp ⟨2,.guard⟩ (by simp) rfl))) ?_;refine Or.inl ⟨rfl,?_⟩;have e109:a.tmps.getD 109 undef=.int .i64 (-1):=(hin 9 109 rfl (hp ⟨9,.data⟩ (by simp) rfl)).trans (hF 9 (hp ⟨9,.data⟩ (by simp) rfl));refine Does.val (.bool false) (w':=w) ?_ ⟨Below.refl _ _,rfl,hG⟩
                   simp only[Array.getD_eq_getD_getElem?]at e109;go_simp;(try decide)
                 · intro listed σ w a hin hout hl hc hp hG hF;refine Ac.none rfl ?_;have e102:a.tmps.getD 102 undef=.bool true:=(hin 2 102 rfl (hp ⟨2,.data⟩ (by simp) rfl)).trans (hF 2 (hp ⟨2,.data⟩ (by simp) rfl));have e110:a.tmps.getD 110 undef=.bool false:=(hin 10 110 rfl (hp ⟨10,.data⟩ (by simp) rfl)).trans (hF 10 (hp ⟨10,.data⟩ (by simp) rfl));refine Does.val (.bool false) (w':=w) ?_ ⟨Below.refl _ _,rfl,hG⟩
                   simp only[Array.getD_eq_getD_getElem?]at e102 e110;go_simp
               · intro listed σ W8 hall hG hF;rw[show mid _ σ listed _=(Act.put (Act.put (Act.put (Act.put (Act.put (Act.put (Act.put (Act.put (Act.put (Act.put (Act.put (Act.put _ (some 100) (σ 0)) (some 101) (σ 1)) (some 102) (σ 2)) (some 103) (σ 3)) (some 104) (σ 4)) (some 105) (σ 5)) (some 106) (σ 6)) (some 107) (σ 7)) (some 108) (σ 8)) (some 109) (σ 9)) (some 110) (σ 10)) (some 111) (σ 11)) from (Bv hall).trans rfl];generalize σ 0=tt0;generalize σ 1=tt1
                 generalize σ 2=tt2;generalize σ 3=tt3;generalize σ 4=tt4;generalize σ 5=tt5;generalize σ 6=tt6;generalize σ 7=tt7;generalize σ 8=tt8;generalize σ 9=tt9;generalize σ 10=tt10;rw[show σ 11=.bool false from hF 11 (by decide)];simp only[Act.put,List.setIfInBounds_toArray,List.set_cons_zero,List.set_cons_succ];have TG:=hG;clear hF hG hall;clear σ;have HF:=Ad (HBZ7.out.next TG);clear TG SOF;go_wp2_with fail;go_roundw
                 case rel=>exact ⟨p'+1+1,_,by omega,by go_num,rfl,HNY.out,HF.out⟩
                 case measure=>simp[intOf]<;>omega
           · go_wp2_with fail;refine hho.mono ?_;rintro e w7 ⟨rfl,b7⟩;clear hho;have hbn:(true&&hb)=hb:=(by cases hb<;>rfl);have HNY:=Ad (hbn▸HNX.out);clear hbn;go_upto_region 23 with fail;have HB7:=Ad (HY1.out.next b7);have X15:=Ad (HX6.out.next b7);have HR7:=Ad (HRT.out.below HB7.out);have HBZ7:=Ad (HBZ.out.next HB7.out);clear b7 z0 z1 z2 z3 c0 c1 c2 c3 HX6 HY1 HRT;generalize w7=W9 at *;generalize wr.heap.size=gx at *;by_cases hp0:p=0
             · have gz:¬(0:Int)<(p:Int):=(by omega);have SOF:=Ad (show ∀W,Below W9.heap.size W9 W->True from fun _ _=>trivial)
               refine Bg (by kernel_rfl) (by kernel_rfl) (by kernel_rfl) (fun w w'=>Below w.heap.size w w') (fun j v w=>match j with|0=>v=.int .i64 p|1=>v=.bool false|2=>v=.bool false|3=>v=undef|4=>v=undef|5=>v=undef|6=>v=undef|7=>v=undef|8=>v=undef|9=>v=undef|10=>v=undef|11=>v=.bool false|_=>True) (fun _ _ w=>Below W9.heap.size W9 w) ?_ (fun _=>Ak W9 1) ?_ ?_
               · intro j v w w' hT h;match j,h with
                 |0,h=>exact h
                 |1,h=>exact h
                 |2,h=>exact h
                 |3,h=>exact h
                 |4,h=>exact h
                 |5,h=>exact h
                 |6,h=>exact h
                 |7,h=>exact h
                 |8,h=>exact h
                 |9,h=>exact h
                 |10,h=>exact h
                 |11,h=>exact h
                 |j+12,h=>trivial
               · refine ⟨?_,?_,?_,?_,?_,?_,?_,?_,?_,?_,?_,?_,trivial⟩
                 · intro listed σ w a hin hout hl hc hp hG hF;refine Ac.none rfl ?_;have e14:a.tmps.getD 14 undef=.int .i64 p:=hout 14 (Af (by kernel_rfl));refine Does.val (.int .i64 p) (w':=w) ?_ ⟨Below.refl _ _,rfl,hG⟩;simp only[Array.getD_eq_getD_getElem?]at e14;go_simp
                 · intro listed σ w a hin hout hl hc hp hG hF;refine Ac.none rfl ?_;have e100:a.tmps.getD 100 undef=.int .i64 p:=(hin 0 100 rfl (hp ⟨0,.data⟩ (by simp) rfl)).trans (hF 0 (hp ⟨0,.data⟩ (by simp) rfl));refine Does.val (.bool false) (w':=w) ?_ ⟨Below.refl _ _,rfl,hG⟩;simp only[Array.getD_eq_getD_getElem?]at e100;go_simp
                 · intro listed σ w a hin hout hl hc hp hG hF;refine Ac.none rfl ?_;have e101:a.tmps.getD 101 undef=.bool false:=(hin 1 101 rfl (hp ⟨1,.data⟩ (by simp) rfl)).trans (hF 1 (hp ⟨1,.data⟩ (by simp) rfl));refine Does.val (.bool false) (w':=w) ?_ ⟨Below.refl _ _,rfl,hG⟩;simp only[Array.getD_eq_getD_getElem?]at e101;go_simp
                 · intro listed σ w a hin hout hl hc hp hG hF;refine Ac.some (d:=102) (b:=false) rfl rfl ((hin 2 102 rfl (hp ⟨2,.guard⟩ (by simp) rfl)).trans (hF 2 (hp ⟨2,.guard⟩ (by simp) rfl))) ?_;exact Or.inr ⟨(fun h=>by cases h),Below.refl _ _,rfl,hG⟩
                 · intro listed σ w a hin hout hl hc hp hG hF;refine Ac.some (d:=102) (b:=false) rfl rfl ((hin 2 102 rfl (hp ⟨2,.guard⟩ (by simp) rfl)).trans (hF 2 (hp ⟨2,.guard⟩ (by simp) rfl))) ?_;exact Or.inr ⟨(fun h=>by cases h),Below.refl _ _,rfl,hG⟩
                 · intro listed σ w a hin hout hl hc hp hG hF;refine Ac.some (d:=102) (b:=false) rfl rfl ((hin 2 102 rfl (hp ⟨2,.guard⟩ (by simp) rfl)).trans (hF 2 (hp ⟨2,.guard⟩ (by simp) rfl))) ?_;exact Or.inr ⟨(fun h=>by cases h),Below.refl _ _,rfl,hG⟩
                 · intro listed σ w a hin hout hl hc hp hG hF;refine Ac.some (d:=102) (b:=false) rfl rfl ((hin 2 102 rfl (hp ⟨2,.guard⟩ (by simp) rfl)).trans (hF 2 (hp ⟨2,.guard⟩ (by simp) rfl))) ?_;exact Or.inr ⟨(fun h=>by cases h),Below.refl _ _,rfl,hG⟩
                 · intro listed σ w a hin hout hl hc hp hG hF;refine Ac.some (d:=102) (b:=false) rfl rfl ((hin 2 102 rfl (hp ⟨2,.guard⟩ (by simp) rfl)).trans (hF 2 (hp ⟨2,.guard⟩ (by simp) rfl))) ?_;exact Or.inr ⟨(fun h=>by cases h),Below.refl _ _,rfl,hG⟩
                 · intro listed σ w a hin hout hl hc hp hG hF;refine Ac.some (d:=102) (b:=false) rfl rfl ((hin 2 102 rfl (hp ⟨2,.guard⟩ (by simp) rfl)).trans (hF 2 (hp ⟨2,.guard⟩ (by simp) rfl))) ?_;exact Or.inr ⟨(fun h=>by cases h),Below.refl _ _,rfl,hG⟩
                 · intro listed σ w a hin hout hl hc hp hG hF;refine Ac.some (d:=102) (b:=false) rfl rfl ((hin 2 102 rfl (hp ⟨2,.guard⟩ (by simp) rfl)).trans (hF 2 (hp ⟨2,.guard⟩ (by simp) rfl))) ?_;exact Or.inr ⟨(fun h=>by cases h),Below.refl _ _,rfl,hG⟩
                 · intro listed σ w a hin hout hl hc hp hG hF;refine Ac.some (d:=102) (b:=false) rfl rfl ((hin 2 102 rfl (hp ⟨2,.guard⟩ (by simp) rfl)).trans (hF 2 (hp ⟨2,.guard⟩ (by simp) rfl))) ?_;exact Or.inr ⟨(fun h=>by cases h),Below.refl _ _,rfl,hG⟩
                 · intro listed σ w a hin hout hl hc hp hG hF;refine Ac.none rfl ?_;have e102:a.tmps.getD 102 undef=.bool false:=(hin 2 102 rfl (hp ⟨2,.data⟩ (by simp) rfl)).trans (hF 2 (hp ⟨2,.data⟩ (by simp) rfl));have e110:a.tmps.getD 110 undef=undef:=(hin 10 110 rfl (hp ⟨10,.data⟩ (by simp) rfl)).trans (hF 10 (hp ⟨10,.data⟩ (by simp) rfl));refine Does.val (.bool false) (w':=w) ?_ ⟨Below.refl _ _,rfl,hG⟩;simp only[Array.getD_eq_getD_getElem?]at e102 e110
                   go_simp
               · intro listed σ W8 hall hG hF;rw[show mid _ σ listed _=(Act.put (Act.put (Act.put (Act.put (Act.put (Act.put (Act.put (Act.put (Act.put (Act.put (Act.put (Act.put _ (some 100) (σ 0)) (some 101) (σ 1)) (some 102) (σ 2)) (some 103) (σ 3)) (some 104) (σ 4)) (some 105) (σ 5)) (some 106) (σ 6)) (some 107) (σ 7)) (some 108) (σ 8)) (some 109) (σ 9)) (some 110) (σ 10)) (some 111) (σ 11)) from (Bv hall).trans rfl];generalize σ 0=tt0;generalize σ 1=tt1
                 generalize σ 2=tt2;generalize σ 3=tt3;generalize σ 4=tt4;generalize σ 5=tt5;generalize σ 6=tt6;generalize σ 7=tt7;generalize σ 8=tt8;generalize σ 9=tt9;generalize σ 10=tt10;rw[show σ 11=.bool false from hF 11 (by decide)];simp only[Act.put,List.setIfInBounds_toArray,List.set_cons_zero,List.set_cons_succ];have TG:=hG;clear hF hG hall;clear σ;have HF:=Ad (HBZ7.out.next TG);clear TG SOF;go_wp2_with fail;go_roundw
                 case rel=>exact ⟨p+1,_,by omega,by go_num,rfl,HNY.out,HF.out⟩
                 case measure=>simp[intOf]<;>omega
             · obtain ⟨p',hpp⟩:∃p',p=p'+1:=⟨p-1,by omega⟩;subst hpp;have gz:(0:Int)<((p'+1:Nat):Int):=(by omega);have gp:(p':Int)<(m:Int):=(by omega);obtain ⟨b9,o9,r9,hA9,hr9,d0,d1,d2,d3⟩:=(HPS.out.1.below HBZ7.out).at_ (i:=p') (by omega);have hA9':b9=bx/\o9=ox:=(by simpa[eq_comm] using hA9);obtain ⟨rfl,rfl⟩:=hA9';have hmem9:=List.mem_of_getElem? hr9;have hcm:EU r9.rd r.rd=-1:=by
                 have h1:=EL HTO.out;rw[List.pairwise_iff_getElem]at h1;have e1:out[p']?=some r9.rd:=(by rw[<-HPD.out,List.getElem?_map,hr9];rfl);obtain ⟨i1,j1⟩:=List.getElem?_eq_some_iff.1 e1;obtain ⟨i2,j2⟩:=List.getElem?_eq_some_iff.1 HOQ.out;have h2:=h1 p' (p'+1) i1 i2 (by omega);rw[j1,j2]at h2;exact MF h2
               have HC9:=Ad hcm;have HR9:=Ad ((HPS.out.2 r9 hmem9).below HBZ7.out);have hl9:=HPL.out r9 hmem9;have HCM:=Ad (fun W (h:Below W9.heap.size W9 W)=>show Calls Tryz.prog 12 #[.agg #[.slice r9.A r9.n r9.c,.bool r9.s,.slice r9.B r9.m r9.d,.bool r9.f],.agg #[.slice r.A r.n r.c,.bool r.s,.slice r.B r.m r.d,.bool r.f]] W (fun e w'=>e=.returned (.int .i64 (-1))/\Below W.heap.size W w') from by have h3:=DV (.agg #[.slice r9.A r9.n r9.c,.bool r9.s,.slice r9.B r9.m r9.d,.bool r9.f]) (.agg #[.slice r.A r.n r.c,.bool r.s,.slice r.B r.m r.d,.bool r.f]) r9.L r.L r9.K r.K r9.f r.f (12+3*20+1+3*20) W ⟨_,_,_,_,_,_,_,rfl,(HR9.out.below h).in_⟩ ⟨_,_,_,_,_,_,_,rfl,(HR7.out.below h).in_⟩ (by omega) (by omega) (by decide);rw[show Ml r9.L r.L r9.K r.K r9.f r.f=-1 from HC9.out]at h3;exact h3)
               have SOF:=Ad (show ∀W,Below W9.heap.size W9 W->(W.cell? ⟨gx,0,none⟩=some (.slice r.A r.n r.c)/\W.cell? ⟨gx,1,none⟩=some (.bool r.s)/\W.cell? ⟨gx,2,none⟩=some (.slice r.B r.m r.d)/\W.cell? ⟨gx,3,none⟩=some (.bool r.f)/\W.cell? ⟨b9,o9+p'*4,none⟩=some (.slice r9.A r9.n r9.c)/\W.cell? ⟨b9,o9+p'*4+1,none⟩=some (.bool r9.s)/\W.cell? ⟨b9,o9+p'*4+2,none⟩=some (.slice r9.B r9.m r9.d)/\W.cell? ⟨b9,o9+p'*4+3,none⟩=some (.bool r9.f)) from fun W h=>⟨(X15.out.next h).r0,(X15.out.next h).r1,(X15.out.next h).r2,(X15.out.next h).r3,(Ep h d0).trans d0,(Ep h d1).trans d1,(Ep h d2).trans d2,(Ep h d3).trans d3⟩)
               clear d0 d1 d2 d3 hA9 hr9 hmem9 hcm
               refine Bg (by kernel_rfl) (by kernel_rfl) (by kernel_rfl) (fun w w'=>Below w.heap.size w w') (fun j v w=>match j with|0=>v=.int .i64 ((p'+1:Nat):Int)|1=>v=.bool true|2=>v=.bool true|3=>v=.slice (some ⟨b9,o9,none⟩) m ct|4=>v=.int .i64 ((p'+1:Nat):Int)|5=>v=.int .i64 p'|6=>v=.pointer (some ⟨b9,o9+p'*4,none⟩)|7=>v=.agg #[.slice r9.A r9.n r9.c,.bool r9.s,.slice r9.B r9.m r9.d,.bool r9.f]|8=>v=.agg #[.slice r.A r.n r.c,.bool r.s,.slice r.B r.m r.d,.bool r.f]|9=>v=.int .i64 (-1)|10=>v=.bool false|11=>v=.bool false|_=>True) (fun _ _ w=>Below W9.heap.size W9 w) ?_ (fun _=>Ak W9 1) ?_ ?_
               · intro j v w w' hT h;match j,h with
                 |0,h=>exact h
                 |1,h=>exact h
                 |2,h=>exact h
                 |3,h=>exact h
                 |4,h=>exact h
                 |5,h=>exact h
                 |6,h=>exact h
                 |7,h=>exact h
                 |8,h=>exact h
                 |9,h=>exact h
                 |10,h=>exact h
                 |11,h=>exact h
                 |j+12,h=>trivial
               · refine ⟨?_,?_,?_,?_,?_,?_,?_,?_,?_,?_,?_,?_,trivial⟩
                 · intro listed σ w a hin hout hl hc hp hG hF;refine Ac.none rfl ?_;have e14:a.tmps.getD 14 undef=.int .i64 ((p'+1:Nat):Int):=hout 14 (Af (by kernel_rfl));refine Does.val (.int .i64 ((p'+1:Nat):Int)) (w':=w) ?_ ⟨Below.refl _ _,rfl,hG⟩;simp only[Array.getD_eq_getD_getElem?]at e14;go_simp
                 · intro listed σ w a hin hout hl hc hp hG hF;refine Ac.none rfl ?_;have e100:a.tmps.getD 100 undef=.int .i64 ((p'+1:Nat):Int):=(hin 0 100 rfl (hp ⟨0,.data⟩ (by simp) rfl)).trans (hF 0 (hp ⟨0,.data⟩ (by simp) rfl));refine Does.val (.bool true) (w':=w) ?_ ⟨Below.refl _ _,rfl,hG⟩;simp only[Array.getD_eq_getD_getElem?]at e100;go_simp
                 · intro listed σ w a hin hout hl hc hp hG hF;refine Ac.none rfl ?_;have e101:a.tmps.getD 101 undef=.bool true:=(hin 1 101 rfl (hp ⟨1,.data⟩ (by simp) rfl)).trans (hF 1 (hp ⟨1,.data⟩ (by simp) rfl));refine Does.val (.bool true) (w':=w) ?_ ⟨Below.refl _ _,rfl,hG⟩;simp only[Array.getD_eq_getD_getElem?]at e101;go_simp
                 · intro listed σ w a hin hout hl hc hp hG hF;refine Ac.some (d:=102) (b:=true) rfl rfl ((hin 2 102 rfl (hp ⟨2,.guard⟩ (by simp) rfl)).trans (hF 2 (hp ⟨2,.guard⟩ (by simp) rfl))) ?_;refine Or.inl ⟨rfl,?_⟩;have e11:a.tmps.getD 11 undef=.slice (some ⟨b9,o9,none⟩) m ct:=hout 11 (Af (by kernel_rfl));refine Does.val (.slice (some ⟨b9,o9,none⟩) m ct) (w':=w) ?_ ⟨Below.refl _ _,rfl,hG⟩;simp only[Array.getD_eq_getD_getElem?]at e11;go_simp
                 · intro listed σ w a hin hout hl hc hp hG hF;refine Ac.some (d:=102) (b:=true) rfl rfl ((hin 2 102 rfl (hp ⟨2,.guard⟩ (by simp) rfl)).trans (hF 2 (hp ⟨2,.guard⟩ (by simp) rfl))) ?_;refine Or.inl ⟨rfl,?_⟩;have e14:a.tmps.getD 14 undef=.int .i64 ((p'+1:Nat):Int):=hout 14 (Af (by kernel_rfl));refine Does.val (.int .i64 ((p'+1:Nat):Int)) (w':=w) ?_ ⟨Below.refl _ _,rfl,hG⟩;simp only[Array.getD_eq_getD_getElem?]at e14;go_simp
                 · intro listed σ w a hin hout hl hc hp hG hF;refine Ac.some (d:=102) (b:=true) rfl rfl ((hin 2 102 rfl (hp ⟨2,.guard⟩ (by simp) rfl)).trans (hF 2 (hp ⟨2,.guard⟩ (by simp) rfl))) ?_;refine Or.inl ⟨rfl,?_⟩;have e104:a.tmps.getD 104 undef=.int .i64 ((p'+1:Nat):Int):=(hin 4 104 rfl (hp ⟨4,.data⟩ (by simp) rfl)).trans (hF 4 (hp ⟨4,.data⟩ (by simp) rfl));refine Does.val (.int .i64 p') (w':=w) ?_ ⟨Below.refl _ _,rfl,hG⟩
                   simp only[Array.getD_eq_getD_getElem?]at e104;go_simp;exact IntWalk.i64_in _ (by omega)
                 · intro listed σ w a hin hout hl hc hp hG hF;refine Ac.some (d:=102) (b:=true) rfl rfl ((hin 2 102 rfl (hp ⟨2,.guard⟩ (by simp) rfl)).trans (hF 2 (hp ⟨2,.guard⟩ (by simp) rfl))) ?_;refine Or.inl ⟨rfl,?_⟩;have e103:a.tmps.getD 103 undef=.slice (some ⟨b9,o9,none⟩) m ct:=(hin 3 103 rfl (hp ⟨3,.data⟩ (by simp) rfl)).trans (hF 3 (hp ⟨3,.data⟩ (by simp) rfl))
                   have e105:a.tmps.getD 105 undef=.int .i64 p':=(hin 5 105 rfl (hp ⟨5,.data⟩ (by simp) rfl)).trans (hF 5 (hp ⟨5,.data⟩ (by simp) rfl));refine Does.val (.pointer (some ⟨b9,o9+p'*4,none⟩)) (w':=w) ?_ ⟨Below.refl _ _,rfl,hG⟩;simp only[Array.getD_eq_getD_getElem?]at e103 e105;go_simp;(try (intro hh;exfalso;omega))
                 · intro listed σ w a hin hout hl hc hp hG hF;refine Ac.some (d:=102) (b:=true) rfl rfl ((hin 2 102 rfl (hp ⟨2,.guard⟩ (by simp) rfl)).trans (hF 2 (hp ⟨2,.guard⟩ (by simp) rfl))) ?_;refine Or.inl ⟨rfl,?_⟩;have e106:a.tmps.getD 106 undef=.pointer (some ⟨b9,o9+p'*4,none⟩):=(hin 6 106 rfl (hp ⟨6,.data⟩ (by simp) rfl)).trans (hF 6 (hp ⟨6,.data⟩ (by simp) rfl));have CC:=SOF.out w hG;obtain ⟨C0,C1,C2,C3,D0,D1,D2,D3⟩:=CC
                   refine Does.val (.agg #[.slice r9.A r9.n r9.c,.bool r9.s,.slice r9.B r9.m r9.d,.bool r9.f]) (w':=w) ?_ ⟨Below.refl _ _,rfl,hG⟩;go_simp
                 · intro listed σ w a hin hout hl hc hp hG hF;refine Ac.some (d:=102) (b:=true) rfl rfl ((hin 2 102 rfl (hp ⟨2,.guard⟩ (by simp) rfl)).trans (hF 2 (hp ⟨2,.guard⟩ (by simp) rfl))) ?_;refine Or.inl ⟨rfl,?_⟩;have e15:a.tmps.getD 15 undef=.pointer (some ⟨gx,0,none⟩):=hout 15 (Af (by kernel_rfl));have CC:=SOF.out w hG;obtain ⟨C0,C1,C2,C3,D0,D1,D2,D3⟩:=CC
                   refine Does.val (.agg #[.slice r.A r.n r.c,.bool r.s,.slice r.B r.m r.d,.bool r.f]) (w':=w) ?_ ⟨Below.refl _ _,rfl,hG⟩;go_simp
                 · intro listed σ w a hin hout hl hc hp hG hF;refine Ac.some (d:=102) (b:=true) rfl rfl ((hin 2 102 rfl (hp ⟨2,.guard⟩ (by simp) rfl)).trans (hF 2 (hp ⟨2,.guard⟩ (by simp) rfl))) ?_;refine Or.inl ⟨rfl,?_⟩;have e107:a.tmps.getD 107 undef=.agg #[.slice r9.A r9.n r9.c,.bool r9.s,.slice r9.B r9.m r9.d,.bool r9.f]:=(hin 7 107 rfl (hp ⟨7,.data⟩ (by simp) rfl)).trans (hF 7 (hp ⟨7,.data⟩ (by simp) rfl))
                   have e108:a.tmps.getD 108 undef=.agg #[.slice r.A r.n r.c,.bool r.s,.slice r.B r.m r.d,.bool r.f]:=(hin 8 108 rfl (hp ⟨8,.data⟩ (by simp) rfl)).trans (hF 8 (hp ⟨8,.data⟩ (by simp) rfl));refine Does.call ?_ (HCM.out w hG) ?_
                   · go_simp
                   · rintro e w' ⟨rfl,hb⟩;exact ⟨_,rfl,hb,rfl,hG.next hb⟩
                 · intro listed σ w a hin hout hl hc hp hG hF;refine Ac.some (d:=102) (b:=true) rfl rfl ((hin 2 102 rfl (hp ⟨2,.guard⟩ (by simp) rfl)).trans (hF 2 (hp ⟨2,.guard⟩ (by simp) rfl))) ?_;refine Or.inl ⟨rfl,?_⟩;have e109:a.tmps.getD 109 undef=.int .i64 (-1):=(hin 9 109 rfl (hp ⟨9,.data⟩ (by simp) rfl)).trans (hF 9 (hp ⟨9,.data⟩ (by simp) rfl));refine Does.val (.bool false) (w':=w) ?_ ⟨Below.refl _ _,rfl,hG⟩
                   simp only[Array.getD_eq_getD_getElem?]at e109;go_simp;(try decide)
                 · intro listed σ w a hin hout hl hc hp hG hF;refine Ac.none rfl ?_;have e102:a.tmps.getD 102 undef=.bool true:=(hin 2 102 rfl (hp ⟨2,.data⟩ (by simp) rfl)).trans (hF 2 (hp ⟨2,.data⟩ (by simp) rfl));have e110:a.tmps.getD 110 undef=.bool false:=(hin 10 110 rfl (hp ⟨10,.data⟩ (by simp) rfl)).trans (hF 10 (hp ⟨10,.data⟩ (by simp) rfl));refine Does.val (.bool false) (w':=w) ?_ ⟨Below.refl _ _,rfl,hG⟩
                   simp only[Array.getD_eq_getD_getElem?]at e102 e110;go_simp
               · intro listed σ W8 hall hG hF;rw[show mid _ σ listed _=(Act.put (Act.put (Act.put (Act.put (Act.put (Act.put (Act.put (Act.put (Act.put (Act.put (Act.put (Act.put _ (some 100) (σ 0)) (some 101) (σ 1)) (some 102) (σ 2)) (some 103) (σ 3)) (some 104) (σ 4)) (some 105) (σ 5)) (some 106) (σ 6)) (some 107) (σ 7)) (some 108) (σ 8)) (some 109) (σ 9)) (some 110) (σ 10)) (some 111) (σ 11)) from (Bv hall).trans rfl];generalize σ 0=tt0;generalize σ 1=tt1
                 generalize σ 2=tt2;generalize σ 3=tt3;generalize σ 4=tt4;generalize σ 5=tt5;generalize σ 6=tt6;generalize σ 7=tt7;generalize σ 8=tt8;generalize σ 9=tt9;generalize σ 10=tt10;rw[show σ 11=.bool false from hF 11 (by decide)];simp only[Act.put,List.setIfInBounds_toArray,List.set_cons_zero,List.set_cons_succ];have TG:=hG;clear hF hG hall;clear σ;have HF:=Ad (HBZ7.out.next TG);clear TG SOF;go_wp2_with fail;go_roundw
                 case rel=>exact ⟨p'+1+1,_,by omega,by go_num,rfl,HNY.out,HF.out⟩
                 case measure=>simp[intOf]<;>omega
         · have e0:p=m:=(by omega);subst e0;have g1:¬(p:Int)<(p:Int):=(by omega);have hnb:nb=ab:=by
             rw[HNB.out,HA.out,List.take_of_length_le (by rw[HML.out];exact Nat.le_refl _),Bool.eq_iff_iff,List.all_eq_true,List.all_eq_true];exact PN HTO.out
           subst hnb;have g2:(p:Int)<=(q:Int):=(by omega);have HF:=Ad (T2.out.next (HBT.out.next HBZ.out));clear HNB HBZ;cases nb
           all_goals
             go_wp2_with fail;go_ret
             exact ⟨rfl,HF.out⟩
end
end Go.Proofs.YtemfjdedjcjegaaGreatDoor
