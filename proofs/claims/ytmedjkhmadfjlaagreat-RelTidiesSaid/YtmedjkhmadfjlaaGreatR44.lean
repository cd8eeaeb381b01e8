/- Texts of one seat, put together: R4TidyD. -/
import Derived.Test.YtmedjkhmadfjlaaGreatR43
set_option linter.unusedVariables false
set_option linter.unusedSimpArgs false
set_option maxRecDepth 100000
set_option maxHeartbeats 16000000
namespace Go.Proofs.YtmedjkhmadfjlaaGreat
section
open Go.RowKit
open Tm
theorem OR (A:Option Addr) (n c k M:Nat) (rs:List RV) (w0:World) (h:EX w0 A n rs k) (hn:n<=100) (hM:M<=1000) (hl:∀r∈rs,r.L.length<=M) (hk:k<=1000) :
    Calls Tryz.prog 8 #[.slice A n c] w0 (Jk (rs.map RV.rd) (k+3*M+2+4*M+5) M w0):=by
  have HR:=Ac h;have HLE:=Ac hl;have y0:=Af w0 (.cells #[] 42);have HS:=Ac (show NE w0 rs (k+3*M+2) M 0 (.slice (some ⟨w0.heap.size,0,none⟩) 0 0) (w0.alloc (.cells #[] 42)) from ⟨[],BR.lit0 _ _ (Nat.le_refl _) FD.nil,rfl,(fun r hr=>by cases hr),(fun r hr=>by cases hr),y0,Nat.le_refl _⟩);clear h hl y0;go_enter Tryz.func8,Tryz.ntmps8;go_wp2_with fail;go_loopw [4,5] (fun tv i wr=>∃q:Nat,q<=n/\i=.int .i64 q/\Hid (NE w0 rs (k+3*M+2) M q tv wr)) (fun _ i _=>n-(intOf i).toNat)
  case atStart=>exact ⟨0,Nat.zero_le _,rfl,HS⟩
  case round=>
    obtain ⟨q,hq,rfl,HT⟩:=hrel;by_cases hqn:q<n
    · have g1:(q:Int)<(n:Int):=(by omega);obtain ⟨ts,a1,a2,a3,a4,a5,a6⟩:=HT.out;obtain ⟨Ab,cb,hbv,-,-,-⟩:=a1.lrow.len;subst hbv;generalize hpl:ts.length=p at *;have HPL:=Ac hpl;clear hpl;obtain ⟨bb,o,r,hA,hr,c0,c1,c2,c3⟩:=(HR.out.1.below a5).at_ hqn;subst hA;have HRQ:=Ac hr;have hmem:=List.mem_of_getElem? hr;have hti:=(HR.out.2 r hmem).below a5;have hrl:=HLE.out r hmem;have HA1:=Ac a1;have HA2:=Ac a2;have HA3:=Ac a3;have HA4:=Ac a4;have HA5:=Ac a5
      have hT:=Iz (.agg #[.slice r.A r.n r.c,.bool r.s,.slice r.B r.m r.d,.bool r.f]) r.L r.K r.f k wr ⟨_,_,_,_,_,_,_,rfl,hti⟩ (by omega) (by omega);clear hr hmem hti a1 a2 a3 a4 a5;go_wp2_with fail;refine hT.mono ?_;rintro e w2 ⟨v2,rfl,⟨A2,n2,cc2,s2,B2,m2,d2,rfl,t2⟩,b2⟩;have HB2:=Ac b2;have hkn:=Nu r.rd;have HT2:=Ac t2;clear hT b2 t2 c0 c1 c2 c3;rw[show AR r.L r.K r.f=tk r.rd from rfl]
      have HX7:=Ac (AK.new 42 w2 #[.slice A2 n2 cc2,.bool s2,.slice B2 m2 d2,.bool (FG r.L r.K r.f)]);have HY3:=Ac (Af w2 (.cells #[.slice A2 n2 cc2,.bool s2,.slice B2 m2 d2,.bool (FG r.L r.K r.f)] 42));rcases hkn with h0|h0|h0
      · rw[h0];have htl:=Jj r.L r.K r.f;have z0:=HX7.out.r0;have z1:=HX7.out.r1;have z2:=HX7.out.r2;have z3:=HX7.out.r3;have HTL:=Ac htl;have H0:=Ac h0;clear htl h0;generalize hW:(w2.alloc (.cells #[.slice A2 n2 cc2,.bool s2,.slice B2 m2 d2,.bool (FG r.L r.K r.f)] 42))=W7 at *;have HROW:=Ac (((HA1.out.below HB2.out).below HY3.out).below (Af W7 (.cells #[.slice A2 n2 cc2,.bool s2,.slice B2 m2 d2,.bool (FG r.L r.K r.f)] 42)))
        have HNW:=Ac (AK.new 42 W7 #[.slice A2 n2 cc2,.bool s2,.slice B2 m2 d2,.bool (FG r.L r.K r.f)]);have HY8:=Ac (Af W7 (.cells #[.slice A2 n2 cc2,.bool s2,.slice B2 m2 d2,.bool (FG r.L r.K r.f)] 42));have HB8:=Ac (((HA5.out.next HB2.out).next HY3.out).next HY8.out);have HBS:=Ac (show w0.heap.size<=(W7.alloc (.cells #[.slice A2 n2 cc2,.bool s2,.slice B2 m2 d2,.bool (FG r.L r.K r.f)] 42)).heap.size from HB8.out.size)
        have HJ:=Ac (fun (v':Value) (w':World) (h1:LN 42 4 w' w0.heap.size v' (p+1) (AL (ts++[(⟨A2,n2,cc2,s2,B2,m2,d2,FG r.L r.K r.f,K9 r.L r.K r.f,Mk r.L r.K r.f⟩:RV)]))) (h2:Tn (Value.slice Ab p cb).ownBlock (W7.alloc (.cells #[.slice A2 n2 cc2,.bool s2,.slice B2 m2 d2,.bool (FG r.L r.K r.f)] 42)) w')=>Vo (t:=(⟨A2,n2,cc2,s2,B2,m2,d2,FG r.L r.K r.f,K9 r.L r.K r.f,Mk r.L r.K r.f⟩:RV)) (k:=k+3*M+2) (M:=M) HROW.out HA2.out HA3.out (fun x hx=>⟨(((HA4.out x hx).1.below HB2.out).below HY3.out).below HY8.out,(HA4.out x hx).2⟩) HB8.out HPL.out a6 HRQ.out H0.out (((HT2.out.below HY3.out).below HY8.out).mono (by omega)) rfl (Nat.le_trans HTL.out hrl) h1 h2)
        go_wp2_with (at_builtin;refine Bm rfl _ _ rfl rfl w0.heap.size _ _ ts rfl HROW.out ⟨W7.heap.size,0,none⟩ 1 1 rfl [(⟨A2,n2,cc2,s2,B2,m2,d2,FG r.L r.K r.f,K9 r.L r.K r.f,Mk r.L r.K r.f⟩:RV)] rfl (fun jj u hu=>by rw[addr_add,Nat.zero_add];exact HNW.out.cell jj u (by simpa[AL,RV.cells] using hu)) (by omega) (by omega) HBS.out ?_;intro v' w' h1 h2;have HE:=Ac (HJ.out v' w' h1 h2);clear h1 h2);go_roundw
        case rel=>exact ⟨q+1,by omega,by go_num,HE⟩
        case measure=>simp[intOf]<;>omega
      · rw[h0];have HE:=Ac (Uq HT.out HRQ.out h0 (HB2.out.next HY3.out));clear h0;go_wp2_with fail;go_roundw
        case rel=>exact ⟨q+1,by omega,by go_num,HE⟩
        case measure=>simp[intOf]<;>omega
      · rw[h0];have HE:=Ac (show Jk (rs.map RV.rd) (k+3*M+2+4*M+5) M w0 (.returned (.tuple #[.slice none 0 0,.bool false])) (w2.alloc (.cells #[.slice A2 n2 cc2,.bool s2,.slice B2 m2 d2,.bool (FG r.L r.K r.f)] 42)) from ⟨(HA5.out.next HB2.out).next HY3.out,.inl ⟨rfl,.inl ⟨r.rd,List.mem_map.2 ⟨r,List.mem_of_getElem? HRQ.out,rfl⟩,h0⟩⟩⟩);clear h0;go_wp2_with fail;go_ret2
        exact HE.out
    · have e0:q=n:=(by omega);subst e0;have g1:¬(q:Int)<(q:Int):=(by omega);obtain ⟨ts,a1,a2,a3,a4,a5,a6⟩:=HT.out;have hrn:rs.length=q:=HR.out.1.1;have htk:rs.take q=rs:=List.take_of_length_le (by omega);rw[htk]at a2 a3;obtain ⟨Ab,cb,hbv,hbc,hbc2,-⟩:=a1.lrow.len;subst hbv;have HTS:=Ac (show BD wr Ab ts.length ts (k+3*M+2) from ⟨BR.rels a1 rfl,fun t hm=>(a4 t hm).1⟩);have HTL:=Ac (fun t hm=>(a4 t hm).2);have HA2:=Ac a2;have HA3:=Ac a3;have HA5:=Ac a5
      have HTG:=Ac (show ∀t∈ts,QT t.rd from fun t hm=>Kn t.rd (by rw[<-a2];exact List.mem_map.2 ⟨t,hm,rfl⟩));have y0:=Af wr (.cells #[] 42);have HS2:=Ac (show IE wr ts (k+3*M+2+4*M+5) M 0 (.slice (some ⟨wr.heap.size,0,none⟩) 0 0) (wr.alloc (.cells #[] 42)) from ⟨[],some ⟨wr.heap.size,0,none⟩,0,rfl,⟨⟨rfl,fun h=>absurd h (by decide)⟩,fun r hm=>by cases hm⟩,rfl,(fun p hp=>by cases hp),y0,Nat.le_refl _⟩);generalize hpl:ts.length=p at *;have HPL:=Ac hpl
      clear a1 a2 a3 a4 a5 y0 hpl htk HT HS;go_upto_region 10 with fail;generalize wr=w3 at *;obtain ⟨KK,hKK⟩:∃KK,KK=k+3*M+2:=⟨_,rfl⟩;have hK9:KK<=10000:=(by omega);rw[<-hKK]at HTS HS2;rw[<-hKK];go_wp2_with fail;go_loopw [8,9] (fun ov i wz=>∃j:Nat,j<=p/\i=.int .i64 j/\Hid (IE w3 ts (KK+4*M+5) M j ov wz)) (fun _ i _=>p-(intOf i).toNat)
      case atStart=>exact ⟨0,Nat.zero_le _,rfl,HS2⟩
      case round=>
        obtain ⟨j,hj,rfl,HT⟩:=hrel;generalize wr=wz at *;by_cases hjp:j<p
        · have g1:(j:Int)<(p:Int):=(by omega);obtain ⟨os,Ao,co,rfl,o1,o2,o3,o4,o5⟩:=HT.out;obtain ⟨bt,ot,a,hA,ha,c0,c1,c2,c3⟩:=(HTS.out.1.below o4).at_ hjp;subst hA;have hma:=List.mem_of_getElem? ha;have HAQ:=Ac ha;have HAT:=Ac (HTS.out.2 a hma);have HAG:=Ac (HTG.out a hma);have hal:=HTL.out a hma;have HO1:=Ac o1;have HO2:=Ac o2;have HO3:=Ac o3;have HBA:=Ac (AK.new 42 wz #[.slice a.A a.n a.c,.bool a.s,.slice a.B a.m a.d,.bool a.f])
          have y5:=Af wz (.cells #[.slice a.A a.n a.c,.bool a.s,.slice a.B a.m a.d,.bool a.f] 42);have HW5:=Ac (o4.next y5);have HWZ:=Ac y5;go_wp2_with fail;obtain ⟨w5,hw5⟩:∃w5,w5=(wz.alloc (.cells #[.slice a.A a.n a.c,.bool a.s,.slice a.B a.m a.d,.bool a.f] 42)):=⟨_,rfl⟩;have hg5:w5.heap.size=wz.heap.size+1:=(by rw[hw5];simp);rw[<-hw5]at HBA HW5 HWZ;rw[<-hw5];clear hw5 c0 c1 c2 c3 ha hma o1 o2 o3 o4 y5 HT
          have h30:G9 w5 ts a (wz.heap.size+1) (wz.heap.size+1+1) KK j 0 true false false ((w5.alloc (.cells #[.bool false,.slice none 0 0] 38)).alloc (.cells #[.bool false,.slice none 0 0] 38)):=
            ⟨by rw[Nat.zero_min];rfl,rfl,rfl,false,none,0,0,false,none,0,0,(AH.newAt w5 _ hg5.symm).alloc _,AH.newAt _ _ (by rw[<-hg5];simp),(fun x hx=>by cases hx),(fun x hx=>by cases hx),(Af w5 _).next (Af _ _)⟩
          have H30:=Ac h30;clear h30;go_loopw [11,14,15,16] (fun fv frv tv i wk=>∃(q:Nat) (fst fr tb:Bool),q<=p/\i=.int .i64 q/\fv=.bool fst/\frv=.bool fr/\tv=.bool tb/\Hid (G9 w5 ts a (wz.heap.size+1) (wz.heap.size+1+1) KK j q fst fr tb wk)) (fun _ _ _ i _=>p-(intOf i).toNat)
          case atStart=>exact ⟨0,true,false,false,Nat.zero_le _,rfl,rfl,rfl,rfl,H30⟩
          case round=>
            obtain ⟨q2,fst,fr,tb,hq2,rfl,rfl,rfl,rfl,H3⟩:=hrel;by_cases hqp:q2<p
            · as_aux_lemma=>
              have g2:(q2:Int)<(p:Int):=(by omega);have hI:=H3.out.2.2.2;have hB5:=hI.old;obtain ⟨b,hb⟩:∃b,ts[q2]?=some b:=⟨_,List.getElem?_eq_getElem (by rw[HPL.out];exact hqp)⟩;have hmb:=List.mem_of_getElem? hb;obtain ⟨d0,d1,d2,d3⟩:=(HTS.out.1.below (HW5.out.next hB5)).cells4 hb;have xa:=HBA.out.next hB5;have y8:=Af wr (.cells #[.slice b.A b.n b.c,.bool b.s,.slice b.B b.m b.d,.bool b.f] 42);have x0:=(xa.next y8).r0;have x1:=(xa.next y8).r1
              have x2:=(xa.next y8).r2;have xb:=AK.new 42 wr #[.slice b.A b.n b.c,.bool b.s,.slice b.B b.m b.d,.bool b.f];have z0:=xb.r0;have z1:=xb.r1;have z2:=xb.r2;have HBB:=Ac xb;have HTB:=Ac (((HTS.out.2 b hmb).below (HW5.out.next hB5)).below y8);have hta:=(HAT.out.below (HW5.out.next hB5)).below y8;have hbl:=HTL.out b hmb;have hsp:=Vn b.trm a.trm b.L a.L b.K a.K KK KK _ HTB.out hta (by omega) (by omega) HAG.out.1 (by omega);unfold SL RV.trm at hsp
              have HI8:=Ac (hI.next y8);have HLT:=Ac hI.lts;have HY8:=Ac y8;have HBQ:=Ac hb;clear hI hB5 hb hmb xa xb y8 hta;go_wp2_with fail;refine hsp.mono ?_;rintro e w8 ⟨rfl,b8⟩;clear hsp x0 x1 x2 d0 d1 d2 d3 z0 z1 z2;have HI9:=Ac (HI8.out.next b8);have HBB9:=Ac (HBB.out.next b8);have HTB9:=Ac (HTB.out.below b8);have HBL:=Ac (HY8.out.next b8);have hgb8:wr.heap.size<w8.heap.size:=(by have:=HBB9.out.lt;omega);clear b8 HBB HI8 HTB HY8
              rcases Gt b.L a.L with ⟨h0,-⟩|⟨h0,-,-⟩|⟨h0,-,-⟩
              · skip
                have HS0:=Ac h0;rw[h0];clear h0;obtain ⟨f2,hf2⟩:∃f2,f2=(if q2<j then false else fst):=⟨_,rfl⟩;have HF2:=Ac hf2;clear hf2;go_upto_if 78 with fail;go_cut [11] (fun fv wx=>fv=.bool f2/\wx=w8)
                case first=>
                  by_cases hqj:q2<j
                  · have g3:(q2:Int)<(j:Int):=(by omega);have hfe:f2=false:=(by rw[HF2.out,if_pos hqj]);have HFE:=Ac hfe;clear hfe;go_wp2_with fail;go_meet
                    case rel=>exact ⟨by rw[HFE.out],rfl⟩
                  · have g3:¬(q2:Int)<(j:Int):=(by omega);have hfe:f2=fst:=(by rw[HF2.out,if_neg hqj]);have HFE:=Ac hfe;clear hfe;go_wp2_with fail;go_meet
                    case rel=>exact ⟨by rw[HFE.out],rfl⟩
                case rest=>
                  obtain ⟨hc1,hc2⟩:=hcut;subst hc1;subst hc2;have z0:=HBB9.out.r0;have z1:=HBB9.out.r1;have z2:=HBB9.out.r2;have z3:=HBB9.out.r3;have hng:=Of (.agg #[.bool b.s,.slice b.B b.m b.d]) b.K KK _ HTB9.out.knum.in_ (by omega);go_wp2_with fail;refine hng.mono ?_;rintro e w10 ⟨v10,rfl,u10,b10⟩;obtain ⟨s10,A10,n10,c10,rfl⟩:=u10.form;have hg10:wr.heap.size<w10.heap.size:=(by have:=b10.size;omega)
                  have y11:=Af w10 (.cells #[.bool s10,.slice A10 n10 c10] 38);have HI11:=Ac ((HI9.out.next b10).next y11);have HBB11:=Ac ((HBB9.out.next b10).next y11);have HK11:=Ac (AH.new w10 #[.bool s10,.slice A10 n10 c10]);have HZ11:=Ac (u10.below y11);have HTB11:=Ac ((HTB9.out.below b10).below y11);clear hng u10 b10 y11 z0 z1 z2 z3;obtain ⟨hl1,hl2⟩:=HLT.out;go_upto_region 29 with fail
                  have HAt:=Ac (show H7 w10.heap.size KK (CG a.rd b.rd) _ from ⟨_,_,_,_,HK11.out,(show CG a.rd b.rd=-b.K from if_neg (by rw[show E6 b.rd.1 a.rd.1=1 from HS0.out];decide))▸HZ11.out⟩);have HIS:=HI11;have HBB13:=HBB11;obtain ⟨W13,hW13⟩:∃W13,W13=(w10.alloc (.cells #[.bool s10,.slice A10 n10 c10] 38)):=⟨_,rfl⟩;rw[<-hW13]at HAt HIS HBB13;rw[<-hW13];clear hW13;clear HBB9 HBB11 HI9 HI11 HTB9 HTB11
                  obtain ⟨lo,hlo⟩:∃lo,lo=(Cb ((ts.map RV.rd).take q2) a.rd).lo:=⟨_,rfl⟩;obtain ⟨hi,hhi⟩:∃hi,hi=(Cb ((ts.map RV.rd).take q2) a.rd).hi:=⟨_,rfl⟩;rw[<-hlo,<-hhi]at HIS;have HFlo:=Ac (show fr=lo.isSome from by rw[hlo];exact H3.out.2.1);have HFhi:=Ac (show tb=hi.isSome from by rw[hhi];exact H3.out.2.2.1);have HLO:=Ac hlo;have HHI:=Ac hhi;clear hlo hhi;have HSB:=Ac (show E6 b.rd.1 a.rd.1=1 from HS0.out);go_upto_region 29 with fail
                  go_cut [104] (fun fv wx=>∃x9:Bool,fv=.bool x9/\Hid ((x9=true->GV a.rd b.rd lo=some (CG a.rd b.rd))/\(x9=false->GV a.rd b.rd lo=lo))/\Hid (Jl w5 (wz.heap.size+1) (wz.heap.size+1+1) KK lo hi wx)/\Hid (H7 w10.heap.size KK (CG a.rd b.rd) wx)/\Hid (AK 42 wx wr.heap.size #[.slice b.A b.n b.c,.bool b.s,.slice b.B b.m b.d,.bool b.f]))
                  case first=>
                    obtain ⟨sa,Aa,na,ca,ka,za⟩:=HAt.out;obtain ⟨sl,Al,nl,cl,sh,Ah,nh,ch,kl,kh,zl,zh,-⟩:=HIS.out;have c0:=ka.c0;have c1:=ka.c1;have c2:=kl.c0;have c3:=kl.c1;have c4:=kh.c0;have c5:=kh.c1;have c6:=HBB13.out.r3;rcases (show b.f=false\/b.f=true from by cases b.f<;>simp) with hbf|hbf
                    · rw[hbf]at c6;have HEQ:=Ac (show b.rd.2.2=false from hbf);cases lo with
                      |none=>
                        have hfe:fr=false:=(by rw[HFlo.out];rfl);subst hfe;have HV:=Ac (show GV a.rd b.rd (none:Option Int)=some (CG a.rd b.rd) from if_pos (by rw[HSB.out,HEQ.out];decide));go_wp2_with fail;go_meet
                        case rel=>exact ⟨true,rfl,Ac (M0 HV.out),HIS,HAt,HBB13⟩
                      |some l=>
                        have hfe:fr=true:=(by rw[HFlo.out];rfl);subst hfe;have hcm:=CH _ _ (CG a.rd b.rd) l KK _ za.in_ (zl l rfl).in_ (by omega);unfold BE at hcm;have HV:=Ac (show GV a.rd b.rd (some l)=if l<CG a.rd b.rd then some (CG a.rd b.rd) else some l from if_pos (by rw[HSB.out,HEQ.out];decide));rcases Ck (CG a.rd b.rd) l with ⟨hs,hl9⟩|⟨hs,hl9⟩|⟨hs,hl9⟩
                        · rw[hs]at hcm;rw[if_pos hl9]at HV;go_wp2_with fail;refine hcm.mono ?_;rintro e w14 ⟨rfl,b14⟩;have HIS14:=Ac (HIS.out.next b14);have HAt14:=Ac (HAt.out.next b14);have HBB14:=Ac (HBB13.out.next b14);clear hcm hs hl9 b14;go_wp2_with fail;go_meet
                          case rel=>exact ⟨true,rfl,Ac (M0 HV.out),HIS14,HAt14,HBB14⟩
                        · rw[hs]at hcm;rw[if_neg (by omega)]at HV;go_wp2_with fail;refine hcm.mono ?_;rintro e w14 ⟨rfl,b14⟩;have HIS14:=Ac (HIS.out.next b14);have HAt14:=Ac (HAt.out.next b14);have HBB14:=Ac (HBB13.out.next b14);clear hcm hs hl9 b14;go_wp2_with fail;go_meet
                          case rel=>exact ⟨false,rfl,Ac (KD HV.out),HIS14,HAt14,HBB14⟩
                        · rw[hs]at hcm;rw[if_neg (by omega)]at HV;go_wp2_with fail;refine hcm.mono ?_;rintro e w14 ⟨rfl,b14⟩;have HIS14:=Ac (HIS.out.next b14);have HAt14:=Ac (HAt.out.next b14);have HBB14:=Ac (HBB13.out.next b14);clear hcm hs hl9 b14;go_wp2_with fail;go_meet
                          case rel=>exact ⟨false,rfl,Ac (KD HV.out),HIS14,HAt14,HBB14⟩
                    · rw[hbf]at c6;have HEQ:=Ac (show b.rd.2.2=true from hbf);cases lo with
                      |none=>
                        have hfe:fr=false:=(by rw[HFlo.out];rfl);subst hfe;have HV:=Ac (show GV a.rd b.rd (none:Option Int)=some (CG a.rd b.rd) from if_pos (by rw[HSB.out,HEQ.out];decide));go_wp2_with fail;go_meet
                        case rel=>exact ⟨true,rfl,Ac (M0 HV.out),HIS,HAt,HBB13⟩
                      |some l=>
                        have hfe:fr=true:=(by rw[HFlo.out];rfl);subst hfe;have hcm:=CH _ _ (CG a.rd b.rd) l KK _ za.in_ (zl l rfl).in_ (by omega);unfold BE at hcm;have HV:=Ac (show GV a.rd b.rd (some l)=if l<CG a.rd b.rd then some (CG a.rd b.rd) else some l from if_pos (by rw[HSB.out,HEQ.out];decide));rcases Ck (CG a.rd b.rd) l with ⟨hs,hl9⟩|⟨hs,hl9⟩|⟨hs,hl9⟩
                        · rw[hs]at hcm;rw[if_pos hl9]at HV;go_wp2_with fail;refine hcm.mono ?_;rintro e w14 ⟨rfl,b14⟩;have HIS14:=Ac (HIS.out.next b14);have HAt14:=Ac (HAt.out.next b14);have HBB14:=Ac (HBB13.out.next b14);clear hcm hs hl9 b14;go_wp2_with fail;go_meet
                          case rel=>exact ⟨true,rfl,Ac (M0 HV.out),HIS14,HAt14,HBB14⟩
                        · rw[hs]at hcm;rw[if_neg (by omega)]at HV;go_wp2_with fail;refine hcm.mono ?_;rintro e w14 ⟨rfl,b14⟩;have HIS14:=Ac (HIS.out.next b14);have HAt14:=Ac (HAt.out.next b14);have HBB14:=Ac (HBB13.out.next b14);clear hcm hs hl9 b14;go_wp2_with fail;go_meet
                          case rel=>exact ⟨false,rfl,Ac (KD HV.out),HIS14,HAt14,HBB14⟩
                        · rw[hs]at hcm;rw[if_neg (by omega)]at HV;go_wp2_with fail;refine hcm.mono ?_;rintro e w14 ⟨rfl,b14⟩;have HIS14:=Ac (HIS.out.next b14);have HAt14:=Ac (HAt.out.next b14);have HBB14:=Ac (HBB13.out.next b14);clear hcm hs hl9 b14;go_wp2_with fail;go_meet
                          case rel=>exact ⟨false,rfl,Ac (KD HV.out),HIS14,HAt14,HBB14⟩
                  case rest=>
                    obtain ⟨x9,hc1,HX9,HIS2,HAt2,HBB2⟩:=hcut;subst hc1;clear HIS HAt HBB13;cases x9 with
                    |false=>
                      have HLW:=Ac (HX9.out.2 rfl);go_upto_region 31 with fail;have HIS:=HIS2;have HAt:=HAt2;have HBB13:=HBB2;clear HIS2 HAt2 HBB2 HX9;go_upto_region 31 with fail
                      go_cut [121] (fun fv wx=>∃x9:Bool,fv=.bool x9/\Hid ((x9=true->Cu a.rd b.rd hi=some (CG a.rd b.rd))/\(x9=false->Cu a.rd b.rd hi=hi))/\Hid (Jl w5 (wz.heap.size+1) (wz.heap.size+1+1) KK lo hi wx)/\Hid (H7 w10.heap.size KK (CG a.rd b.rd) wx)/\Hid (AK 42 wx wr.heap.size #[.slice b.A b.n b.c,.bool b.s,.slice b.B b.m b.d,.bool b.f]))
                      case first=>
                        obtain ⟨sa,Aa,na,ca,ka,za⟩:=HAt.out;obtain ⟨sl,Al,nl,cl,sh,Ah,nh,ch,kl,kh,zl,zh,-⟩:=HIS.out;have c0:=ka.c0;have c1:=ka.c1;have c2:=kl.c0;have c3:=kl.c1;have c4:=kh.c0;have c5:=kh.c1;have c6:=HBB13.out.r3;rcases (show b.f=false\/b.f=true from by cases b.f<;>simp) with hbf|hbf
                        · rw[hbf]at c6;have HEQ:=Ac (show b.rd.2.2=false from hbf);have HV:=Ac (show Cu a.rd b.rd hi=hi from if_neg (by rw[HSB.out,HEQ.out];decide));go_wp2_with fail;go_meet
                          case rel=>exact ⟨false,rfl,Ac (KD HV.out),HIS,HAt,HBB13⟩
                        · rw[hbf]at c6;have HEQ:=Ac (show b.rd.2.2=true from hbf);cases hi with
                          |none=>
                            have hfe:tb=false:=(by rw[HFhi.out];rfl);subst hfe;have HV:=Ac (show Cu a.rd b.rd (none:Option Int)=some (CG a.rd b.rd) from if_pos (by rw[HSB.out,HEQ.out];decide));go_wp2_with fail;go_meet
                            case rel=>exact ⟨true,rfl,Ac (M0 HV.out),HIS,HAt,HBB13⟩
                          |some l=>
                            have hfe:tb=true:=(by rw[HFhi.out];rfl);subst hfe;have hcm:=CH _ _ (CG a.rd b.rd) l KK _ za.in_ (zh l rfl).in_ (by omega);unfold BE at hcm;have HV:=Ac (show Cu a.rd b.rd (some l)=if CG a.rd b.rd<l then some (CG a.rd b.rd) else some l from if_pos (by rw[HSB.out,HEQ.out];decide));rcases Ck (CG a.rd b.rd) l with ⟨hs,hl9⟩|⟨hs,hl9⟩|⟨hs,hl9⟩
                            · rw[hs]at hcm;rw[if_neg (by omega)]at HV;go_wp2_with fail;refine hcm.mono ?_;rintro e w14 ⟨rfl,b14⟩;have HIS14:=Ac (HIS.out.next b14);have HAt14:=Ac (HAt.out.next b14);have HBB14:=Ac (HBB13.out.next b14);clear hcm hs hl9 b14;go_wp2_with fail;go_meet
                              case rel=>exact ⟨false,rfl,Ac (KD HV.out),HIS14,HAt14,HBB14⟩
                            · rw[hs]at hcm;rw[if_neg (by omega)]at HV;go_wp2_with fail;refine hcm.mono ?_;rintro e w14 ⟨rfl,b14⟩;have HIS14:=Ac (HIS.out.next b14);have HAt14:=Ac (HAt.out.next b14);have HBB14:=Ac (HBB13.out.next b14);clear hcm hs hl9 b14;go_wp2_with fail;go_meet
                              case rel=>exact ⟨false,rfl,Ac (KD HV.out),HIS14,HAt14,HBB14⟩
                            · rw[hs]at hcm;rw[if_pos hl9]at HV;go_wp2_with fail;refine hcm.mono ?_;rintro e w14 ⟨rfl,b14⟩;have HIS14:=Ac (HIS.out.next b14);have HAt14:=Ac (HAt.out.next b14);have HBB14:=Ac (HBB13.out.next b14);clear hcm hs hl9 b14;go_wp2_with fail;go_meet
                              case rel=>exact ⟨true,rfl,Ac (M0 HV.out),HIS14,HAt14,HBB14⟩
                      case rest=>
                        obtain ⟨x9,hc1,HX9,HIS2,HAt2,HBB2⟩:=hcut;subst hc1;clear HIS HAt HBB13;cases x9 with
                        |false=>
                          have HHW:=Ac (HX9.out.2 rfl);have HE:=Ac (H3.out.step (fr2:=fr) (to2:=tb) HBQ.out (by rw[show E6 b.L a.L=_ from HSB.out];decide) (by rw[<-HLO.out];rw[HLW.out];exact HFlo.out) (by rw[<-HHI.out];rw[HHW.out];exact HFhi.out) (by rw[<-HLO.out,<-HHI.out,HLW.out,HHW.out];exact HIS2.out));rw[<-HF2.out]at HE;go_wp2_with fail;go_roundw
                          case rel=>exact ⟨q2+1,f2,fr,tb,by omega,by go_num,rfl,rfl,rfl,HE⟩
                          case measure=>simp[intOf]<;>omega
                        |true=>
                          have HHW:=Ac (HX9.out.1 rfl);obtain ⟨sa,Aa,na,ca,ka,za⟩:=HAt2.out;obtain ⟨sl,Al,nl,cl,sh,Ah,nh,ch,kl,kh,zl,zh,-⟩:=HIS2.out;have c0:=ka.c0;have c1:=ka.c1;have KST:=Ac kh;have ZST:=Ac za;clear kl kh zl zh ka za;go_wp2_with (with_reducible refine An rfl _ _ rfl (wz.heap.size+1+1) _ _ _ _ rfl rfl _ _ KST.out ?_;intro w15 k15 ho15;have HK15:=Ac k15;have HO15:=Ac ho15;clear k15 ho15 c0 c1)
                          have HIS5:=Ac (HIS2.out.high (by omega) (by omega) ZST.out HK15.out HO15.out);have HE:=Ac (H3.out.step (fr2:=fr) (to2:=true) HBQ.out (by rw[show E6 b.L a.L=_ from HSB.out];decide) (by rw[<-HLO.out];rw[HLW.out];exact HFlo.out) (by rw[<-HHI.out];rw[HHW.out];first|done|rfl) (by rw[<-HLO.out,<-HHI.out,HLW.out,HHW.out];exact HIS5.out));rw[<-HF2.out]at HE;go_roundw
                          case rel=>exact ⟨q2+1,f2,fr,true,by omega,by go_num,rfl,rfl,rfl,HE⟩
                          case measure=>simp[intOf]<;>omega
                    |true=>
                      have HLW:=Ac (HX9.out.1 rfl);obtain ⟨sa,Aa,na,ca,ka,za⟩:=HAt2.out;obtain ⟨sl,Al,nl,cl,sh,Ah,nh,ch,kl,kh,zl,zh,-⟩:=HIS2.out;have c0:=ka.c0;have c1:=ka.c1;have KST:=Ac kl;have ZST:=Ac za;clear kl kh zl zh ka za;go_upto_region 31 with (with_reducible refine An rfl _ _ rfl (wz.heap.size+1) _ _ _ _ rfl rfl _ _ KST.out ?_;intro w15 k15 ho15;have HK15:=Ac k15;have HO15:=Ac ho15;clear k15 ho15 c0 c1)
                      have HIS:=Ac (HIS2.out.low (by omega) (by omega) ZST.out HK15.out HO15.out);have HAt:=Ac (HAt2.out.other (by omega) KST.out HO15.out);have HBB13:=Ac (HBB2.out.other HO15.out (by omega));clear HIS2 HAt2 HBB2 HX9 KST ZST HK15 HO15;go_upto_region 31 with fail
                      go_cut [121] (fun fv wx=>∃x9:Bool,fv=.bool x9/\Hid ((x9=true->Cu a.rd b.rd hi=some (CG a.rd b.rd))/\(x9=false->Cu a.rd b.rd hi=hi))/\Hid (Jl w5 (wz.heap.size+1) (wz.heap.size+1+1) KK (some (CG a.rd b.rd)) hi wx)/\Hid (H7 w10.heap.size KK (CG a.rd b.rd) wx)/\Hid (AK 42 wx wr.heap.size #[.slice b.A b.n b.c,.bool b.s,.slice b.B b.m b.d,.bool b.f]))
                      case first=>
                        obtain ⟨sa,Aa,na,ca,ka,za⟩:=HAt.out;obtain ⟨sl,Al,nl,cl,sh,Ah,nh,ch,kl,kh,zl,zh,-⟩:=HIS.out;have c0:=ka.c0;have c1:=ka.c1;have c2:=kl.c0;have c3:=kl.c1;have c4:=kh.c0;have c5:=kh.c1;have c6:=HBB13.out.r3;rcases (show b.f=false\/b.f=true from by cases b.f<;>simp) with hbf|hbf
                        · rw[hbf]at c6;have HEQ:=Ac (show b.rd.2.2=false from hbf);have HV:=Ac (show Cu a.rd b.rd hi=hi from if_neg (by rw[HSB.out,HEQ.out];decide));go_wp2_with fail;go_meet
                          case rel=>exact ⟨false,rfl,Ac (KD HV.out),HIS,HAt,HBB13⟩
                        · rw[hbf]at c6;have HEQ:=Ac (show b.rd.2.2=true from hbf);cases hi with
                          |none=>
                            have hfe:tb=false:=(by rw[HFhi.out];rfl);subst hfe;have HV:=Ac (show Cu a.rd b.rd (none:Option Int)=some (CG a.rd b.rd) from if_pos (by rw[HSB.out,HEQ.out];decide));go_wp2_with fail;go_meet
                            case rel=>exact ⟨true,rfl,Ac (M0 HV.out),HIS,HAt,HBB13⟩
                          |some l=>
                            have hfe:tb=true:=(by rw[HFhi.out];rfl);subst hfe;have hcm:=CH _ _ (CG a.rd b.rd) l KK _ za.in_ (zh l rfl).in_ (by omega);unfold BE at hcm;have HV:=Ac (show Cu a.rd b.rd (some l)=if CG a.rd b.rd<l then some (CG a.rd b.rd) else some l from if_pos (by rw[HSB.out,HEQ.out];decide));rcases Ck (CG a.rd b.rd) l with ⟨hs,hl9⟩|⟨hs,hl9⟩|⟨hs,hl9⟩
                            · rw[hs]at hcm;rw[if_neg (by omega)]at HV;go_wp2_with fail;refine hcm.mono ?_;rintro e w14 ⟨rfl,b14⟩;have HIS14:=Ac (HIS.out.next b14);have HAt14:=Ac (HAt.out.next b14);have HBB14:=Ac (HBB13.out.next b14);clear hcm hs hl9 b14;go_wp2_with fail;go_meet
                              case rel=>exact ⟨false,rfl,Ac (KD HV.out),HIS14,HAt14,HBB14⟩
                            · rw[hs]at hcm;rw[if_neg (by omega)]at HV;go_wp2_with fail;refine hcm.mono ?_;rintro e w14 ⟨rfl,b14⟩;have HIS14:=Ac (HIS.out.next b14);have HAt14:=Ac (HAt.out.next b14);have HBB14:=Ac (HBB13.out.next b14);clear hcm hs hl9 b14;go_wp2_with fail;go_meet
                              case rel=>exact ⟨false,rfl,Ac (KD HV.out),HIS14,HAt14,HBB14⟩
                            · rw[hs]at hcm;rw[if_pos hl9]at HV;go_wp2_with fail;refine hcm.mono ?_;rintro e w14 ⟨rfl,b14⟩;have HIS14:=Ac (HIS.out.next b14);have HAt14:=Ac (HAt.out.next b14);have HBB14:=Ac (HBB13.out.next b14);clear hcm hs hl9 b14;go_wp2_with fail;go_meet
                              case rel=>exact ⟨true,rfl,Ac (M0 HV.out),HIS14,HAt14,HBB14⟩
                      case rest=>
                        obtain ⟨x9,hc1,HX9,HIS2,HAt2,HBB2⟩:=hcut;subst hc1;clear HIS HAt HBB13;cases x9 with
                        |false=>
                          have HHW:=Ac (HX9.out.2 rfl);have HE:=Ac (H3.out.step (fr2:=true) (to2:=tb) HBQ.out (by rw[show E6 b.L a.L=_ from HSB.out];decide) (by rw[<-HLO.out];rw[HLW.out];first|done|rfl) (by rw[<-HHI.out];rw[HHW.out];exact HFhi.out) (by rw[<-HLO.out,<-HHI.out,HLW.out,HHW.out];exact HIS2.out));rw[<-HF2.out]at HE;go_wp2_with fail;go_roundw
                          case rel=>exact ⟨q2+1,f2,true,tb,by omega,by go_num,rfl,rfl,rfl,HE⟩
                          case measure=>simp[intOf]<;>omega
                        |true=>
                          have HHW:=Ac (HX9.out.1 rfl);obtain ⟨sa,Aa,na,ca,ka,za⟩:=HAt2.out;obtain ⟨sl,Al,nl,cl,sh,Ah,nh,ch,kl,kh,zl,zh,-⟩:=HIS2.out;have c0:=ka.c0;have c1:=ka.c1;have KST:=Ac kh;have ZST:=Ac za;clear kl kh zl zh ka za;go_wp2_with (with_reducible refine An rfl _ _ rfl (wz.heap.size+1+1) _ _ _ _ rfl rfl _ _ KST.out ?_;intro w15 k15 ho15;have HK15:=Ac k15;have HO15:=Ac ho15;clear k15 ho15 c0 c1)
                          have HIS5:=Ac (HIS2.out.high (by omega) (by omega) ZST.out HK15.out HO15.out);have HE:=Ac (H3.out.step (fr2:=true) (to2:=true) HBQ.out (by rw[show E6 b.L a.L=_ from HSB.out];decide) (by rw[<-HLO.out];rw[HLW.out];first|done|rfl) (by rw[<-HHI.out];rw[HHW.out];first|done|rfl) (by rw[<-HLO.out,<-HHI.out,HLW.out,HHW.out];exact HIS5.out));rw[<-HF2.out]at HE;go_roundw
                          case rel=>exact ⟨q2+1,f2,true,true,by omega,by go_num,rfl,rfl,rfl,HE⟩
                          case measure=>simp[intOf]<;>omega
              · skip
                have HS0:=Ac h0;rw[h0];clear h0;obtain ⟨f2,hf2⟩:∃f2,f2=(if q2<j then false else fst):=⟨_,rfl⟩;have HF2:=Ac hf2;clear hf2;go_upto_if 78 with fail;go_cut [11] (fun fv wx=>fv=.bool f2/\wx=w8)
                case first=>
                  by_cases hqj:q2<j
                  · have g3:(q2:Int)<(j:Int):=(by omega);have hfe:f2=false:=(by rw[HF2.out,if_pos hqj]);have HFE:=Ac hfe;clear hfe;go_wp2_with fail;go_meet
                    case rel=>exact ⟨by rw[HFE.out],rfl⟩
                  · have g3:¬(q2:Int)<(j:Int):=(by omega);have hfe:f2=fst:=(by rw[HF2.out,if_neg hqj]);have HFE:=Ac hfe;clear hfe;go_wp2_with fail;go_meet
                    case rel=>exact ⟨by rw[HFE.out],rfl⟩
                case rest=>
                  obtain ⟨hc1,hc2⟩:=hcut;subst hc1;subst hc2;have z0:=HBB9.out.r0;have z1:=HBB9.out.r1;have z2:=HBB9.out.r2;have z3:=HBB9.out.r3;have hng:=Of (.agg #[.bool b.s,.slice b.B b.m b.d]) b.K KK _ HTB9.out.knum.in_ (by omega);go_wp2_with fail;refine hng.mono ?_;rintro e w10 ⟨v10,rfl,u10,b10⟩;obtain ⟨s10,A10,n10,c10,rfl⟩:=u10.form;have hg10:wr.heap.size<w10.heap.size:=(by have:=b10.size;omega)
                  have y11:=Af w10 (.cells #[.bool s10,.slice A10 n10 c10] 38);have HI11:=Ac ((HI9.out.next b10).next y11);have HBB11:=Ac ((HBB9.out.next b10).next y11);have HK11:=Ac (AH.new w10 #[.bool s10,.slice A10 n10 c10]);have HZ11:=Ac (u10.below y11);have HTB11:=Ac ((HTB9.out.below b10).below y11);clear hng u10 b10 y11 z0 z1 z2 z3;obtain ⟨hl1,hl2⟩:=HLT.out;have y0:=HBB11.out.r0;have y1:=HBB11.out.r1;have y2:=HBB11.out.r2;have y3:=HBB11.out.r3
                  have hcl:=LS (.agg #[.bool b.s,.slice b.B b.m b.d]) b.K KK _ HTB11.out.knum.in_ (by omega);go_wp2_with fail;refine hcl.mono ?_;rintro e w12 ⟨v12,rfl,u12,b12⟩;obtain ⟨s12,A12,n12,c12,rfl⟩:=u12.form;have HI12:=Ac (HI11.out.next b12);have HBB12:=Ac (HBB11.out.next b12);have HK12:=Ac (HK11.out.next b12);have HZ12:=Ac u12;clear hcl u12 b12 y0 y1 y2 y3
                  go_upto_region 29 with (with_reducible refine An rfl _ _ rfl w10.heap.size _ _ _ _ rfl rfl _ _ HK12.out ?_;intro W13 k13 ho13;have HK13:=Ac k13;have HO13:=Ac ho13;clear k13 ho13);(try simp only[Act.put])
                  have HAt:=Ac (show H7 w10.heap.size KK (CG a.rd b.rd) W13 from ⟨_,_,_,_,HK13.out,(show CG a.rd b.rd=b.K from if_pos (by rw[show E6 b.rd.1 a.rd.1=-1 from HS0.out];decide))▸HZ12.out.only HK12.out HO13.out⟩);have HIS:=Ac (HI12.out.third (by omega) (by omega) (by omega) HK12.out HO13.out);have HBB13:=Ac (HBB12.out.other HO13.out (by omega));clear HBB9 HBB11 HI9 HI11 HTB9 HTB11;obtain ⟨lo,hlo⟩:∃lo,lo=(Cb ((ts.map RV.rd).take q2) a.rd).lo:=⟨_,rfl⟩
                  obtain ⟨hi,hhi⟩:∃hi,hi=(Cb ((ts.map RV.rd).take q2) a.rd).hi:=⟨_,rfl⟩;rw[<-hlo,<-hhi]at HIS;have HFlo:=Ac (show fr=lo.isSome from by rw[hlo];exact H3.out.2.1);have HFhi:=Ac (show tb=hi.isSome from by rw[hhi];exact H3.out.2.2.1);have HLO:=Ac hlo;have HHI:=Ac hhi;clear hlo hhi;have HSB:=Ac (show E6 b.rd.1 a.rd.1=-1 from HS0.out);go_upto_region 29 with fail
                  go_cut [104] (fun fv wx=>∃x9:Bool,fv=.bool x9/\Hid ((x9=true->GV a.rd b.rd lo=some (CG a.rd b.rd))/\(x9=false->GV a.rd b.rd lo=lo))/\Hid (Jl w5 (wz.heap.size+1) (wz.heap.size+1+1) KK lo hi wx)/\Hid (H7 w10.heap.size KK (CG a.rd b.rd) wx)/\Hid (AK 42 wx wr.heap.size #[.slice b.A b.n b.c,.bool b.s,.slice b.B b.m b.d,.bool b.f]))
                  case first=>
                    obtain ⟨sa,Aa,na,ca,ka,za⟩:=HAt.out;obtain ⟨sl,Al,nl,cl,sh,Ah,nh,ch,kl,kh,zl,zh,-⟩:=HIS.out;have c0:=ka.c0;have c1:=ka.c1;have c2:=kl.c0;have c3:=kl.c1;have c4:=kh.c0;have c5:=kh.c1;have c6:=HBB13.out.r3;rcases (show b.f=false\/b.f=true from by cases b.f<;>simp) with hbf|hbf
                    · rw[hbf]at c6;have HEQ:=Ac (show b.rd.2.2=false from hbf);have HV:=Ac (show GV a.rd b.rd lo=lo from if_neg (by rw[HSB.out,HEQ.out];decide));go_wp2_with fail;go_meet
                      case rel=>exact ⟨false,rfl,Ac (KD HV.out),HIS,HAt,HBB13⟩
                    · rw[hbf]at c6;have HEQ:=Ac (show b.rd.2.2=true from hbf);cases lo with
                      |none=>
                        have hfe:fr=false:=(by rw[HFlo.out];rfl);subst hfe;have HV:=Ac (show GV a.rd b.rd (none:Option Int)=some (CG a.rd b.rd) from if_pos (by rw[HSB.out,HEQ.out];decide));go_wp2_with fail;go_meet
                        case rel=>exact ⟨true,rfl,Ac (M0 HV.out),HIS,HAt,HBB13⟩
                      |some l=>
                        have hfe:fr=true:=(by rw[HFlo.out];rfl);subst hfe;have hcm:=CH _ _ (CG a.rd b.rd) l KK _ za.in_ (zl l rfl).in_ (by omega);unfold BE at hcm;have HV:=Ac (show GV a.rd b.rd (some l)=if l<CG a.rd b.rd then some (CG a.rd b.rd) else some l from if_pos (by rw[HSB.out,HEQ.out];decide));rcases Ck (CG a.rd b.rd) l with ⟨hs,hl9⟩|⟨hs,hl9⟩|⟨hs,hl9⟩
                        · rw[hs]at hcm;rw[if_pos hl9]at HV;go_wp2_with fail;refine hcm.mono ?_;rintro e w14 ⟨rfl,b14⟩;have HIS14:=Ac (HIS.out.next b14);have HAt14:=Ac (HAt.out.next b14);have HBB14:=Ac (HBB13.out.next b14);clear hcm hs hl9 b14;go_wp2_with fail;go_meet
                          case rel=>exact ⟨true,rfl,Ac (M0 HV.out),HIS14,HAt14,HBB14⟩
                        · rw[hs]at hcm;rw[if_neg (by omega)]at HV;go_wp2_with fail;refine hcm.mono ?_;rintro e w14 ⟨rfl,b14⟩;have HIS14:=Ac (HIS.out.next b14);have HAt14:=Ac (HAt.out.next b14);have HBB14:=Ac (HBB13.out.next b14);clear hcm hs hl9 b14;go_wp2_with fail;go_meet
                          case rel=>exact ⟨false,rfl,Ac (KD HV.out),HIS14,HAt14,HBB14⟩
                        · rw[hs]at hcm;rw[if_neg (by omega)]at HV;go_wp2_with fail;refine hcm.mono ?_;rintro e w14 ⟨rfl,b14⟩;have HIS14:=Ac (HIS.out.next b14);have HAt14:=Ac (HAt.out.next b14);have HBB14:=Ac (HBB13.out.next b14);clear hcm hs hl9 b14;go_wp2_with fail;go_meet
                          case rel=>exact ⟨false,rfl,Ac (KD HV.out),HIS14,HAt14,HBB14⟩
                  case rest=>
                    obtain ⟨x9,hc1,HX9,HIS2,HAt2,HBB2⟩:=hcut;subst hc1;clear HIS HAt HBB13;cases x9 with
                    |false=>
                      have HLW:=Ac (HX9.out.2 rfl);go_upto_region 31 with fail;have HIS:=HIS2;have HAt:=HAt2;have HBB13:=HBB2;clear HIS2 HAt2 HBB2 HX9;go_upto_region 31 with fail
                      go_cut [121] (fun fv wx=>∃x9:Bool,fv=.bool x9/\Hid ((x9=true->Cu a.rd b.rd hi=some (CG a.rd b.rd))/\(x9=false->Cu a.rd b.rd hi=hi))/\Hid (Jl w5 (wz.heap.size+1) (wz.heap.size+1+1) KK lo hi wx)/\Hid (H7 w10.heap.size KK (CG a.rd b.rd) wx)/\Hid (AK 42 wx wr.heap.size #[.slice b.A b.n b.c,.bool b.s,.slice b.B b.m b.d,.bool b.f]))
                      case first=>
                        obtain ⟨sa,Aa,na,ca,ka,za⟩:=HAt.out;obtain ⟨sl,Al,nl,cl,sh,Ah,nh,ch,kl,kh,zl,zh,-⟩:=HIS.out;have c0:=ka.c0;have c1:=ka.c1;have c2:=kl.c0;have c3:=kl.c1;have c4:=kh.c0;have c5:=kh.c1;have c6:=HBB13.out.r3;rcases (show b.f=false\/b.f=true from by cases b.f<;>simp) with hbf|hbf
                        · rw[hbf]at c6;have HEQ:=Ac (show b.rd.2.2=false from hbf);cases hi with
                          |none=>
                            have hfe:tb=false:=(by rw[HFhi.out];rfl);subst hfe;have HV:=Ac (show Cu a.rd b.rd (none:Option Int)=some (CG a.rd b.rd) from if_pos (by rw[HSB.out,HEQ.out];decide));go_wp2_with fail;go_meet
                            case rel=>exact ⟨true,rfl,Ac (M0 HV.out),HIS,HAt,HBB13⟩
                          |some l=>
                            have hfe:tb=true:=(by rw[HFhi.out];rfl);subst hfe;have hcm:=CH _ _ (CG a.rd b.rd) l KK _ za.in_ (zh l rfl).in_ (by omega);unfold BE at hcm;have HV:=Ac (show Cu a.rd b.rd (some l)=if CG a.rd b.rd<l then some (CG a.rd b.rd) else some l from if_pos (by rw[HSB.out,HEQ.out];decide));rcases Ck (CG a.rd b.rd) l with ⟨hs,hl9⟩|⟨hs,hl9⟩|⟨hs,hl9⟩
                            · rw[hs]at hcm;rw[if_neg (by omega)]at HV;go_wp2_with fail;refine hcm.mono ?_;rintro e w14 ⟨rfl,b14⟩;have HIS14:=Ac (HIS.out.next b14);have HAt14:=Ac (HAt.out.next b14);have HBB14:=Ac (HBB13.out.next b14);clear hcm hs hl9 b14;go_wp2_with fail;go_meet
                              case rel=>exact ⟨false,rfl,Ac (KD HV.out),HIS14,HAt14,HBB14⟩
                            · rw[hs]at hcm;rw[if_neg (by omega)]at HV;go_wp2_with fail;refine hcm.mono ?_;rintro e w14 ⟨rfl,b14⟩;have HIS14:=Ac (HIS.out.next b14);have HAt14:=Ac (HAt.out.next b14);have HBB14:=Ac (HBB13.out.next b14);clear hcm hs hl9 b14;go_wp2_with fail;go_meet
                              case rel=>exact ⟨false,rfl,Ac (KD HV.out),HIS14,HAt14,HBB14⟩
                            · rw[hs]at hcm;rw[if_pos hl9]at HV;go_wp2_with fail;refine hcm.mono ?_;rintro e w14 ⟨rfl,b14⟩;have HIS14:=Ac (HIS.out.next b14);have HAt14:=Ac (HAt.out.next b14);have HBB14:=Ac (HBB13.out.next b14);clear hcm hs hl9 b14;go_wp2_with fail;go_meet
                              case rel=>exact ⟨true,rfl,Ac (M0 HV.out),HIS14,HAt14,HBB14⟩
                        · rw[hbf]at c6;have HEQ:=Ac (show b.rd.2.2=true from hbf);cases hi with
                          |none=>
                            have hfe:tb=false:=(by rw[HFhi.out];rfl);subst hfe;have HV:=Ac (show Cu a.rd b.rd (none:Option Int)=some (CG a.rd b.rd) from if_pos (by rw[HSB.out,HEQ.out];decide));go_wp2_with fail;go_meet
                            case rel=>exact ⟨true,rfl,Ac (M0 HV.out),HIS,HAt,HBB13⟩
                          |some l=>
                            have hfe:tb=true:=(by rw[HFhi.out];rfl);subst hfe;have hcm:=CH _ _ (CG a.rd b.rd) l KK _ za.in_ (zh l rfl).in_ (by omega);unfold BE at hcm;have HV:=Ac (show Cu a.rd b.rd (some l)=if CG a.rd b.rd<l then some (CG a.rd b.rd) else some l from if_pos (by rw[HSB.out,HEQ.out];decide));rcases Ck (CG a.rd b.rd) l with ⟨hs,hl9⟩|⟨hs,hl9⟩|⟨hs,hl9⟩
                            · rw[hs]at hcm;rw[if_neg (by omega)]at HV;go_wp2_with fail;refine hcm.mono ?_;rintro e w14 ⟨rfl,b14⟩;have HIS14:=Ac (HIS.out.next b14);have HAt14:=Ac (HAt.out.next b14);have HBB14:=Ac (HBB13.out.next b14);clear hcm hs hl9 b14;go_wp2_with fail;go_meet
                              case rel=>exact ⟨false,rfl,Ac (KD HV.out),HIS14,HAt14,HBB14⟩
                            · rw[hs]at hcm;rw[if_neg (by omega)]at HV;go_wp2_with fail;refine hcm.mono ?_;rintro e w14 ⟨rfl,b14⟩;have HIS14:=Ac (HIS.out.next b14);have HAt14:=Ac (HAt.out.next b14);have HBB14:=Ac (HBB13.out.next b14);clear hcm hs hl9 b14;go_wp2_with fail;go_meet
                              case rel=>exact ⟨false,rfl,Ac (KD HV.out),HIS14,HAt14,HBB14⟩
                            · rw[hs]at hcm;rw[if_pos hl9]at HV;go_wp2_with fail;refine hcm.mono ?_;rintro e w14 ⟨rfl,b14⟩;have HIS14:=Ac (HIS.out.next b14);have HAt14:=Ac (HAt.out.next b14);have HBB14:=Ac (HBB13.out.next b14);clear hcm hs hl9 b14;go_wp2_with fail;go_meet
                              case rel=>exact ⟨true,rfl,Ac (M0 HV.out),HIS14,HAt14,HBB14⟩
                      case rest=>
                        obtain ⟨x9,hc1,HX9,HIS2,HAt2,HBB2⟩:=hcut;subst hc1;clear HIS HAt HBB13;cases x9 with
                        |false=>
                          have HHW:=Ac (HX9.out.2 rfl);have HE:=Ac (H3.out.step (fr2:=fr) (to2:=tb) HBQ.out (by rw[show E6 b.L a.L=_ from HSB.out];decide) (by rw[<-HLO.out];rw[HLW.out];exact HFlo.out) (by rw[<-HHI.out];rw[HHW.out];exact HFhi.out) (by rw[<-HLO.out,<-HHI.out,HLW.out,HHW.out];exact HIS2.out));rw[<-HF2.out]at HE;go_wp2_with fail;go_roundw
                          case rel=>exact ⟨q2+1,f2,fr,tb,by omega,by go_num,rfl,rfl,rfl,HE⟩
                          case measure=>simp[intOf]<;>omega
                        |true=>
                          have HHW:=Ac (HX9.out.1 rfl);obtain ⟨sa,Aa,na,ca,ka,za⟩:=HAt2.out;obtain ⟨sl,Al,nl,cl,sh,Ah,nh,ch,kl,kh,zl,zh,-⟩:=HIS2.out;have c0:=ka.c0;have c1:=ka.c1;have KST:=Ac kh;have ZST:=Ac za;clear kl kh zl zh ka za;go_wp2_with (with_reducible refine An rfl _ _ rfl (wz.heap.size+1+1) _ _ _ _ rfl rfl _ _ KST.out ?_;intro w15 k15 ho15;have HK15:=Ac k15;have HO15:=Ac ho15;clear k15 ho15 c0 c1)
                          have HIS5:=Ac (HIS2.out.high (by omega) (by omega) ZST.out HK15.out HO15.out);have HE:=Ac (H3.out.step (fr2:=fr) (to2:=true) HBQ.out (by rw[show E6 b.L a.L=_ from HSB.out];decide) (by rw[<-HLO.out];rw[HLW.out];exact HFlo.out) (by rw[<-HHI.out];rw[HHW.out];first|done|rfl) (by rw[<-HLO.out,<-HHI.out,HLW.out,HHW.out];exact HIS5.out));rw[<-HF2.out]at HE;go_roundw
                          case rel=>exact ⟨q2+1,f2,fr,true,by omega,by go_num,rfl,rfl,rfl,HE⟩
                          case measure=>simp[intOf]<;>omega
                    |true=>
                      have HLW:=Ac (HX9.out.1 rfl);obtain ⟨sa,Aa,na,ca,ka,za⟩:=HAt2.out;obtain ⟨sl,Al,nl,cl,sh,Ah,nh,ch,kl,kh,zl,zh,-⟩:=HIS2.out;have c0:=ka.c0;have c1:=ka.c1;have KST:=Ac kl;have ZST:=Ac za;clear kl kh zl zh ka za;go_upto_region 31 with (with_reducible refine An rfl _ _ rfl (wz.heap.size+1) _ _ _ _ rfl rfl _ _ KST.out ?_;intro w15 k15 ho15;have HK15:=Ac k15;have HO15:=Ac ho15;clear k15 ho15 c0 c1)
                      have HIS:=Ac (HIS2.out.low (by omega) (by omega) ZST.out HK15.out HO15.out);have HAt:=Ac (HAt2.out.other (by omega) KST.out HO15.out);have HBB13:=Ac (HBB2.out.other HO15.out (by omega));clear HIS2 HAt2 HBB2 HX9 KST ZST HK15 HO15;go_upto_region 31 with fail
                      go_cut [121] (fun fv wx=>∃x9:Bool,fv=.bool x9/\Hid ((x9=true->Cu a.rd b.rd hi=some (CG a.rd b.rd))/\(x9=false->Cu a.rd b.rd hi=hi))/\Hid (Jl w5 (wz.heap.size+1) (wz.heap.size+1+1) KK (some (CG a.rd b.rd)) hi wx)/\Hid (H7 w10.heap.size KK (CG a.rd b.rd) wx)/\Hid (AK 42 wx wr.heap.size #[.slice b.A b.n b.c,.bool b.s,.slice b.B b.m b.d,.bool b.f]))
                      case first=>
                        obtain ⟨sa,Aa,na,ca,ka,za⟩:=HAt.out;obtain ⟨sl,Al,nl,cl,sh,Ah,nh,ch,kl,kh,zl,zh,-⟩:=HIS.out;have c0:=ka.c0;have c1:=ka.c1;have c2:=kl.c0;have c3:=kl.c1;have c4:=kh.c0;have c5:=kh.c1;have c6:=HBB13.out.r3;rcases (show b.f=false\/b.f=true from by cases b.f<;>simp) with hbf|hbf
                        · rw[hbf]at c6;have HEQ:=Ac (show b.rd.2.2=false from hbf);cases hi with
                          |none=>
                            have hfe:tb=false:=(by rw[HFhi.out];rfl);subst hfe;have HV:=Ac (show Cu a.rd b.rd (none:Option Int)=some (CG a.rd b.rd) from if_pos (by rw[HSB.out,HEQ.out];decide));go_wp2_with fail;go_meet
                            case rel=>exact ⟨true,rfl,Ac (M0 HV.out),HIS,HAt,HBB13⟩
                          |some l=>
                            have hfe:tb=true:=(by rw[HFhi.out];rfl);subst hfe;have hcm:=CH _ _ (CG a.rd b.rd) l KK _ za.in_ (zh l rfl).in_ (by omega);unfold BE at hcm;have HV:=Ac (show Cu a.rd b.rd (some l)=if CG a.rd b.rd<l then some (CG a.rd b.rd) else some l from if_pos (by rw[HSB.out,HEQ.out];decide));rcases Ck (CG a.rd b.rd) l with ⟨hs,hl9⟩|⟨hs,hl9⟩|⟨hs,hl9⟩
                            · rw[hs]at hcm;rw[if_neg (by omega)]at HV;go_wp2_with fail;refine hcm.mono ?_;rintro e w14 ⟨rfl,b14⟩;have HIS14:=Ac (HIS.out.next b14);have HAt14:=Ac (HAt.out.next b14);have HBB14:=Ac (HBB13.out.next b14);clear hcm hs hl9 b14;go_wp2_with fail;go_meet
                              case rel=>exact ⟨false,rfl,Ac (KD HV.out),HIS14,HAt14,HBB14⟩
                            · rw[hs]at hcm;rw[if_neg (by omega)]at HV;go_wp2_with fail;refine hcm.mono ?_;rintro e w14 ⟨rfl,b14⟩;have HIS14:=Ac (HIS.out.next b14);have HAt14:=Ac (HAt.out.next b14);have HBB14:=Ac (HBB13.out.next b14);clear hcm hs hl9 b14;go_wp2_with fail;go_meet
                              case rel=>exact ⟨false,rfl,Ac (KD HV.out),HIS14,HAt14,HBB14⟩
                            · rw[hs]at hcm;rw[if_pos hl9]at HV;go_wp2_with fail;refine hcm.mono ?_;rintro e w14 ⟨rfl,b14⟩;have HIS14:=Ac (HIS.out.next b14);have HAt14:=Ac (HAt.out.next b14);have HBB14:=Ac (HBB13.out.next b14);clear hcm hs hl9 b14;go_wp2_with fail;go_meet
                              case rel=>exact ⟨true,rfl,Ac (M0 HV.out),HIS14,HAt14,HBB14⟩
                        · rw[hbf]at c6;have HEQ:=Ac (show b.rd.2.2=true from hbf);cases hi with
                          |none=>
                            have hfe:tb=false:=(by rw[HFhi.out];rfl);subst hfe;have HV:=Ac (show Cu a.rd b.rd (none:Option Int)=some (CG a.rd b.rd) from if_pos (by rw[HSB.out,HEQ.out];decide));go_wp2_with fail;go_meet
                            case rel=>exact ⟨true,rfl,Ac (M0 HV.out),HIS,HAt,HBB13⟩
                          |some l=>
                            have hfe:tb=true:=(by rw[HFhi.out];rfl);subst hfe;have hcm:=CH _ _ (CG a.rd b.rd) l KK _ za.in_ (zh l rfl).in_ (by omega);unfold BE at hcm;have HV:=Ac (show Cu a.rd b.rd (some l)=if CG a.rd b.rd<l then some (CG a.rd b.rd) else some l from if_pos (by rw[HSB.out,HEQ.out];decide));rcases Ck (CG a.rd b.rd) l with ⟨hs,hl9⟩|⟨hs,hl9⟩|⟨hs,hl9⟩
                            · rw[hs]at hcm;rw[if_neg (by omega)]at HV;go_wp2_with fail;refine hcm.mono ?_;rintro e w14 ⟨rfl,b14⟩;have HIS14:=Ac (HIS.out.next b14);have HAt14:=Ac (HAt.out.next b14);have HBB14:=Ac (HBB13.out.next b14);clear hcm hs hl9 b14;go_wp2_with fail;go_meet
                              case rel=>exact ⟨false,rfl,Ac (KD HV.out),HIS14,HAt14,HBB14⟩
                            · rw[hs]at hcm;rw[if_neg (by omega)]at HV;go_wp2_with fail;refine hcm.mono ?_;rintro e w14 ⟨rfl,b14⟩;have HIS14:=Ac (HIS.out.next b14);have HAt14:=Ac (HAt.out.next b14);have HBB14:=Ac (HBB13.out.next b14);clear hcm hs hl9 b14;go_wp2_with fail;go_meet
                              case rel=>exact ⟨false,rfl,Ac (KD HV.out),HIS14,HAt14,HBB14⟩
                            · rw[hs]at hcm;rw[if_pos hl9]at HV;go_wp2_with fail;refine hcm.mono ?_;rintro e w14 ⟨rfl,b14⟩;have HIS14:=Ac (HIS.out.next b14);have HAt14:=Ac (HAt.out.next b14);have HBB14:=Ac (HBB13.out.next b14);clear hcm hs hl9 b14;go_wp2_with fail;go_meet
                              case rel=>exact ⟨true,rfl,Ac (M0 HV.out),HIS14,HAt14,HBB14⟩
                      case rest=>
                        obtain ⟨x9,hc1,HX9,HIS2,HAt2,HBB2⟩:=hcut;subst hc1;clear HIS HAt HBB13;cases x9 with
                        |false=>
                          have HHW:=Ac (HX9.out.2 rfl);have HE:=Ac (H3.out.step (fr2:=true) (to2:=tb) HBQ.out (by rw[show E6 b.L a.L=_ from HSB.out];decide) (by rw[<-HLO.out];rw[HLW.out];first|done|rfl) (by rw[<-HHI.out];rw[HHW.out];exact HFhi.out) (by rw[<-HLO.out,<-HHI.out,HLW.out,HHW.out];exact HIS2.out));rw[<-HF2.out]at HE;go_wp2_with fail;go_roundw
                          case rel=>exact ⟨q2+1,f2,true,tb,by omega,by go_num,rfl,rfl,rfl,HE⟩
                          case measure=>simp[intOf]<;>omega
                        |true=>
                          have HHW:=Ac (HX9.out.1 rfl);obtain ⟨sa,Aa,na,ca,ka,za⟩:=HAt2.out;obtain ⟨sl,Al,nl,cl,sh,Ah,nh,ch,kl,kh,zl,zh,-⟩:=HIS2.out;have c0:=ka.c0;have c1:=ka.c1;have KST:=Ac kh;have ZST:=Ac za;clear kl kh zl zh ka za;go_wp2_with (with_reducible refine An rfl _ _ rfl (wz.heap.size+1+1) _ _ _ _ rfl rfl _ _ KST.out ?_;intro w15 k15 ho15;have HK15:=Ac k15;have HO15:=Ac ho15;clear k15 ho15 c0 c1)
                          have HIS5:=Ac (HIS2.out.high (by omega) (by omega) ZST.out HK15.out HO15.out);have HE:=Ac (H3.out.step (fr2:=true) (to2:=true) HBQ.out (by rw[show E6 b.L a.L=_ from HSB.out];decide) (by rw[<-HLO.out];rw[HLW.out];first|done|rfl) (by rw[<-HHI.out];rw[HHW.out];first|done|rfl) (by rw[<-HLO.out,<-HHI.out,HLW.out,HHW.out];exact HIS5.out));rw[<-HF2.out]at HE;go_roundw
                          case rel=>exact ⟨q2+1,f2,true,true,by omega,by go_num,rfl,rfl,rfl,HE⟩
                          case measure=>simp[intOf]<;>omega
              · rw[h0];have HE:=Ac (H3.out.skip HBQ.out h0 HBL.out);clear h0;go_wp2_with fail;go_roundw
                case rel=>exact ⟨q2+1,fst,fr,tb,by omega,by go_num,rfl,rfl,rfl,HE⟩
                case measure=>simp[intOf]<;>omega
            · as_aux_lemma=>
              have e2:q2=p:=(by omega);subst e2;have g2:¬(q2:Int)<(q2:Int):=(by omega);obtain ⟨f1,f2,f3,hI⟩:=H3.out;have hlen:(ts.map RV.rd).length<=q2:=(by rw[List.length_map,HPL.out];exact Nat.le_refl _);rw[Uk _ _ hlen]at f2 f3 hI;rw[Nat.min_eq_right (Nat.le_of_lt hjp)]at f1;have HF1:=Ac f1.symm;have had:(ts.map RV.rd)[j]?=some a.rd:=(by rw[List.getElem?_map,HAQ.out];rfl);have HAD:=Ac had;obtain ⟨l,hlo⟩:=OQ (List.mem_of_getElem? had)
              have hSP:(Cb (ts.map RV.rd) a.rd).S=a.L:=QN _ _;have HSP:=Ac hSP;have hwr:=HWZ.out.next hI.old;have HOS:=Ac (HO1.out.below hwr);have HBO:=Ac (HW5.out.next hI.old);have HAX:=Ac (HBA.out.next hI.old);have HTA:=Ac (HAT.out.below (HW5.out.next hI.old));have HAN:=Ac (show norm a.L=a.L from HAG.out.1);have HLL:=Ac hal;generalize hon:os.length=on at *;have HON:=Ac hon;rw[hlo]at f2 hI;have hfr:fr=true:=f2;subst hfr;have HLO:=Ac hlo
              clear f1 f2 had hlo hSP hwr hlen hon H3 HO1 HBA HAT HWZ HW5;generalize wr=wq at *;generalize a=ra at *;rcases hh:(Cb (ts.map RV.rd) ra.rd).hi with _|h
              · rw[hh]at f3 hI;have hfe:tb=false:=f3;subst hfe;obtain ⟨sl,Al,nl,cl,sh,Ah,nh,ch,kl,kh,zl,-,-⟩:=hI;have HZL:=Ac (zl l rfl);have HKL:=Ac kl;have HKH:=Ac kh;have HADD:=Ac (show DT (Cb (ts.map RV.rd) ra.rd)=some [(ra.L,-l,false)] by rw[SU HLO.out hh,HSP.out]);clear f3 zl kl kh hh;cases fst with
                |false=>
                  have HE:=Ac (show IE w3 ts (KK+4*M+5) M (j+1) (.slice Ao on co) wq from ⟨os,Ao,co,by rw[HON.out],by rw[HON.out];exact HOS.out,ER HO2.out HAD.out HADD.out HF1.out,HO3.out,HBO.out,by rw[HON.out];omega⟩);go_wp2_with fail;go_roundw
                  case rel=>exact ⟨j+1,by omega,by go_num,HE⟩
                  case measure=>simp[intOf]<;>omega
                |true=>
                  have hpt:=Ca ra.A ra.n ra.c ra.s ra.B ra.m ra.d wq;have x0:=HAX.out.r0;have x1:=HAX.out.r1;have x2:=HAX.out.r2;go_wp2_with fail;refine hpt.mono ?_;rintro e w11 ⟨rfl,b11⟩;have HBP:=Ac (AK.new 40 w11 #[.slice ra.A ra.n ra.c,.bool false,.slice none 0 0]);have HY:=Ac (b11.next (Af w11 (.cells #[.slice ra.A ra.n ra.c,.bool false,.slice none 0 0] 40)));clear hpt x0 x1 x2 b11;replace HOS:=Ac (HOS.out.below HY.out)
                  replace HBO:=Ac (HBO.out.next HY.out);replace HAX:=Ac (HAX.out.next HY.out);replace HTA:=Ac (HTA.out.below HY.out);replace HKL:=Ac (HKL.out.next HY.out);replace HKH:=Ac (HKH.out.next HY.out);replace HZL:=Ac (HZL.out.below HY.out);go_upto_region 41 with fail;generalize hW:(w11.alloc (.cells #[.slice ra.A ra.n ra.c,.bool false,.slice none 0 0] 40))=W0 at *;clear hW;have HP:=Ac HTA.out.parts;have HLZ:=HZL
                  have SOF:=Ac (show ∀W,Below W0.heap.size W0 W->(W.cell? ⟨w11.heap.size,0,none⟩=some (.slice ra.A ra.n ra.c)/\W.cell? ⟨w11.heap.size,1,none⟩=some (.bool false)/\W.cell? ⟨w11.heap.size,2,none⟩=some (.slice none 0 0)/\W.cell? ⟨wz.heap.size+1,0,none⟩=some (.bool sl)/\W.cell? ⟨wz.heap.size+1,1,none⟩=some (.slice Al nl cl)/\W.cell? ⟨wz.heap.size+1+1,0,none⟩=some (.bool sh)/\W.cell? ⟨wz.heap.size+1+1,1,none⟩=some (.slice Ah nh ch)) from fun W hG=>⟨(HBP.out.next hG).c0,(HBP.out.next hG).c1,(HBP.out.next hG).c2,(HKL.out.next hG).c0,(HKL.out.next hG).c1,(HKH.out.next hG).c0,(HKH.out.next hG).c1⟩)
                  refine AO (by kernel_rfl) (by kernel_rfl) (by kernel_rfl) (fun w w'=>Below w.heap.size w w') (fun j v w=>match j with|0=>v=.slice Ao on co|1=>v=.agg #[.slice ra.A ra.n ra.c,.bool false,.slice none 0 0]|2=>v=.agg #[.bool sl,.slice Al nl cl]|3=>Aw w v [] l KK|4=>Aw w v ra.L (-l) (KK+3+M)|5=>DC w v ra.L (-l) false (KK+3+M)|6=>∃A c qz,v=.slice A qz.length c/\BD w A qz.length qz (KK+4*M+5)/\qz.map RV.rd=CV (ra.L,(-l),false) (os.map RV.rd)/\(∀y∈qz,y.L.length<=M)/\qz.length=on+1|7=>∃A c qz,v=.slice A qz.length c/\BD w A qz.length qz (KK+4*M+5)/\qz.map RV.rd=CV (ra.L,(-l),false) (os.map RV.rd)/\(∀y∈qz,y.L.length<=M)/\qz.length=on+1|_=>True) (fun _ _ w=>Below W0.heap.size W0 w) ?_ (fun _=>Ap W0 1) ?_ ?_
                  · intro j v w w' hT h;match j,h with
                    |0,h=>exact h
                    |1,h=>exact h
                    |2,h=>exact h
                    |3,h=>exact h.below hT
                    |4,h=>exact h.below hT
                    |5,h=>exact (by obtain ⟨A,n,c,s,B,m,d,e,h1⟩:=h;exact ⟨A,n,c,s,B,m,d,e,h1.below hT⟩)
                    |6,h=>exact (by obtain ⟨A,c,qz,e,h1,h2,h3,h4⟩:=h;exact ⟨A,c,qz,e,h1.below hT,h2,h3,h4⟩)
                    |7,h=>exact (by obtain ⟨A,c,qz,e,h1,h2,h3,h4⟩:=h;exact ⟨A,c,qz,e,h1.below hT,h2,h3,h4⟩)
                    |j+8,h=>trivial
                  · refine ⟨?_,?_,?_,?_,?_,?_,?_,?_,trivial⟩
                    · intro l9 σ w a hin hout hl hc hp hG hF;refine Ad.none rfl ?_;have e8:a.tmps.getD 8 undef=.slice Ao on co:=hout 8 (Dg (j:=7) (by kernel_rfl) (Ai (k:=7) hc hl (by kernel_rfl)));refine Does.val (.slice Ao on co) (w':=w) ?_ ⟨Below.refl _ _,rfl,hG⟩;simp only[Array.getD_eq_getD_getElem?]at e8;go_simp
                    · intro l9 σ w a hin hout hl hc hp hG hF;refine Ad.none rfl ?_;have e20:a.tmps.getD 20 undef=.pointer (some ⟨w11.heap.size,0,none⟩):=hout 20 (Ae (by kernel_rfl));have CC:=SOF.out w hG;obtain ⟨C0,C1,C2,C3,C4,C5,C6⟩:=CC;refine Does.val (.agg #[.slice ra.A ra.n ra.c,.bool false,.slice none 0 0]) (w':=w) ?_ ⟨Below.refl _ _,rfl,hG⟩;go_simp
                    · intro l9 σ w a hin hout hl hc hp hG hF;refine Ad.none rfl ?_;have e12:a.tmps.getD 12 undef=.pointer (some ⟨wz.heap.size+1,0,none⟩):=hout 12 (Ae (by kernel_rfl));have CC:=SOF.out w hG;obtain ⟨C0,C1,C2,C3,C4,C5,C6⟩:=CC;refine Does.val (.agg #[.bool sl,.slice Al nl cl]) (w':=w) ?_ ⟨Below.refl _ _,rfl,hG⟩;go_simp
                    · intro l9 σ w a hin hout hl hc hp hG hF;refine Ad.none rfl ?_;have e163:a.tmps.getD 163 undef=.agg #[.bool sl,.slice Al nl cl]:=Am (hin 2 163) rfl (hp ⟨2,.data⟩ (by simp) rfl) (hF 2);refine Does.call ?_ (Gm _ l KK w (HLZ.out.below hG).in_ (by omega)) ?_
                      · go_simp
                      · rintro e w' ⟨v,rfl,z,hb⟩;exact ⟨_,rfl,hb,z,hG.next hb⟩
                    · intro l9 σ w a hin hout hl hc hp hG hF;refine Ad.none rfl ?_;have e162:a.tmps.getD 162 undef=.agg #[.slice ra.A ra.n ra.c,.bool false,.slice none 0 0]:=Am (hin 1 162) rfl (hp ⟨1,.data⟩ (by simp) rfl) (hF 1);have e164:=hin 3 164 rfl (hp ⟨3,.data⟩ (by simp) rfl);have z3:=hF 3 (hp ⟨3,.data⟩ (by simp) rfl);refine Does.call ?_ (Gv _ _ ra.L [] 0 l KK w (HP.out.below hG).in_ z3.in_ (by omega) (by simp) (by omega)) ?_
                      · go_simp
                      · rintro e w' ⟨v,rfl,z,hb⟩;exact ⟨_,rfl,hb,(z.ofEq2 (Mz HAN.out) (by omega)).mono (by simp;omega),hG.next hb⟩
                    · intro l9 σ w a hin hout hl hc hp hG hF;refine Ad.none rfl ?_;have e165:=hin 4 165 rfl (hp ⟨4,.data⟩ (by simp) rfl);have z4:=hF 4 (hp ⟨4,.data⟩ (by simp) rfl);obtain ⟨A7,n7,c7,s7,B7,m7,d7,ev7⟩:=Aw.form z4;rw[ev7]at e165 z4;refine Does.val (.agg #[.slice A7 n7 c7,.bool s7,.slice B7 m7 d7,.bool false]) (w':=w) ?_ ⟨Below.refl _ _,⟨A7,n7,c7,s7,B7,m7,d7,rfl,z4⟩,hG⟩;simp only[Array.getD_eq_getD_getElem?]at e165;go_simp
                    · intro l9 σ w a hin hout hl hc hp hG hF;refine Ad.none rfl ?_;have e161:a.tmps.getD 161 undef=.slice Ao on co:=Am (hin 0 161) rfl (hp ⟨0,.data⟩ (by simp) rfl) (hF 0);have e166:=hin 5 166 rfl (hp ⟨5,.data⟩ (by simp) rfl);have z5:=hF 5 (hp ⟨5,.data⟩ (by simp) rfl);obtain ⟨A7,n7,c7,s7,B7,m7,d7,ev7,t7⟩:=z5;rw[ev7]at e166
                      refine Does.call ?_ (F6 Ao on co os (⟨A7,n7,c7,s7,B7,m7,d7,false,ra.L,(-l)⟩:RV) (KK+4*M+5) w (HOS.out.below hG) (t7.mono (by omega)) (by omega) (fun x hx=>Nat.le_trans (HO3.out x hx) (by omega)) (by have:=HLL.out;show ((ra.L):List (Int×Int)).length<=100000;omega) (by omega)) ?_
                      · go_simp;rfl
                      · rintro e w' ⟨A8,c8,qz,rfl,q1,q2,q3,-,-,q6⟩;have h9:=congrArg List.length q2;rw[List.length_map,Fi,List.length_map,HON.out]at h9;exact ⟨_,rfl,q6,⟨A8,c8,qz,rfl,q1,q2,(fun y hy=>by rcases q3 y hy with e|e;(· rw[e];exact HLL.out);(· exact HO3.out y e)),h9⟩,hG.next q6⟩
                    · intro l9 σ w a hin hout hl hc hp hG hF;refine Ad.none rfl ?_;have e167:=hin 6 167 rfl (hp ⟨6,.data⟩ (by simp) rfl);have z6:=hF 6 (hp ⟨6,.data⟩ (by simp) rfl);obtain ⟨A8,c8,qz,ev8,q1,q2,q3,q4⟩:=z6;rw[ev8]at e167;refine Does.val (.slice A8 qz.length c8) (w':=w) ?_ ⟨Below.refl _ _,⟨A8,c8,qz,rfl,q1,q2,q3,q4⟩,hG⟩;simp only[Array.getD_eq_getD_getElem?]at e167;go_simp
                  · intro l9 σ W9 hall hG hF;rw[show mid _ σ l9 _=(Act.put (Act.put (Act.put (Act.put (Act.put (Act.put (Act.put (Act.put _ (some 161) (σ 0)) (some 162) (σ 1)) (some 163) (σ 2)) (some 164) (σ 3)) (some 165) (σ 4)) (some 166) (σ 5)) (some 167) (σ 6)) (some 8) (σ 7)) from (AU hall).trans rfl];generalize σ 0=tt0;generalize σ 1=tt1;generalize σ 2=tt2;generalize σ 3=tt3;generalize σ 4=tt4;generalize σ 5=tt5;generalize σ 6=tt6
                    have TF:∃A c qz,σ 7=.slice A qz.length c/\BD W9 A qz.length qz (KK+4*M+5)/\qz.map RV.rd=CV (ra.L,(-l),false) (os.map RV.rd)/\(∀y∈qz,y.L.length<=M)/\qz.length=on+1:=hF 7 (by decide);generalize σ 7=tt7 at TF ⊢;simp only[Act.put,List.setIfInBounds_toArray,List.set_cons_zero,List.set_cons_succ];have TG:=hG;clear hF hG hall;clear σ;obtain ⟨A8,c8,qs,e8,q1,q2x,q3,q4⟩:=TF;subst e8
                    have HE:=Ac (show IE w3 ts (KK+4*M+5) M (j+1) (.slice A8 qs.length c8) W9 from ⟨qs,A8,c8,rfl,q1,by rw[q2x];exact EQ HO2.out HAD.out HADD.out HF1.out,q3,HBO.out.next TG,by rw[q4];omega⟩);clear q1 q2x q3 q4;go_wp2_with fail;go_roundw
                    case rel=>exact ⟨j+1,by omega,by go_num,HE⟩
                    case measure=>simp[intOf]<;>omega
              · rw[hh]at f3 hI;have hfe:tb=true:=f3;subst hfe;obtain ⟨sl,Al,nl,cl,sh,Ah,nh,ch,kl,kh,zl,zh,-⟩:=hI;have HZL:=Ac (zl l rfl);have HZH:=Ac (zh h rfl);have HKL:=Ac kl;have HKH:=Ac kh;have HHH:=Ac hh;have hcm:=CH _ _ l h KK wq HZL.out.in_ HZH.out.in_ (by omega);unfold BE at hcm;have k0:=kl.c0;have k1:=kl.c1;have k2:=kh.c0;have k3:=kh.c1;clear f3 zl kl kh hh zh;rcases Ck l h with ⟨hs,hl9⟩|⟨hs,hl9⟩|⟨hs,hl9⟩
                · rw[hs]at hcm;have HNO:=Ac (Kx HO2.out HAD.out (SV HLO.out HHH.out hl9));go_wp2_with fail;refine hcm.mono ?_;rintro e w10 ⟨rfl,b10⟩;have HE:=Ac (show Jk (rs.map RV.rd) (KK+4*M+5) M w0 (.returned (.tuple #[.slice none 0 0,.bool false])) w10 from ⟨HA5.out.next (HBO.out.next b10),.inl ⟨rfl,.inr ⟨(fun r hr=>by obtain ⟨x,hx,rfl⟩:=List.mem_map.1 hr;exact HA3.out x hx),by rw[<-HA2.out];exact IA HNO.out _ (by rw[List.length_map,HPL.out];omega)⟩⟩⟩)
                  clear hcm b10 k0 k1 k2 k3;go_wp2_with fail;go_ret2
                  have HE2:=HE.out;rw[hKK]at HE2;exact HE2
                · rw[hs]at hcm;have HADD:=Ac (show DT (Cb (ts.map RV.rd) ra.rd)=some [tt (ra.L,-l,true)] by rw[Ur HLO.out HHH.out hl9,HSP.out]);clear hl9;go_wp2_with fail;refine hcm.mono ?_;rintro e w10 ⟨rfl,b10⟩;replace HOS:=Ac (HOS.out.below b10);replace HBO:=Ac (HBO.out.next b10);replace HAX:=Ac (HAX.out.next b10);replace HTA:=Ac (HTA.out.below b10);replace HKL:=Ac (HKL.out.next b10);replace HKH:=Ac (HKH.out.next b10);replace HZL:=Ac (HZL.out.below b10)
                  replace HZH:=Ac (HZH.out.below b10);clear hcm b10 k0 k1 k2 k3;cases fst with
                  |false=>
                    have HE:=Ac (show IE w3 ts (KK+4*M+5) M (j+1) (.slice Ao on co) w10 from ⟨os,Ao,co,by rw[HON.out],by rw[HON.out];exact HOS.out,ER HO2.out HAD.out HADD.out HF1.out,HO3.out,HBO.out,by rw[HON.out];omega⟩);go_wp2_with fail;go_roundw
                    case rel=>exact ⟨j+1,by omega,by go_num,HE⟩
                    case measure=>simp[intOf]<;>omega
                  |true=>
                    have hpt:=Ca ra.A ra.n ra.c ra.s ra.B ra.m ra.d w10;have x0:=HAX.out.r0;have x1:=HAX.out.r1;have x2:=HAX.out.r2;go_wp2_with fail;refine hpt.mono ?_;rintro e w11 ⟨rfl,b11⟩;have HBP:=Ac (AK.new 40 w11 #[.slice ra.A ra.n ra.c,.bool false,.slice none 0 0]);have HY:=Ac (b11.next (Af w11 (.cells #[.slice ra.A ra.n ra.c,.bool false,.slice none 0 0] 40)));clear hpt x0 x1 x2 b11;replace HOS:=Ac (HOS.out.below HY.out)
                    replace HBO:=Ac (HBO.out.next HY.out);replace HAX:=Ac (HAX.out.next HY.out);replace HTA:=Ac (HTA.out.below HY.out);replace HKL:=Ac (HKL.out.next HY.out);replace HKH:=Ac (HKH.out.next HY.out);replace HZL:=Ac (HZL.out.below HY.out);replace HZH:=Ac (HZH.out.below HY.out);go_upto_region 37 with fail;generalize hW:(w11.alloc (.cells #[.slice ra.A ra.n ra.c,.bool false,.slice none 0 0] 40))=W1 at *;clear hW
                    have hcm:=CH _ _ l h KK W1 HZL.out.in_ HZH.out.in_ (by omega);unfold BE at hcm;rw[hs]at hcm;have k0:=HKL.out.c0;have k1:=HKL.out.c1;have k2:=HKH.out.c0;have k3:=HKH.out.c1;go_wp2_with fail;refine hcm.mono ?_;rintro e W0 ⟨rfl,b12⟩;replace HBP:=Ac (HBP.out.next b12);replace HOS:=Ac (HOS.out.below b12);replace HBO:=Ac (HBO.out.next b12);replace HAX:=Ac (HAX.out.next b12);replace HTA:=Ac (HTA.out.below b12);replace HKL:=Ac (HKL.out.next b12)
                    replace HKH:=Ac (HKH.out.next b12);replace HZL:=Ac (HZL.out.below b12);replace HZH:=Ac (HZH.out.below b12);clear hcm b12 k0 k1 k2 k3;go_upto_region 38 with fail;have HP:=Ac HTA.out.parts;have HLZ:=HZL;have HHZ:=HZH
                    have SOF:=Ac (show ∀W,Below W0.heap.size W0 W->(W.cell? ⟨w11.heap.size,0,none⟩=some (.slice ra.A ra.n ra.c)/\W.cell? ⟨w11.heap.size,1,none⟩=some (.bool false)/\W.cell? ⟨w11.heap.size,2,none⟩=some (.slice none 0 0)/\W.cell? ⟨wz.heap.size+1,0,none⟩=some (.bool sl)/\W.cell? ⟨wz.heap.size+1,1,none⟩=some (.slice Al nl cl)/\W.cell? ⟨wz.heap.size+1+1,0,none⟩=some (.bool sh)/\W.cell? ⟨wz.heap.size+1+1,1,none⟩=some (.slice Ah nh ch)) from fun W hG=>⟨(HBP.out.next hG).c0,(HBP.out.next hG).c1,(HBP.out.next hG).c2,(HKL.out.next hG).c0,(HKL.out.next hG).c1,(HKH.out.next hG).c0,(HKH.out.next hG).c1⟩)
                    have HOK:=Ac (show ∀ps0∈([⟨9,10,42,#[.slice none 0 0,.bool false,.slice none 0 0,.bool false],fun cs w=>∃A n c s B m d,cs=#[.slice A n c,.bool s,.slice B m d,.bool (FG ra.L (-l) true)]/\Aw w (.agg #[.slice A n c,.bool s,.slice B m d]) (K9 ra.L (-l) true) (Mk ra.L (-l) true) (KK+4*M+5)⟩]:List FA),∀cs w w',(KB) w w'->ps0.ok cs w->ps0.ok cs w' from fun ps0 hp cs w w' hT h=>by
                      simp only[List.mem_cons,List.not_mem_nil,or_false]at hp;rcases hp with rfl
                      · (dsimp only at h ⊢;obtain ⟨A,n,c,s,B,m,d,e,h⟩:=h;exact ⟨A,n,c,s,B,m,d,e,h.kb hT⟩))
                    refine AO (by kernel_rfl) (by kernel_rfl) (by kernel_rfl) (KB) (fun j v w=>match j with|0=>v=.agg #[.slice ra.A ra.n ra.c,.bool false,.slice none 0 0]|1=>v=.agg #[.bool sl,.slice Al nl cl]|2=>Aw w v [] l KK|3=>Aw w v ra.L (-l) (KK+3+M)|4=>DC w v ra.L (-l) true (KK+3+M)|5=>∃r,v=.tuple #[r,.int .i64 (AR ra.L (-l) true)]/\DC w r (K9 ra.L (-l) true) (Mk ra.L (-l) true) (FG ra.L (-l) true) (KK+4*M+5)|6=>∃r,v=.tuple #[r,.int .i64 (AR ra.L (-l) true)]/\DC w r (K9 ra.L (-l) true) (Mk ra.L (-l) true) (FG ra.L (-l) true) (KK+4*M+5)|7=>DC w v (K9 ra.L (-l) true) (Mk ra.L (-l) true) (FG ra.L (-l) true) (KK+4*M+5)|8=>v=.int .i64 (AR ra.L (-l) true)|9=>True|10=>True|11=>v=.int .i64 (AR ra.L (-l) true)|_=>True) (GB W0 12 [⟨9,10,42,#[.slice none 0 0,.bool false,.slice none 0 0,.bool false],fun cs w=>∃A n c s B m d,cs=#[.slice A n c,.bool s,.slice B m d,.bool (FG ra.L (-l) true)]/\Aw w (.agg #[.slice A n c,.bool s,.slice B m d]) (K9 ra.L (-l) true) (Mk ra.L (-l) true) (KK+4*M+5)⟩]) ?_ (fun _=>GB.start (Ap W0 1)) ?_ ?_
                    · intro j v w w' hT h;match j,h with
                      |0,h=>exact h
                      |1,h=>exact h
                      |2,h=>exact h.kb hT
                      |3,h=>exact h.kb hT
                      |4,h=>exact (by obtain ⟨A,n,c,s,B,m,d,e,h1⟩:=h;exact ⟨A,n,c,s,B,m,d,e,h1.kb hT⟩)
                      |5,h=>exact (by obtain ⟨r,e,A,n,c,s,B,m,d,e2,h1⟩:=h;exact ⟨r,e,A,n,c,s,B,m,d,e2,h1.kb hT⟩)
                      |6,h=>exact (by obtain ⟨r,e,A,n,c,s,B,m,d,e2,h1⟩:=h;exact ⟨r,e,A,n,c,s,B,m,d,e2,h1.kb hT⟩)
                      |7,h=>exact (by obtain ⟨A,n,c,s,B,m,d,e,h1⟩:=h;exact ⟨A,n,c,s,B,m,d,e,h1.kb hT⟩)
                      |8,h=>exact h
                      |9,h=>trivial
                      |10,h=>trivial
                      |11,h=>exact h
                      |j+12,h=>trivial
                    · refine ⟨?_,?_,?_,?_,?_,?_,?_,?_,?_,?_,?_,?_,trivial⟩
                      · intro l9 σ w a hin hout hl hc hp hG hF;refine Ad.none rfl ?_;have e20:a.tmps.getD 20 undef=.pointer (some ⟨w11.heap.size,0,none⟩):=hout 20 (Ae (by kernel_rfl));have CC:=SOF.out w hG.2.1;obtain ⟨C0,C1,C2,C3,C4,C5,C6⟩:=CC;refine Does.val (.agg #[.slice ra.A ra.n ra.c,.bool false,.slice none 0 0]) (w':=w) ?_ ⟨KB.refl _,rfl,hG.keep HOK.out (by rfl) (Below.refl _ _) (KB.refl _)⟩;go_simp
                      · intro l9 σ w a hin hout hl hc hp hG hF;refine Ad.none rfl ?_;have e12:a.tmps.getD 12 undef=.pointer (some ⟨wz.heap.size+1,0,none⟩):=hout 12 (Ae (by kernel_rfl));have CC:=SOF.out w hG.2.1;obtain ⟨C0,C1,C2,C3,C4,C5,C6⟩:=CC;refine Does.val (.agg #[.bool sl,.slice Al nl cl]) (w':=w) ?_ ⟨KB.refl _,rfl,hG.keep HOK.out (by rfl) (Below.refl _ _) (KB.refl _)⟩;go_simp
                      · intro l9 σ w a hin hout hl hc hp hG hF;refine Ad.none rfl ?_;have e150:a.tmps.getD 150 undef=.agg #[.bool sl,.slice Al nl cl]:=Am (hin 1 150) rfl (hp ⟨1,.data⟩ (by simp) rfl) (hF 1);refine Does.call ?_ (Gm _ l KK w (HLZ.out.below hG.2.1).in_ (by omega)) ?_
                        · go_simp
                        · rintro e w' ⟨v,rfl,z,hb⟩;exact ⟨_,rfl,KB.of_below hb,z,hG.keep HOK.out (by rfl) (hb) (KB.of_below hb)⟩
                      · intro l9 σ w a hin hout hl hc hp hG hF;refine Ad.none rfl ?_;have e149:a.tmps.getD 149 undef=.agg #[.slice ra.A ra.n ra.c,.bool false,.slice none 0 0]:=Am (hin 0 149) rfl (hp ⟨0,.data⟩ (by simp) rfl) (hF 0);have e151:=hin 2 151 rfl (hp ⟨2,.data⟩ (by simp) rfl);have z2:=hF 2 (hp ⟨2,.data⟩ (by simp) rfl);refine Does.call ?_ (Gv _ _ ra.L [] 0 l KK w (HP.out.below hG.2.1).in_ z2.in_ (by omega) (by simp) (by omega)) ?_
                        · go_simp
                        · rintro e w' ⟨v,rfl,z,hb⟩;exact ⟨_,rfl,KB.of_below hb,(z.ofEq2 (Mz HAN.out) (by omega)).mono (by simp;omega),hG.keep HOK.out (by rfl) (hb) (KB.of_below hb)⟩
                      · intro l9 σ w a hin hout hl hc hp hG hF;refine Ad.none rfl ?_;have e152:=hin 3 152 rfl (hp ⟨3,.data⟩ (by simp) rfl);have z3:=hF 3 (hp ⟨3,.data⟩ (by simp) rfl);obtain ⟨A7,n7,c7,s7,B7,m7,d7,ev7⟩:=Aw.form z3;rw[ev7]at e152 z3;refine Does.val (.agg #[.slice A7 n7 c7,.bool s7,.slice B7 m7 d7,.bool true]) (w':=w) ?_ ⟨KB.refl _,⟨A7,n7,c7,s7,B7,m7,d7,rfl,z3⟩,hG.keep HOK.out (by rfl) (Below.refl _ _) (KB.refl _)⟩
                        simp only[Array.getD_eq_getD_getElem?]at e152;go_simp
                      · intro l9 σ w a hin hout hl hc hp hG hF;refine Ad.none rfl ?_;have e153:=hin 4 153 rfl (hp ⟨4,.data⟩ (by simp) rfl);have z4:=hF 4 (hp ⟨4,.data⟩ (by simp) rfl);obtain ⟨A7,n7,c7,s7,B7,m7,d7,ev7,t7⟩:=z4;refine Does.call ?_ (Iz _ ra.L (-l) true (KK+3+M) w ⟨A7,n7,c7,s7,B7,m7,d7,ev7,t7.in_⟩ (by omega) (by omega)) ?_
                        · go_simp
                        · rintro e w' ⟨v2,rfl,⟨A9,n9,c9,s9,B9,m9,d9,ev9,t9⟩,hb⟩;exact ⟨_,rfl,KB.of_below hb,⟨v2,rfl,A9,n9,c9,s9,B9,m9,d9,ev9,t9.mono (by omega)⟩,hG.keep HOK.out (by rfl) (hb) (KB.of_below hb)⟩
                      · intro l9 σ w a hin hout hl hc hp hG hF;refine Ad.none rfl ?_;have e154:=hin 5 154 rfl (hp ⟨5,.data⟩ (by simp) rfl);have z5:=hF 5 (hp ⟨5,.data⟩ (by simp) rfl);obtain ⟨r6,ev6,t6⟩:=z5;rw[ev6]at e154;refine Does.val (.tuple #[r6,.int .i64 (AR ra.L (-l) true)]) (w':=w) ?_ ⟨KB.refl _,⟨r6,rfl,t6⟩,hG.keep HOK.out (by rfl) (Below.refl _ _) (KB.refl _)⟩;simp only[Array.getD_eq_getD_getElem?]at e154;go_simp
                      · intro l9 σ w a hin hout hl hc hp hG hF;refine Ad.none rfl ?_;have e148:=hin 6 148 rfl (hp ⟨6,.data⟩ (by simp) rfl);have z6:=hF 6 (hp ⟨6,.data⟩ (by simp) rfl);obtain ⟨r6,ev6,t6⟩:=z6;rw[ev6]at e148;refine Does.val r6 (w':=w) ?_ ⟨KB.refl _,t6,hG.keep HOK.out (by rfl) (Below.refl _ _) (KB.refl _)⟩;simp only[Array.getD_eq_getD_getElem?]at e148;go_simp
                      · intro l9 σ w a hin hout hl hc hp hG hF;refine Ad.none rfl ?_;have e148:=hin 6 148 rfl (hp ⟨6,.data⟩ (by simp) rfl);have z6:=hF 6 (hp ⟨6,.data⟩ (by simp) rfl);obtain ⟨r6,ev6,t6⟩:=z6;rw[ev6]at e148;refine Does.val (.int .i64 (AR ra.L (-l) true)) (w':=w) ?_ ⟨KB.refl _,rfl,hG.keep HOK.out (by rfl) (Below.refl _ _) (KB.refl _)⟩;simp only[Array.getD_eq_getD_getElem?]at e148;go_simp
                      · intro l9 σ w a hin hout hl hc hp hG hF;refine Ad.none rfl ?_
                        refine Does.val (.pointer (some ⟨w.heap.size,0,none⟩)) (w':=w.alloc (.cells #[.slice none 0 0,.bool false,.slice none 0 0,.bool false] 42)) ?_ ⟨KB.of_below (Af w _),trivial,hG.made HOK.out (by rfl) (List.Mem.head _) rfl (Ai (k:=10) hc hl (by kernel_rfl)) (fun q hq hqe=>by simp only[List.mem_cons,List.not_mem_nil,or_false]at hq;rcases hq with rfl<;>first|rfl|(simp at hqe)) (KB.of_below (Af w _))⟩
                        go_simp
                      · intro l9 σ w a hin hout hl hc hp hG hF;refine Ad.none rfl ?_;obtain ⟨g9,cs9,eg9,hg9,xb9,hz9,-⟩:=GB.at_ hG (List.Mem.head _) (hp ⟨9,.data⟩ (by simp) rfl);have e21:=(hin 9 21 rfl (hp ⟨9,.data⟩ (by simp) rfl)).trans eg9;have e155:=hin 7 155 rfl (hp ⟨7,.data⟩ (by simp) rfl);have z7:=hF 7 (hp ⟨7,.data⟩ (by simp) rfl);have ez:=hz9 hl;subst ez;have xb:=xb9;obtain ⟨A8,n8,c8,s8,B8,m8,d8,ev8,t8⟩:=z7;rw[ev8]at e155
                        have hf:(fun cs w=>∃A n c s B m d,cs=#[.slice A n c,.bool s,.slice B m d,.bool (FG ra.L (-l) true)]/\Aw w (.agg #[.slice A n c,.bool s,.slice B m d]) (K9 ra.L (-l) true) (Mk ra.L (-l) true) (KK+4*M+5):Array Value->World->Prop) #[.slice A8 n8 c8,.bool s8,.slice B8 m8 d8,.bool (FG ra.L (-l) true)] w:=⟨_,_,_,_,_,_,_,rfl,t8⟩
                        refine Does.store_box (T:=42) (cells:=#[.slice A8 n8 c8,.bool s8,.slice B8 m8 d8,.bool (FG ra.L (-l) true)]) rfl e21 e155 xb (by kernel_rfl) rfl (by simp[Value.oneCell']) (fun w2 x9 o9=>?_);have t9:(KB) w w2:=KB.rel xb o9
                        exact ⟨t9,trivial,hG.filled HOK.out (by rfl) (List.Mem.head _) rfl (by decide) eg9 hg9 x9 o9 (HOK.out _ (List.Mem.head _) _ w w2 t9 hf) t9 (hp ⟨9,.data⟩ (by simp) rfl) (fun q hq hqe=>by simp only[List.mem_cons,List.not_mem_nil,or_false]at hq;rcases hq with rfl<;>first|rfl|(simp at hqe))⟩
                      · intro l9 σ w a hin hout hl hc hp hG hF;refine Ad.none rfl ?_;have e156:=hin 8 156 rfl (hp ⟨8,.data⟩ (by simp) rfl);have z8:=hF 8 (hp ⟨8,.data⟩ (by simp) rfl);rw[z8]at e156;refine Does.val (.int .i64 (AR ra.L (-l) true)) (w':=w) ?_ ⟨KB.refl _,rfl,hG.keep HOK.out (by rfl) (Below.refl _ _) (KB.refl _)⟩;simp only[Array.getD_eq_getD_getElem?]at e156;go_simp
                    · intro l9 σ W9 hall hG hF;rw[show mid _ σ l9 _=(Act.put (Act.put (Act.put (Act.put (Act.put (Act.put (Act.put (Act.put (Act.put (Act.put (Act.put (Act.put _ (some 149) (σ 0)) (some 150) (σ 1)) (some 151) (σ 2)) (some 152) (σ 3)) (some 153) (σ 4)) (some 154) (σ 5)) (some 148) (σ 6)) (some 155) (σ 7)) (some 156) (σ 8)) (some 21) (σ 9)) none (σ 10)) (some 22) (σ 11)) from (AU hall).trans rfl]
                      obtain ⟨g9,cs9,eg9,hg9,xb9,-,hk9⟩:=GB.at_ hG (List.Mem.head _) (hall 9 (by decide));have hk9:=hk9 (hall 10 (by decide));rw[show σ 9=_ from eg9];generalize σ 0=tt0;generalize σ 1=tt1;generalize σ 2=tt2;generalize σ 3=tt3;generalize σ 4=tt4;generalize σ 5=tt5;generalize σ 6=tt6;generalize σ 7=tt7;generalize σ 8=tt8;generalize σ 11=tt11;simp only[Act.put,List.setIfInBounds_toArray,List.set_cons_zero,List.set_cons_succ];have TG:=hG.2.1
                      clear hF hG hall eg9;clear σ;obtain ⟨A8,n8,c8,s8,B8,m8,d8,rfl,t8⟩:=hk9;have y0:=xb9.r0;have y1:=xb9.r1;have y2:=xb9.r2;have y3:=xb9.r3
                      have hin:=F6 Ao on co os (⟨A8,n8,c8,s8,B8,m8,d8,FG ra.L (-l) true,K9 ra.L (-l) true,Mk ra.L (-l) true⟩:RV) (KK+4*M+5) W9 (HOS.out.below TG) t8 (by omega) (fun x hx=>Nat.le_trans (HO3.out x hx) (by omega)) (by have:=HLL.out;have:=Jj ra.L (-l) true;show (K9 ra.L (-l) true).length<=100000;omega) (by omega);clear t8 xb9;go_wp2_with fail;refine hin.mono ?_;rintro e w13 ⟨A7,c7,qs,rfl,q1,q2x,q4,-,-,q6⟩;have h9:=congrArg List.length q2x
                      rw[List.length_map,Fi,List.length_map,HON.out]at h9;have q3:∀y∈qs,y.L.length<=M:=fun y hy=>by
                        rcases q4 y hy with e|e
                        · rw[e];exact Nat.le_trans (Jj ra.L (-l) true) HLL.out
                        · exact HO3.out y e
                      have HE:=Ac (show IE w3 ts (KK+4*M+5) M (j+1) (.slice A7 qs.length c7) w13 from ⟨qs,A7,c7,rfl,q1,by rw[q2x];exact EQ HO2.out HAD.out HADD.out HF1.out,q3,(HBO.out.next TG).next q6,by rw[h9];omega⟩);clear q1 q2x q3 q4 h9 hin y0 y1 y2 y3 q6;go_wp2_with fail;go_roundw
                      case rel=>exact ⟨j+1,by omega,by go_num,HE⟩
                      case measure=>simp[intOf]<;>omega
                · rw[hs]at hcm;have HADD:=Ac (show DT (Cb (ts.map RV.rd) ra.rd)=some [(ra.L,-l,false),(AZ ra.L,h,false)] by rw[Us HLO.out HHH.out hl9,HSP.out]);clear hl9;go_wp2_with fail;refine hcm.mono ?_;rintro e w10 ⟨rfl,b10⟩;replace HOS:=Ac (HOS.out.below b10);replace HBO:=Ac (HBO.out.next b10);replace HAX:=Ac (HAX.out.next b10);replace HTA:=Ac (HTA.out.below b10);replace HKL:=Ac (HKL.out.next b10);replace HKH:=Ac (HKH.out.next b10)
                  replace HZL:=Ac (HZL.out.below b10);replace HZH:=Ac (HZH.out.below b10);clear hcm b10 k0 k1 k2 k3;cases fst with
                  |false=>
                    have HE:=Ac (show IE w3 ts (KK+4*M+5) M (j+1) (.slice Ao on co) w10 from ⟨os,Ao,co,by rw[HON.out],by rw[HON.out];exact HOS.out,ER HO2.out HAD.out HADD.out HF1.out,HO3.out,HBO.out,by rw[HON.out];omega⟩);go_wp2_with fail;go_roundw
                    case rel=>exact ⟨j+1,by omega,by go_num,HE⟩
                    case measure=>simp[intOf]<;>omega
                  |true=>
                    have hpt:=Ca ra.A ra.n ra.c ra.s ra.B ra.m ra.d w10;have x0:=HAX.out.r0;have x1:=HAX.out.r1;have x2:=HAX.out.r2;go_wp2_with fail;refine hpt.mono ?_;rintro e w11 ⟨rfl,b11⟩;have HBP:=Ac (AK.new 40 w11 #[.slice ra.A ra.n ra.c,.bool false,.slice none 0 0]);have HY:=Ac (b11.next (Af w11 (.cells #[.slice ra.A ra.n ra.c,.bool false,.slice none 0 0] 40)));clear hpt x0 x1 x2 b11;replace HOS:=Ac (HOS.out.below HY.out)
                    replace HBO:=Ac (HBO.out.next HY.out);replace HAX:=Ac (HAX.out.next HY.out);replace HTA:=Ac (HTA.out.below HY.out);replace HKL:=Ac (HKL.out.next HY.out);replace HKH:=Ac (HKH.out.next HY.out);replace HZL:=Ac (HZL.out.below HY.out);replace HZH:=Ac (HZH.out.below HY.out);go_upto_region 37 with fail;generalize hW:(w11.alloc (.cells #[.slice ra.A ra.n ra.c,.bool false,.slice none 0 0] 40))=W1 at *;clear hW
                    have hcm:=CH _ _ l h KK W1 HZL.out.in_ HZH.out.in_ (by omega);unfold BE at hcm;rw[hs]at hcm;have k0:=HKL.out.c0;have k1:=HKL.out.c1;have k2:=HKH.out.c0;have k3:=HKH.out.c1;go_wp2_with fail;refine hcm.mono ?_;rintro e W0 ⟨rfl,b12⟩;replace HBP:=Ac (HBP.out.next b12);replace HOS:=Ac (HOS.out.below b12);replace HBO:=Ac (HBO.out.next b12);replace HAX:=Ac (HAX.out.next b12);replace HTA:=Ac (HTA.out.below b12);replace HKL:=Ac (HKL.out.next b12)
                    replace HKH:=Ac (HKH.out.next b12);replace HZL:=Ac (HZL.out.below b12);replace HZH:=Ac (HZH.out.below b12);clear hcm b12 k0 k1 k2 k3;go_upto_region 41 with fail;have HP:=Ac HTA.out.parts;have HLZ:=HZL;have HHZ:=HZH
                    have SOF:=Ac (show ∀W,Below W0.heap.size W0 W->(W.cell? ⟨w11.heap.size,0,none⟩=some (.slice ra.A ra.n ra.c)/\W.cell? ⟨w11.heap.size,1,none⟩=some (.bool false)/\W.cell? ⟨w11.heap.size,2,none⟩=some (.slice none 0 0)/\W.cell? ⟨wz.heap.size+1,0,none⟩=some (.bool sl)/\W.cell? ⟨wz.heap.size+1,1,none⟩=some (.slice Al nl cl)/\W.cell? ⟨wz.heap.size+1+1,0,none⟩=some (.bool sh)/\W.cell? ⟨wz.heap.size+1+1,1,none⟩=some (.slice Ah nh ch)) from fun W hG=>⟨(HBP.out.next hG).c0,(HBP.out.next hG).c1,(HBP.out.next hG).c2,(HKL.out.next hG).c0,(HKL.out.next hG).c1,(HKH.out.next hG).c0,(HKH.out.next hG).c1⟩)
                    refine AO (by kernel_rfl) (by kernel_rfl) (by kernel_rfl) (fun w w'=>Below w.heap.size w w') (fun j v w=>match j with|0=>v=.slice Ao on co|1=>v=.agg #[.slice ra.A ra.n ra.c,.bool false,.slice none 0 0]|2=>v=.agg #[.bool sl,.slice Al nl cl]|3=>Aw w v [] l KK|4=>Aw w v ra.L (-l) (KK+3+M)|5=>DC w v ra.L (-l) false (KK+3+M)|6=>∃A c qz,v=.slice A qz.length c/\BD w A qz.length qz (KK+4*M+5)/\qz.map RV.rd=CV (ra.L,(-l),false) (os.map RV.rd)/\(∀y∈qz,y.L.length<=M)/\qz.length=on+1|7=>∃A c qz,v=.slice A qz.length c/\BD w A qz.length qz (KK+4*M+5)/\qz.map RV.rd=CV (ra.L,(-l),false) (os.map RV.rd)/\(∀y∈qz,y.L.length<=M)/\qz.length=on+1|_=>True) (fun _ _ w=>Below W0.heap.size W0 w) ?_ (fun _=>Ap W0 1) ?_ ?_
                    · intro j v w w' hT h;match j,h with
                      |0,h=>exact h
                      |1,h=>exact h
                      |2,h=>exact h
                      |3,h=>exact h.below hT
                      |4,h=>exact h.below hT
                      |5,h=>exact (by obtain ⟨A,n,c,s,B,m,d,e,h1⟩:=h;exact ⟨A,n,c,s,B,m,d,e,h1.below hT⟩)
                      |6,h=>exact (by obtain ⟨A,c,qz,e,h1,h2,h3,h4⟩:=h;exact ⟨A,c,qz,e,h1.below hT,h2,h3,h4⟩)
                      |7,h=>exact (by obtain ⟨A,c,qz,e,h1,h2,h3,h4⟩:=h;exact ⟨A,c,qz,e,h1.below hT,h2,h3,h4⟩)
                      |j+8,h=>trivial
                    · refine ⟨?_,?_,?_,?_,?_,?_,?_,?_,trivial⟩
                      · intro l9 σ w a hin hout hl hc hp hG hF;refine Ad.none rfl ?_;have e8:a.tmps.getD 8 undef=.slice Ao on co:=hout 8 (Dg (j:=7) (by kernel_rfl) (Ai (k:=7) hc hl (by kernel_rfl)));refine Does.val (.slice Ao on co) (w':=w) ?_ ⟨Below.refl _ _,rfl,hG⟩;simp only[Array.getD_eq_getD_getElem?]at e8;go_simp
                      · intro l9 σ w a hin hout hl hc hp hG hF;refine Ad.none rfl ?_;have e20:a.tmps.getD 20 undef=.pointer (some ⟨w11.heap.size,0,none⟩):=hout 20 (Ae (by kernel_rfl));have CC:=SOF.out w hG;obtain ⟨C0,C1,C2,C3,C4,C5,C6⟩:=CC;refine Does.val (.agg #[.slice ra.A ra.n ra.c,.bool false,.slice none 0 0]) (w':=w) ?_ ⟨Below.refl _ _,rfl,hG⟩;go_simp
                      · intro l9 σ w a hin hout hl hc hp hG hF;refine Ad.none rfl ?_;have e12:a.tmps.getD 12 undef=.pointer (some ⟨wz.heap.size+1,0,none⟩):=hout 12 (Ae (by kernel_rfl));have CC:=SOF.out w hG;obtain ⟨C0,C1,C2,C3,C4,C5,C6⟩:=CC;refine Does.val (.agg #[.bool sl,.slice Al nl cl]) (w':=w) ?_ ⟨Below.refl _ _,rfl,hG⟩;go_simp
                      · intro l9 σ w a hin hout hl hc hp hG hF;refine Ad.none rfl ?_;have e163:a.tmps.getD 163 undef=.agg #[.bool sl,.slice Al nl cl]:=Am (hin 2 163) rfl (hp ⟨2,.data⟩ (by simp) rfl) (hF 2);refine Does.call ?_ (Gm _ l KK w (HLZ.out.below hG).in_ (by omega)) ?_
                        · go_simp
                        · rintro e w' ⟨v,rfl,z,hb⟩;exact ⟨_,rfl,hb,z,hG.next hb⟩
                      · intro l9 σ w a hin hout hl hc hp hG hF;refine Ad.none rfl ?_;have e162:a.tmps.getD 162 undef=.agg #[.slice ra.A ra.n ra.c,.bool false,.slice none 0 0]:=Am (hin 1 162) rfl (hp ⟨1,.data⟩ (by simp) rfl) (hF 1);have e164:=hin 3 164 rfl (hp ⟨3,.data⟩ (by simp) rfl);have z3:=hF 3 (hp ⟨3,.data⟩ (by simp) rfl);refine Does.call ?_ (Gv _ _ ra.L [] 0 l KK w (HP.out.below hG).in_ z3.in_ (by omega) (by simp) (by omega)) ?_
                        · go_simp
                        · rintro e w' ⟨v,rfl,z,hb⟩;exact ⟨_,rfl,hb,(z.ofEq2 (Mz HAN.out) (by omega)).mono (by simp;omega),hG.next hb⟩
                      · intro l9 σ w a hin hout hl hc hp hG hF;refine Ad.none rfl ?_;have e165:=hin 4 165 rfl (hp ⟨4,.data⟩ (by simp) rfl);have z4:=hF 4 (hp ⟨4,.data⟩ (by simp) rfl);obtain ⟨A7,n7,c7,s7,B7,m7,d7,ev7⟩:=Aw.form z4;rw[ev7]at e165 z4;refine Does.val (.agg #[.slice A7 n7 c7,.bool s7,.slice B7 m7 d7,.bool false]) (w':=w) ?_ ⟨Below.refl _ _,⟨A7,n7,c7,s7,B7,m7,d7,rfl,z4⟩,hG⟩;simp only[Array.getD_eq_getD_getElem?]at e165;go_simp
                      · intro l9 σ w a hin hout hl hc hp hG hF;refine Ad.none rfl ?_;have e161:a.tmps.getD 161 undef=.slice Ao on co:=Am (hin 0 161) rfl (hp ⟨0,.data⟩ (by simp) rfl) (hF 0);have e166:=hin 5 166 rfl (hp ⟨5,.data⟩ (by simp) rfl);have z5:=hF 5 (hp ⟨5,.data⟩ (by simp) rfl);obtain ⟨A7,n7,c7,s7,B7,m7,d7,ev7,t7⟩:=z5;rw[ev7]at e166
                        refine Does.call ?_ (F6 Ao on co os (⟨A7,n7,c7,s7,B7,m7,d7,false,ra.L,(-l)⟩:RV) (KK+4*M+5) w (HOS.out.below hG) (t7.mono (by omega)) (by omega) (fun x hx=>Nat.le_trans (HO3.out x hx) (by omega)) (by have:=HLL.out;show ((ra.L):List (Int×Int)).length<=100000;omega) (by omega)) ?_
                        · go_simp;rfl
                        · rintro e w' ⟨A8,c8,qz,rfl,q1,q2,q3,-,-,q6⟩;have h9:=congrArg List.length q2;rw[List.length_map,Fi,List.length_map,HON.out]at h9;exact ⟨_,rfl,q6,⟨A8,c8,qz,rfl,q1,q2,(fun y hy=>by rcases q3 y hy with e|e;(· rw[e];exact HLL.out);(· exact HO3.out y e)),h9⟩,hG.next q6⟩
                      · intro l9 σ w a hin hout hl hc hp hG hF;refine Ad.none rfl ?_;have e167:=hin 6 167 rfl (hp ⟨6,.data⟩ (by simp) rfl);have z6:=hF 6 (hp ⟨6,.data⟩ (by simp) rfl);obtain ⟨A8,c8,qz,ev8,q1,q2,q3,q4⟩:=z6;rw[ev8]at e167;refine Does.val (.slice A8 qz.length c8) (w':=w) ?_ ⟨Below.refl _ _,⟨A8,c8,qz,rfl,q1,q2,q3,q4⟩,hG⟩;simp only[Array.getD_eq_getD_getElem?]at e167;go_simp
                    · intro l9 σ W9 hall hG hF;rw[show mid _ σ l9 _=(Act.put (Act.put (Act.put (Act.put (Act.put (Act.put (Act.put (Act.put _ (some 161) (σ 0)) (some 162) (σ 1)) (some 163) (σ 2)) (some 164) (σ 3)) (some 165) (σ 4)) (some 166) (σ 5)) (some 167) (σ 6)) (some 8) (σ 7)) from (AU hall).trans rfl];generalize σ 0=tt0;generalize σ 1=tt1;generalize σ 2=tt2;generalize σ 3=tt3;generalize σ 4=tt4;generalize σ 5=tt5;generalize σ 6=tt6
                      have TF:∃A c qz,σ 7=.slice A qz.length c/\BD W9 A qz.length qz (KK+4*M+5)/\qz.map RV.rd=CV (ra.L,(-l),false) (os.map RV.rd)/\(∀y∈qz,y.L.length<=M)/\qz.length=on+1:=hF 7 (by decide);generalize σ 7=tt7 at TF ⊢;simp only[Act.put,List.setIfInBounds_toArray,List.set_cons_zero,List.set_cons_succ];have TG:=hG;clear hF hG hall;clear σ;have HLN:=Ac (show (AZ ra.L).length<=M by rw[Cd HAN.out,List.length_map];exact HLL.out)
                      obtain ⟨A8,c8,qs,e8,q1,q2x,q3,q4⟩:=TF;subst e8;generalize W9=W8 at *;have HQS:=Ac q1;have HQR:=Ac q2x;have HQM:=Ac q3;generalize hn1:qs.length=n1 at *;have HQN:=Ac hn1;have hq4:n1=on+1:=q4;have HQ4:=Ac hq4;have hn9:n1<=500:=(by omega);clear q1 q2x q3 q4 hn1 hq4 SOF;replace HBP:=Ac (HBP.out.next TG);replace HOS:=Ac (HOS.out.below TG);replace HBO:=Ac (HBO.out.next TG);replace HAX:=Ac (HAX.out.next TG);replace HTA:=Ac (HTA.out.below TG)
                      replace HKL:=Ac (HKL.out.next TG);replace HKH:=Ac (HKH.out.next TG);replace HZL:=Ac (HZL.out.below TG);replace HZH:=Ac (HZH.out.below TG);clear HP HLZ HHZ TG;go_upto_region 43 with fail;have HP:=Ac HTA.out.parts;have HLZ:=HZL;have HHZ:=HZH
                      have SOF:=Ac (show ∀W,Below W8.heap.size W8 W->(W.cell? ⟨w11.heap.size,0,none⟩=some (.slice ra.A ra.n ra.c)/\W.cell? ⟨w11.heap.size,1,none⟩=some (.bool false)/\W.cell? ⟨w11.heap.size,2,none⟩=some (.slice none 0 0)/\W.cell? ⟨wz.heap.size+1,0,none⟩=some (.bool sl)/\W.cell? ⟨wz.heap.size+1,1,none⟩=some (.slice Al nl cl)/\W.cell? ⟨wz.heap.size+1+1,0,none⟩=some (.bool sh)/\W.cell? ⟨wz.heap.size+1+1,1,none⟩=some (.slice Ah nh ch)) from fun W hG=>⟨(HBP.out.next hG).c0,(HBP.out.next hG).c1,(HBP.out.next hG).c2,(HKL.out.next hG).c0,(HKL.out.next hG).c1,(HKH.out.next hG).c0,(HKH.out.next hG).c1⟩)
                      refine AO (by kernel_rfl) (by kernel_rfl) (by kernel_rfl) (fun w w'=>Below w.heap.size w w') (fun j v w=>match j with|0=>v=.slice A8 n1 c8|1=>v=.agg #[.bool sh,.slice Ah nh ch]|2=>Aw w v [] h KK|3=>v=.agg #[.slice ra.A ra.n ra.c,.bool false,.slice none 0 0]|4=>Aw w v (AZ ra.L) h (KK+3+2*M)|5=>DC w v (AZ ra.L) h false (KK+3+2*M)|6=>∃A c qz,v=.slice A qz.length c/\BD w A qz.length qz (KK+4*M+5)/\qz.map RV.rd=CV ((AZ ra.L),h,false) (qs.map RV.rd)/\(∀y∈qz,y.L.length<=M)/\qz.length=n1+1|7=>∃A c qz,v=.slice A qz.length c/\BD w A qz.length qz (KK+4*M+5)/\qz.map RV.rd=CV ((AZ ra.L),h,false) (qs.map RV.rd)/\(∀y∈qz,y.L.length<=M)/\qz.length=n1+1|_=>True) (fun _ _ w=>Below W8.heap.size W8 w) ?_ (fun _=>Ap W8 1) ?_ ?_
                      · intro j v w w' hT h;match j,h with
                        |0,h=>exact h
                        |1,h=>exact h
                        |2,h=>exact h.below hT
                        |3,h=>exact h
                        |4,h=>exact h.below hT
                        |5,h=>exact (by obtain ⟨A,n,c,s,B,m,d,e,h1⟩:=h;exact ⟨A,n,c,s,B,m,d,e,h1.below hT⟩)
                        |6,h=>exact (by obtain ⟨A,c,qz,e,h1,h2,h3,h4⟩:=h;exact ⟨A,c,qz,e,h1.below hT,h2,h3,h4⟩)
                        |7,h=>exact (by obtain ⟨A,c,qz,e,h1,h2,h3,h4⟩:=h;exact ⟨A,c,qz,e,h1.below hT,h2,h3,h4⟩)
                        |j+8,h=>trivial
                      · refine ⟨?_,?_,?_,?_,?_,?_,?_,?_,trivial⟩
                        · intro l9 σ w a hin hout hl hc hp hG hF;refine Ad.none rfl ?_;have e8:a.tmps.getD 8 undef=.slice A8 n1 c8:=hout 8 (Dg (j:=7) (by kernel_rfl) (Ai (k:=7) hc hl (by kernel_rfl)));refine Does.val (.slice A8 n1 c8) (w':=w) ?_ ⟨Below.refl _ _,rfl,hG⟩;simp only[Array.getD_eq_getD_getElem?]at e8;go_simp
                        · intro l9 σ w a hin hout hl hc hp hG hF;refine Ad.none rfl ?_;have e13:a.tmps.getD 13 undef=.pointer (some ⟨wz.heap.size+1+1,0,none⟩):=hout 13 (Ae (by kernel_rfl));have CC:=SOF.out w hG;obtain ⟨C0,C1,C2,C3,C4,C5,C6⟩:=CC;refine Does.val (.agg #[.bool sh,.slice Ah nh ch]) (w':=w) ?_ ⟨Below.refl _ _,rfl,hG⟩;go_simp
                        · intro l9 σ w a hin hout hl hc hp hG hF;refine Ad.none rfl ?_;have e170:a.tmps.getD 170 undef=.agg #[.bool sh,.slice Ah nh ch]:=Am (hin 1 170) rfl (hp ⟨1,.data⟩ (by simp) rfl) (hF 1);refine Does.call ?_ (Gm _ h KK w (HHZ.out.below hG).in_ (by omega)) ?_
                          · go_simp
                          · rintro e w' ⟨v,rfl,z,hb⟩;exact ⟨_,rfl,hb,z,hG.next hb⟩
                        · intro l9 σ w a hin hout hl hc hp hG hF;refine Ad.none rfl ?_;have e20:a.tmps.getD 20 undef=.pointer (some ⟨w11.heap.size,0,none⟩):=hout 20 (Ae (by kernel_rfl));have CC:=SOF.out w hG;obtain ⟨C0,C1,C2,C3,C4,C5,C6⟩:=CC;refine Does.val (.agg #[.slice ra.A ra.n ra.c,.bool false,.slice none 0 0]) (w':=w) ?_ ⟨Below.refl _ _,rfl,hG⟩;go_simp
                        · intro l9 σ w a hin hout hl hc hp hG hF;refine Ad.none rfl ?_;have e171:=hin 2 171 rfl (hp ⟨2,.data⟩ (by simp) rfl);have z2:=hF 2 (hp ⟨2,.data⟩ (by simp) rfl);have e172:a.tmps.getD 172 undef=.agg #[.slice ra.A ra.n ra.c,.bool false,.slice none 0 0]:=Am (hin 3 172) rfl (hp ⟨3,.data⟩ (by simp) rfl) (hF 3);refine Does.call ?_ (Gv _ _ [] ra.L h 0 KK w z2.in_ (HP.out.below hG).in_ (by simp) (by omega) (by omega)) ?_
                          · go_simp
                          · rintro e w' ⟨v,rfl,z,hb⟩;exact ⟨_,rfl,hb,(z.ofEq2 (SX ra.L) (by omega)).mono (by simp;omega),hG.next hb⟩
                        · intro l9 σ w a hin hout hl hc hp hG hF;refine Ad.none rfl ?_;have e173:=hin 4 173 rfl (hp ⟨4,.data⟩ (by simp) rfl);have z4:=hF 4 (hp ⟨4,.data⟩ (by simp) rfl);obtain ⟨A7,n7,c7,s7,B7,m7,d7,ev7⟩:=Aw.form z4;rw[ev7]at e173 z4;refine Does.val (.agg #[.slice A7 n7 c7,.bool s7,.slice B7 m7 d7,.bool false]) (w':=w) ?_ ⟨Below.refl _ _,⟨A7,n7,c7,s7,B7,m7,d7,rfl,z4⟩,hG⟩;simp only[Array.getD_eq_getD_getElem?]at e173;go_simp
                        · intro l9 σ w a hin hout hl hc hp hG hF;refine Ad.none rfl ?_;have e169:a.tmps.getD 169 undef=.slice A8 n1 c8:=Am (hin 0 169) rfl (hp ⟨0,.data⟩ (by simp) rfl) (hF 0);have e174:=hin 5 174 rfl (hp ⟨5,.data⟩ (by simp) rfl);have z5:=hF 5 (hp ⟨5,.data⟩ (by simp) rfl);obtain ⟨A7,n7,c7,s7,B7,m7,d7,ev7,t7⟩:=z5;rw[ev7]at e174
                          refine Does.call ?_ (F6 A8 n1 c8 qs (⟨A7,n7,c7,s7,B7,m7,d7,false,(AZ ra.L),h⟩:RV) (KK+4*M+5) w (HQS.out.below hG) (t7.mono (by omega)) (by omega) (fun x hx=>Nat.le_trans (HQM.out x hx) (by omega)) (by have:=HLN.out;show (((AZ ra.L)):List (Int×Int)).length<=100000;omega) (by omega)) ?_
                          · go_simp;rfl
                          · rintro e w' ⟨A8,c8,qz,rfl,q1,q2,q3,-,-,q6⟩;have h9:=congrArg List.length q2;rw[List.length_map,Fi,List.length_map,HQN.out]at h9;exact ⟨_,rfl,q6,⟨A8,c8,qz,rfl,q1,q2,(fun y hy=>by rcases q3 y hy with e|e;(· rw[e];exact HLN.out);(· exact HQM.out y e)),h9⟩,hG.next q6⟩
                        · intro l9 σ w a hin hout hl hc hp hG hF;refine Ad.none rfl ?_;have e175:=hin 6 175 rfl (hp ⟨6,.data⟩ (by simp) rfl);have z6:=hF 6 (hp ⟨6,.data⟩ (by simp) rfl);obtain ⟨A8,c8,qz,ev8,q1,q2,q3,q4⟩:=z6;rw[ev8]at e175;refine Does.val (.slice A8 qz.length c8) (w':=w) ?_ ⟨Below.refl _ _,⟨A8,c8,qz,rfl,q1,q2,q3,q4⟩,hG⟩;simp only[Array.getD_eq_getD_getElem?]at e175;go_simp
                      · intro l9 σ W9 hall hG hF;rw[show mid _ σ l9 _=(Act.put (Act.put (Act.put (Act.put (Act.put (Act.put (Act.put (Act.put _ (some 169) (σ 0)) (some 170) (σ 1)) (some 171) (σ 2)) (some 172) (σ 3)) (some 173) (σ 4)) (some 174) (σ 5)) (some 175) (σ 6)) (some 8) (σ 7)) from (AU hall).trans rfl];generalize σ 0=tt0;generalize σ 1=tt1;generalize σ 2=tt2;generalize σ 3=tt3;generalize σ 4=tt4;generalize σ 5=tt5;generalize σ 6=tt6
                        have TF:∃A c qz,σ 7=.slice A qz.length c/\BD W9 A qz.length qz (KK+4*M+5)/\qz.map RV.rd=CV ((AZ ra.L),h,false) (qs.map RV.rd)/\(∀y∈qz,y.L.length<=M)/\qz.length=n1+1:=hF 7 (by decide);generalize σ 7=tt7 at TF ⊢;simp only[Act.put,List.setIfInBounds_toArray,List.set_cons_zero,List.set_cons_succ];have TG:=hG;clear hF hG hall;clear σ;obtain ⟨A9,c9,ps,e9,q1,q2x,q3,q4⟩:=TF;subst e9
                        have HE:=Ac (show IE w3 ts (KK+4*M+5) M (j+1) (.slice A9 ps.length c9) W9 from ⟨ps,A9,c9,rfl,q1,by rw[q2x];exact by rw[HQR.out];exact EQ HO2.out HAD.out HADD.out HF1.out,q3,HBO.out.next TG,by rw[q4,HQ4.out];omega⟩);clear q1 q2x q3 q4;go_wp2_with fail;go_roundw
                        case rel=>exact ⟨j+1,by omega,by go_num,HE⟩
                        case measure=>simp[intOf]<;>omega
        · have e1:j=p:=(by omega);subst e1;have g1:¬(j:Int)<(j:Int):=(by omega);obtain ⟨os,Ao,co,rfl,o1,o2,o3,o4,o5⟩:=HT.out
          have HE:=Ac (show Jk (rs.map RV.rd) (KK+4*M+5) M w0 (.returned (.tuple #[.slice Ao os.length co,.bool true])) wz from ⟨HA5.out.next o4,.inr ⟨os.map RV.rd,Ao,co,os,(fun r hr=>by obtain ⟨x,hx,rfl⟩:=List.mem_map.1 hr;exact HA3.out x hx),by rw[<-HA2.out,List.length_map,HPL.out];exact o2,by rw[List.length_map],by rw[List.length_map];exact o1,rfl,o3⟩⟩);clear o1 o2 o3 o4;go_wp2_with fail;go_ret2
          have HE2:=HE.out;rw[hKK]at HE2;exact HE2
end
end Go.Proofs.YtmedjkhmadfjlaaGreat
