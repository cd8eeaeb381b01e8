/- Texts of one seat, put together: MulC MulD Gcd RefDiv BitsAny Parse RefParse ZMem. -/
import Derived.Test.YtgohmojcopajoaaGreatDoorP10
import Derived.Deep.LoopGhost
import Derived.Deep.RegionHeld3
set_option linter.unusedVariables false
set_option linter.unusedSimpArgs false
set_option maxRecDepth 100000
set_option maxHeartbeats 16000000
namespace Go.Proofs.YtgohmojcopajoaaGreatDoor.Nu
section
open Go.RowKit
open Limb (limb Bf upto Az AF AA)
structure UV (a b half n m:Nat):Prop where
 a0:L (a%4294967296^half)<=half
 b0:L (b%4294967296^half)<=half
 sa:L (a%4294967296^half+a/4294967296^half)<=half+1
 sb:L (b%4294967296^half+b/4294967296^half)<=half+1
 low:L (a%4294967296^half*(b%4294967296^half))<=2*half
 high:L (a/4294967296^half*(b/4294967296^half))<=n+m-2*half
 le1:a%4294967296^half*(b%4294967296^half)<=(a%4294967296^half+a/4294967296^half)*(b%4294967296^half+b/4294967296^half)
 le2:a/4294967296^half*(b/4294967296^half)<=(a%4294967296^half+a/4294967296^half)*(b%4294967296^half+b/4294967296^half)-a%4294967296^half*(b%4294967296^half)
 all:a%4294967296^half*(b%4294967296^half)+4294967296^(2*half)*(a/4294967296^half*(b/4294967296^half)) +
  4294967296^half*((a%4294967296^half+a/4294967296^half)*(b%4294967296^half+b/4294967296^half)-a%4294967296^half*(b%4294967296^half)-a/4294967296^half*(b/4294967296^half))=a*b
 lt:a*b<4294967296^(n+m)
 mid:(a%4294967296^half+a/4294967296^half)*(b%4294967296^half+b/4294967296^half)≠0
theorem WO (p a0 a1 b0 b1:Nat):a0*b0+p*p*(a1*b1)+p*((a0+a1)*(b0+b1)-a0*b0-a1*b1)=(a0+p*a1)*(b0+p*b1):=by
 have e:(a0+a1)*(b0+b1)=a0*b0+a0*b1+(a1*b0+a1*b1):=by rw[Nat.add_mul,Nat.mul_add,Nat.mul_add]
 have e2:(a0+a1)*(b0+b1)-a0*b0-a1*b1=a0*b1+a1*b0:=by omega
 rw[e2,Nat.add_mul,Nat.mul_add,Nat.mul_add,Nat.mul_add];have e3:a0*(p*b1)=p*(a0*b1):=Nat.mul_left_comm _ _ _;have e4:p*a1*b0=p*(a1*b0):=Nat.mul_assoc _ _ _;have e5:p*a1*(p*b1)=p*p*(a1*b1):=by rw[Nat.mul_assoc,Nat.mul_left_comm a1 p b1,<-Nat.mul_assoc]
 rw[e3,e4,e5];omega
theorem UW (a b half n m:Nat) (hn:n=L a) (hm:m=L b) (hna:half<n) (hnb:half<m) (h2:n<=2*half) (hmn:m<=n):UV a b half n m:=by
 have ha0:a%4294967296^half<4294967296^half:=Nat.mod_lt _ (Nat.pow_pos (by omega));have hb0:b%4294967296^half<4294967296^half:=Nat.mod_lt _ (Nat.pow_pos (by omega));have la1:=Rs a half;have lb1:=Rs b half;have ha1:a/4294967296^half<4294967296^half:=Nat.lt_of_lt_of_le (JV _) (Limb.pow_mono (by omega));have hb1:b/4294967296^half<4294967296^half:=Nat.lt_of_lt_of_le (JV _) (Limb.pow_mono (by omega));have ea:=Nat.mod_add_div a (4294967296^half)
 have eb:=Nat.mod_add_div b (4294967296^half);have l0:=Mu (a%4294967296^half) (b%4294967296^half);have l1:=Mu (a/4294967296^half) (b/4294967296^half);have la0:L (a%4294967296^half)<=half:=Mt ha0;have lb0:L (b%4294967296^half)<=half:=Mt hb0;have hall:=WO (4294967296^half) (a%4294967296^half) (a/4294967296^half) (b%4294967296^half) (b/4294967296^half);rw[ea,eb,<-Nat.pow_add]at hall;have e2:half+half=2*half:=by omega
 rw[e2]at hall;have hexp:∀x y z t:Nat,(x+y)*(z+t)=x*z+x*t+(y*z+y*t):=fun x y z t=>by rw[Nat.add_mul,Nat.mul_add,Nat.mul_add]
 have hle:=hexp (a%4294967296^half) (a/4294967296^half) (b%4294967296^half) (b/4294967296^half);refine ⟨la0,lb0,Mt (add_lt _ _ _ ha0 ha1),Mt (add_lt _ _ _ hb0 hb1),by omega,by omega,by rw[hle];omega,by rw[hle];omega,hall,by rw[hn,hm];exact Ev a b _ _ (JV a) (JV b),?_⟩;intro h0;have ha:a≠0:=by intro h;subst h;rw[Rr]at hn;omega
 have hb:b≠0:=by intro h;subst h;rw[Rr]at hm;omega
 have hab:a*b≠0:=Nat.mul_ne_zero ha hb;rcases Nat.mul_eq_zero.1 h0 with h|h
 · obtain ⟨e1,e2⟩:=Nat.add_eq_zero_iff.1 h;rw[e1,e2,Nat.mul_zero]at ea;exact ha ea.symm
 · obtain ⟨e1,e2⟩:=Nat.add_eq_zero_iff.1 h;rw[e1,e2,Nat.mul_zero]at eb;exact hb eb.symm
theorem WP (P Q X half k:Nat) (hk:half<=k) (h:P+4294967296^(2*half)*Q+4294967296^half*X<4294967296^k):X<4294967296^(k-half):=by
 have e:4294967296^k=4294967296^half*4294967296^(k-half):=by rw[<-Nat.pow_add];congr 1;omega
 rw[e]at h;refine Nat.lt_of_mul_lt_mul_left (a:=4294967296^half) ?_;exact Nat.lt_of_le_of_lt (Nat.le_add_left _ _) h
theorem Pg (zs:List Nat) (ws:List Nat) (h:ws.length<=zs.length):win (put zs 0 ws) 0 ws.length=ws:=by unfold win put;simp
theorem Tv (zs:List Nat) (us ws:List Nat) (h:us.length=ws.length):put (put zs 0 us) 0 ws=put zs 0 ws:=by unfold put;simp[h]
theorem Ea (A B:Option Addr) (n c m d a b half:Nat) (w:World) (IH:Ej (n+m)) (hx:Nums w A n (Limb.canon a)) (hc:n<=c) (hm:c<=9223372036854775807) (hy:Nums w B m (Limb.canon b)) (hd:m<=d) (hmd:d<=9223372036854775807) (h39:n+m<=549755813888)
  (hna:half<n) (hnb:half<m) (h2:n<=2*half) (h2':2*half<=n+1) (hmn:m<=n) (h48:48<=m) :
  Calls Tryz.prog 194 #[.slice A n c,.slice B m d,.int .i64 (half:Int)] w (DN (a*b) w):=by
 have HH:=Aa (UW a b half n m hx.len.symm hy.len.symm hna hnb h2 hmn);have IHH:=Aa IH;clear IH;have f2:(half:Int)<=(n:Int):=by omega
 have f2b:(half:Int)<=(m:Int):=by omega
 have f4:(c=half)=False:=by simp;omega
 have f4b:(d=half)=False:=by simp;omega
 go_enter Tryz.func194,Tryz.ntmps194;go_wp2_with fail;go_quiet ((go_at_call 207;exact Nw (Ho A n c half a _ (hx.drewN _) (by omega) hc hm)))
 go_wp2_with fail;go_quiet ((go_at_call 207;exact FQ (Ho B m d half b _ (hy.drewN _) (by omega) hd hmd)))
 go_wp2_with fail;have hA0:=KA A n half a w hx (by omega);have hB0:=KA B m half b w hy (by omega);have hA1:=Ju A n c half a w hx hna hc;have hB1:=Ju B m d half b w hy hnb hd;have i1:=HH.out.a0;have i2:=HH.out.b0;have i3:=HH.out.sa;have i4:=HH.out.sb;have i5:=HH.out.low;have i6:=HH.out.high;have HLE1:=Aa HH.out.le1;have HLE2:=Aa HH.out.le2;have HALL:=Aa HH.out.all;have HLT:=Aa HH.out.lt;have HMID:=Aa HH.out.mid;generalize a%4294967296^half=a0 at *
 generalize a/4294967296^half=a1 at *;generalize b%4294967296^half=b0 at *;generalize b/4294967296^half=b1 at *;clear hx hy HH;have t0:=Ai w;refine (IHH.out (IJ A a0) (IJ B b0) (L a0) (L a0) (L b0) (L b0) a0 b0 (w.drewN _) (by omega) (hA0.below (t0 _)) (Nat.le_refl _) (by omega) (hB0.below (t0 _)) (Nat.le_refl _) (by omega) (by omega)).mono ?_;rintro e w1 ⟨A1,n1,rfl,o1,b1w⟩;have t1:=(t0 _).next b1w;clear t0;clear b1w;have l1:n1<=2*half:=by rw[o1.len];exact i5
 go_wp2_with fail;refine (IHH.out (A.map (·.add half)) (B.map (·.add half)) (n-half) (c-half) (m-half) (d-half) a1 b1 _ (by omega) (hA1.below t1) (by omega) (by omega) (hB1.below t1) (by omega) (by omega) (by omega)).mono ?_;rintro e w2 ⟨A2,n2,rfl,o2,b2⟩;have t2:=t1.next b2;have l2:n2<=n+m-2*half:=by rw[o2.len];exact i6
 go_wp2_with fail;refine (Li (IJ A a0) (A.map (·.add half)) (L a0) (L a0) (n-half) (c-half) _ _ _ (hA0.below t2) (Nat.le_refl _) (by omega) (by omega) (hA1.below t2) (by omega) (by omega) (by omega)).mono ?_;rintro e w3 ⟨A3,n3,rfl,o3,b3⟩;rw[Limb.val_canon,Limb.val_canon]at o3;have t3:=t2.next b3;have l3:n3<=half+1:=by rw[o3.len];exact i3
 go_wp2_with fail;refine (Li (IJ B b0) (B.map (·.add half)) (L b0) (L b0) (m-half) (d-half) _ _ _ (hB0.below t3) (Nat.le_refl _) (by omega) (by omega) (hB1.below t3) (by omega) (by omega) (by omega)).mono ?_;rintro e w4 ⟨A4,n4,rfl,o4,b4⟩;rw[Limb.val_canon,Limb.val_canon]at o4;have t4:=t3.next b4;have l4:n4<=half+1:=by rw[o4.len];exact i4
 go_wp2_with fail;refine (IHH.out A3 A4 n3 _ n4 _ (a0+a1) (b0+b1) _ (by omega) (o3.nums.below b4) (Nat.le_refl _) (by omega) o4.nums (Nat.le_refl _) (by omega) (by omega)).mono ?_;rintro e w5 ⟨A5,n5,rfl,o5,b5⟩;have t5:=t4.next b5;have l5:n5<=2*half+2:=by have h1:=Mu (a0+a1) (b0+b1);rw[o5.len];unfold L at h1 i3 i4;omega
 have low5:=o1.nums.below ((b2.next b3).next (b4.next b5));have high5:=o2.nums.below ((b3.next b4).next b5);have low4:=o1.nums.below ((b2.next b3).next b4);have high4:=o2.nums.below (b3.next b4);have hl15:n1<=n5:=by rw[o1.len,o5.len];exact Rq HLE1.out
 have hl25:n2<=n5:=by rw[o2.len,o5.len];exact Rq (Nat.le_trans HLE2.out (Nat.sub_le _ _))
 have hrow:=o5.trimRow.2 HMID.out;obtain ⟨g,zs,rfl,hg,hr5,hzok,hzl,hwin⟩:=hrow;have HW:=Lib.hid hwin;have hg5:w.heap.size<=g:=by have:=t4.size;omega
 clear hwin b2 b3 b4 b5 t1 t2 t3 t4 o3 o4 hA0 hB0 hA1 hB1;have hM:=JV ((a0+a1)*(b0+b1));have e5:L ((a0+a1)*(b0+b1))=n5:=o5.len.symm;rw[e5]at hM;have HM:=Aa hM;clear e5 hM o1 o2 o5 i1 i2 i3 i4 i5 i6 l3 l4;generalize a0*b0=P at *;generalize a1*b1=Q at *;generalize (a0+a1)*(b0+b1)=M at *;have HX:=Aa (WP P Q (M-P-Q) half (n+m) (by omega) (by rw[HALL.out];exact HLT.out));go_wp2_with fail
 refine (F7 g 0 n5 _ zs A1 n1 n1 (Limb.canon P) w5 hr5 hzok (by omega) (by omega) low5 hl15 (fun h=>low4.apart h hg) (by rw[HW.out,Limb.val_canon,Limb.val_canon];exact HLE1.out)).mono ?_;rintro e w6 ⟨rfl,hr6,ho6⟩;rw[HW.out,Limb.val_canon,Limb.val_canon]at hr6;have low6:=low5.grown' ho6 (fun h=>low4.apart h hg);have high6:=high5.grown' ho6 (fun h=>high4.apart h hg);have hf1:(Limb.fixed n5 (M-P)).length=n5:=Limb.fixed_length _ _
 have hw2:win (put zs 0 (Limb.fixed n5 (M-P))) 0 n5=Limb.fixed n5 (M-P):=by have:=Pg zs (Limb.fixed n5 (M-P)) (by rw[hf1];exact hzl);rwa [hf1]at this
 have hv2:Limb.val (win (put zs 0 (Limb.fixed n5 (M-P))) 0 n5)=M-P:=by rw[hw2,Limb.fixed_val,Nat.mod_eq_of_lt (Nat.lt_of_le_of_lt (Nat.sub_le _ _) HM.out)]
 have HV2:=Lib.hid hv2;have hl2:(put zs 0 (Limb.fixed n5 (M-P))).length=zs.length:=Bw _ _ _ (by rw[hf1];omega);have HL2:=Lib.hid hl2;have HF1:=Lib.hid hf1;clear hf1 hw2 hv2 hl2;have hf2:n5<=4611686018427387904:=by omega
 go_wp2_with fail;refine (F7 g 0 n5 _ _ A2 n2 n2 (Limb.canon Q) w6 hr6 (F6 hzok _ (Limb.fixed_ok _ _)) (by rw[HL2.out];omega) hf2 high6 hl25 (fun h=>high4.apart h hg) (by rw[HV2.out,Limb.val_canon];exact HLE2.out)).mono ?_;rintro e w7 ⟨rfl,hr7,ho7⟩;rw[HV2.out,Limb.val_canon,Tv _ _ _ (by rw[Limb.fixed_length,Limb.fixed_length])]at hr7;have low7:=low6.grown' ho7 (fun h=>low4.apart h hg);have high7:=high6.grown' ho7 (fun h=>high4.apart h hg)
 have t7:Below w.heap.size w w7:=(t5.trans (ho6.below t5.size hg5)).trans (ho7.below (by have:=ho6.size;have:=t5.size;omega) hg5);clear ho6 ho7 hr5 hr6 low5 low6 high5 high6 low4 high4 t5 HV2 HL2 HF1 HW;have hlp:=low7.len;have HLP:=Lib.hid hlp;have hlq:=high7.len;have HLQ:=Lib.hid hlq;clear hlp hlq;have hr1:(put (List.replicate (n+m) 0) 0 (Limb.canon P)).length=n+m:=by rw[Bw _ _ _ (by rw[List.length_replicate,HLP.out];omega),List.length_replicate]
 have HR1:=Lib.hid hr1;clear hr1;have f5:(n+m=2*half)=False:=by simp;omega
 have f6:(2*(half:Int))<=(n:Int)+(m:Int):=by omega
 go_wp2_with (first
  |(at_make;refine BL _ rfl _ _ rfl _ (n+m) rfl rfl (by omega) (by omega) ?_;intro w8 hr8 hb8 hs8)
  |(with_reducible refine BX (o:=⟨some 54,_,_,_,_,_⟩) rfl _ _ rfl w7.heap.size 0 _ _ _ _ n1 n1 rfl (fun _=>rfl) rfl _ _ hr8 (low7.below hb8) (by omega) (by simp;omega) ?_;intro w9 hr9 ho9)
  |(with_reducible refine BX (o:=⟨some 60,_,_,_,_,_⟩) rfl _ _ rfl w7.heap.size (2*half) _ _ _ _ n2 n2 rfl (fun _=>rfl) rfl _ _ hr9 ((high7.below hb8).grown' ho9.gb (fun h=>high7.apart h (Nat.le_refl _))) (by omega) (by rw[HR1.out];omega) ?_;intro w10 hr10 ho10))
 have hv9:Limb.val (put (List.replicate (n+m) 0) 0 (Limb.canon P))=P:=(Mv n m n1 P HLP.out.symm (by omega)).2.2;have hP2:P<4294967296^(2*half):=Nat.lt_of_lt_of_le (JV P) (Limb.pow_mono (by have:=HLP.out;unfold L;omega));have hv10:Limb.val (put (put (List.replicate (n+m) 0) 0 (Limb.canon P)) (2*half) (Limb.canon Q))=P+4294967296^(2*half)*Q:=by rw[Hn _ _ _ (by rw[HR1.out,HLQ.out];omega) (by rw[hv9];exact hP2),hv9,Limb.val_canon]
 have hl10:(put (put (List.replicate (n+m) 0) 0 (Limb.canon P)) (2*half) (Limb.canon Q)).length=n+m:=by rw[Bw _ _ _ (by rw[HR1.out,HLQ.out];omega)];exact HR1.out
 have hk10:Limb.Ok (put (put (List.replicate (n+m) 0) 0 (Limb.canon P)) (2*half) (Limb.canon Q)):=F6 (F6 (Limb.Ok.replicate _) _ (Limb.ok_canon _)) _ (Limb.ok_canon _);have HV10:=Lib.hid hv10;have HL10:=Lib.hid hl10;clear hv9 hP2 hv10 hl10;generalize put (put (List.replicate (n+m) 0) 0 (Limb.canon P)) (2*half) (Limb.canon Q)=zr at *;have t8:An w7.heap.size w8 w10:=ho9.trans ho10;have hr7':=((hr7.below hb8 hr7.lt).grown t8.gb (by intro h;injection h with h;have:=hr7.lt;omega))
 have hap:Apart (some ⟨g,0,none⟩) w7.heap.size:=by
  intro ad h;injection h with h
  subst h;have:=hr7.lt;show g≠w7.heap.size;omega
 have hF2:(Limb.fixed n5 (M-P-Q)).length=n5:=Limb.fixed_length _ _;have hn7:Nums w10 (some ⟨g,0,none⟩) n5 (Limb.fixed n5 (M-P-Q)):=by have h1:=hr7'.nums (F6 hzok 0 (Limb.fixed_ok _ _)) (o:=0) (n:=n5) (by rw[Bw _ _ _ (by rw[hF2];omega)];omega);have h2:=Pg zs (Limb.fixed n5 (M-P-Q)) (by rw[hF2];exact hzl);rw[hF2]at h2;unfold win at h2;rw[h2]at h1;exact h1
 have hv7:Limb.val (Limb.fixed n5 (M-P-Q))=M-P-Q:=by rw[Limb.fixed_val,Nat.mod_eq_of_lt];have:=HM.out;omega
 have hcut:=DG w10 _ _ _ hn7;have hdet:=fun wz=>DR (some ⟨g,0,none⟩) n5 n5 (Limb.fixed n5 (M-P-Q)) wz
 rw[hv7]at hcut hdet;have hd2:=hdet _ hn7.drew (Nat.le_refl _) (by omega);have HCUT:=Aa hcut.2.2.1;have hLX:L (M-P-Q)<=n+m-half:=Mt HX.out;have hap2:Apart (IJ (some ⟨g,0,none⟩) (M-P-Q)) w7.heap.size:=by
  unfold IJ;split
  · intro ad h;cases h
  · exact hap
 clear hdet hcut hF2 hv7 hr7 hap;have f7:(half:Int)<=(n:Int)+(m:Int):=by omega
 have f8:(n+m=half)=False:=by simp;omega
 generalize M-P-Q=X at *;go_region_with (first
  |(go_at_call 152;refine hd2.mono ?_;rintro e w' ⟨rfl,rfl⟩)
  |(go_at_call 160;refine (Ec w7.heap.size half (n+m-half) _ zr _ _ _ _ _ hr10.drew hk10 (by rw[HL10.out];omega) (by omega) HCUT.out.drew hLX (fun _=>hap2)).mono ?_;rintro e w11 ⟨rfl,hr11,ho11⟩))
 go_wp2_with fail;have hfin:Limb.val (put zr half (Limb.fixed (n+m-half) (Limb.val (win zr half (n+m-half))+Limb.val (Limb.canon X))))=a*b:=by rw[Pe zr half _ _ (by rw[HL10.out];omega) (by rw[HL10.out,HV10.out,Limb.val_canon,HALL.out];exact HLT.out),HV10.out,Limb.val_canon,HALL.out]
 have hlen:(put zr half (Limb.fixed (n+m-half) (Limb.val (win zr half (n+m-half))+Limb.val (Limb.canon X)))).length=n+m:=by rw[Bw _ _ _ (by rw[Limb.fixed_length,HL10.out];omega)];exact HL10.out
 have hok:=F6 hk10 half (Limb.fixed_ok (n+m-half) (Limb.val (win zr half (n+m-half))+Limb.val (Limb.canon X)));refine (Cl w7.heap.size (n+m) _ (a*b) w.heap.size _ _ hr11 hok (by rw[hlen];exact Nat.le_refl _) (by omega) (by omega) t7.size (by rw[List.take_of_length_le (by rw[hlen];exact Nat.le_refl _)];exact hfin)).mono ?_;rintro e w12 ⟨A',j,rfl,how,rfl⟩;clear hfin hlen hok;go_wp2_with fail;go_ret
 exact ⟨A',j,rfl,how,((t7.next hb8).trans (t8.below (by have:=hb8.size;have:=t7.size;omega) t7.size)).drew.trans (ho11.below (by have:=hb8.size;have:=t7.size;have:=t8.size;show w.heap.size<=w10.heap.size;omega) t7.size)⟩
end
section
open Go.RowKit
open Limb (limb Bf upto Az AF AA)
theorem Mz (k:Nat):∀(A B:Option Addr) (n c m d a b:Nat) (w:World),n+m=k->Nums w A n (Limb.canon a)->n<=c->c<=9223372036854775807->Nums w B m (Limb.canon b)->m<=d->d<=9223372036854775807->n+m<=549755813888 ->
   Calls Tryz.prog 180 #[.slice A n c,.slice B m d] w (DN (a*b) w):=by
 induction k using Nat.strongRecOn with
 |ind k ih0=>
 intro A B n c m d a b w hk hx hc hm hy hd hmd h39;have ih:∀j,j<n+m->_:=fun j hj=>ih0 j (by omega)
 clear ih0;clear hk;by_cases hs:n<m
 · have hs2:=hs;by_cases h48:n<48
   · go_enter Tryz.func180,Tryz.ntmps180;go_wp2_with fail;refine (Ew B A m d n c _ _ w hy hd hmd (by omega) hx hc hm (by omega)).mono ?_;rintro e w1 ⟨A1,n1,rfl,h3,h4⟩;rw[Limb.val_canon,Limb.val_canon]at h3;go_wp2_with fail;go_ret
     exact ⟨A1,n1,rfl,by rw[Nat.mul_comm a b];exact h3,h4⟩
   · have eh:((m:Int)+1)/2=(((m+1)/2:Nat):Int):=(by omega);have EH:=Lib.hid eh;clear eh;by_cases hh:n<=(m+1)/2
     · have hh1:(n:Int)<=((m:Int)+1)/2:=(by omega);have IHT:Ej (m+n):=by
        intro A' B' n' c' m' d' a' b' w' hlt h1 h2 h3 h4 h5 h6 h7;exact ih (n'+m') (by omega) A' B' n' c' m' d' a' b' w' rfl h1 h2 h3 h4 h5 h6 h7
       have IHH:=Aa IHT;clear IHT;go_enter Tryz.func180,Tryz.ntmps180;go_wp2_with fail;rw[EH.out];refine (EO B A m d n c b a ((m+1)/2) w IHH.out hy hd hmd hx hc hm (by omega) (by omega) (by omega)).mono ?_;rintro e w1 ⟨A1,n1,rfl,h3,h4⟩;go_wp2_with fail;go_ret
       exact ⟨A1,n1,rfl,by rw[Nat.mul_comm a b];exact h3,h4⟩
     · have hh1:¬(n:Int)<=((m:Int)+1)/2:=(by omega);have IHT:Ej (m+n):=by
        intro A' B' n' c' m' d' a' b' w' hlt h1 h2 h3 h4 h5 h6 h7;exact ih (n'+m') (by omega) A' B' n' c' m' d' a' b' w' rfl h1 h2 h3 h4 h5 h6 h7
       have IHH:=Aa IHT;clear IHT;go_enter Tryz.func180,Tryz.ntmps180;go_wp2_with fail;rw[EH.out];refine (Ea B A m d n c b a ((m+1)/2) w IHH.out hy hd hmd hx hc hm (by omega) (by omega) (by omega) (by omega) (by omega) (by omega) (by omega)).mono ?_;rintro e w1 ⟨A1,n1,rfl,h3,h4⟩;go_wp2_with fail;go_ret
       exact ⟨A1,n1,rfl,by rw[Nat.mul_comm a b];exact h3,h4⟩
 · have hs2:m<=n:=(by omega);by_cases h48:m<48
   · go_enter Tryz.func180,Tryz.ntmps180;go_wp2_with fail;refine (Ew A B n c m d _ _ w hx hc hm (by omega) hy hd hmd (by omega)).mono ?_;rintro e w1 ⟨A1,n1,rfl,h3,h4⟩;rw[Limb.val_canon,Limb.val_canon]at h3;go_wp2_with fail;go_ret
     exact ⟨A1,n1,rfl,h3,h4⟩
   · have eh:((n:Int)+1)/2=(((n+1)/2:Nat):Int):=(by omega);have EH:=Lib.hid eh;clear eh;by_cases hh:m<=(n+1)/2
     · have hh1:(m:Int)<=((n:Int)+1)/2:=(by omega);have IHT:Ej (n+m):=by
        intro A' B' n' c' m' d' a' b' w' hlt h1 h2 h3 h4 h5 h6 h7;exact ih (n'+m') (by omega) A' B' n' c' m' d' a' b' w' rfl h1 h2 h3 h4 h5 h6 h7
       have IHH:=Aa IHT;clear IHT;go_enter Tryz.func180,Tryz.ntmps180;go_wp2_with fail;rw[EH.out];refine (EO A B n c m d a b ((n+1)/2) w IHH.out hx hc hm hy hd hmd (by omega) (by omega) (by omega)).mono ?_;rintro e w1 ⟨A1,n1,rfl,h3,h4⟩;go_wp2_with fail;go_ret
       exact ⟨A1,n1,rfl,h3,h4⟩
     · have hh1:¬(m:Int)<=((n:Int)+1)/2:=(by omega);have IHT:Ej (n+m):=by
        intro A' B' n' c' m' d' a' b' w' hlt h1 h2 h3 h4 h5 h6 h7;exact ih (n'+m') (by omega) A' B' n' c' m' d' a' b' w' rfl h1 h2 h3 h4 h5 h6 h7
       have IHH:=Aa IHT;clear IHT;go_enter Tryz.func180,Tryz.ntmps180;go_wp2_with fail;rw[EH.out];refine (Ea A B n c m d a b ((n+1)/2) w IHH.out hx hc hm hy hd hmd (by omega) (by omega) (by omega) (by omega) (by omega) (by omega) (by omega)).mono ?_;rintro e w1 ⟨A1,n1,rfl,h3,h4⟩;go_wp2_with fail;go_ret
       exact ⟨A1,n1,rfl,h3,h4⟩
theorem M7 (A B:Option Addr) (n c m d a b:Nat) (w:World) (hx:Nums w A n (Limb.canon a)) (hc:n<=c) (hm:c<=9223372036854775807) (hy:Nums w B m (Limb.canon b)) (hd:m<=d) (hmd:d<=9223372036854775807) (h39:n+m<=549755813888) :
  Calls Tryz.prog 180 #[.slice A n c,.slice B m d] w (DN (a*b) w):=
 Mz (n+m) A B n c m d a b w rfl hx hc hm hy hd hmd h39
theorem Tw (A B:Option Addr) (n c m d:Nat) (xs ys:List Nat) (w:World) (hx:Nums w A n xs) (hc:n<=c) (hm:c<=9223372036854775807) (hy:Nums w B m ys) (hd:m<=d) (hmd:d<=9223372036854775807) (h39:n+m<=549755813888) :
  Calls Tryz.prog 159 #[.slice A n c,.slice B m d] w (DN (Limb.val xs*Limb.val ys) w):=by
 have hA:=DG w A xs n hx;have hB:=DG w B ys m hy;have h1:=hA.2.1;have h2:=hB.2.1;go_enter Tryz.func159,Tryz.ntmps159;go_wp2_with fail;refine (DR A n c xs w hx hc hm).mono ?_;rintro e w' ⟨rfl,rfl⟩;go_wp2_with fail;refine (DR B m d ys w hy hd hmd).mono ?_;rintro e w' ⟨rfl,rfl⟩;go_wp2_with fail;refine (M7 _ _ (L (Limb.val xs)) (L (Limb.val xs)) (L (Limb.val ys)) (L (Limb.val ys)) _ _ w hA.2.2.1 (Nat.le_refl _) (by omega) hB.2.2.1 (Nat.le_refl _) (by omega) (by omega)).mono ?_
 rintro e w1 ⟨A1,n1,rfl,h3,h4⟩;go_wp2_with fail;go_ret
 exact ⟨A1,n1,rfl,h3,h4⟩
end
section
open Go.RowKit
open Limb (limb Bf upto Az AF AA)
def VE (w:World) (e:Ending) (w':World):Prop:=e=.returned (.tuple #[.slice none 0 0,.slice none 0 0,.int .i64 10])/\w=w'
def UX (N M:Nat) (w:World) (e:Ending) (w':World):Prop:=
 ∃A n c B m d,e=.returned (.tuple #[.slice A n c,.slice B m d,.int .i64 0])/\Own w' w.heap.size A n c N/\Own w' w.heap.size B m d M/\Below w.heap.size w w'
end
section
open Go.RowKit
def VF (N:Nat) (w:World) (e:Ending) (w':World):Prop:=e=.returned (.int .i64 ((Limb.bl N:Nat):Int))/\Below w.heap.size w w'
theorem PL (N k:Nat) (h:(Limb.canon N).length=k+1):0<Limb.limb (Limb.canon N) k:=by
 have hne:Limb.canon N≠[]:=fun h0=>by rw[h0]at h;cases h
 have ht:=Limb.tight_canon N hne;rw[List.getLast_eq_getElem]at ht;unfold Limb.limb;rw[List.getD_eq_getElem?_getD,List.getElem?_eq_getElem (by omega)];have e:(Limb.canon N).length-1=k:=by omega
 simp only[e]at ht;exact Nat.pos_of_ne_zero ht
def XG (b:Bool):Nat:=if b then 1 else 0
end
section
open Go.RowKit
open Limb (limb Bf upto Az AF AA)
theorem PM (x:Nat) (h0:x≠0) (h:x<4294967296):Lib.bitLen x=Limb.bl x:=by obtain ⟨h1,h2,h3,h4⟩:=PG x h0 h;have:=Limb.bl_spec x (Lib.bitLen x-1) h3 (by rw[Nat.sub_add_cancel h1];exact h4);omega
def MA (N:Nat) (w:World) (e:Ending) (w':World):Prop:=e=.returned (.int .i64 ((Limb.bl N:Nat):Int))/\w=w'
def PN (x:Nat) (w:World) (e:Ending) (w':World):Prop:=e=.returned (.int .i64 ((Limb.bl x:Nat):Int))/\w=w'
theorem PO (x:Nat) (w:World) (h0:x≠0) (h:x<4294967296):Calls Tryz.prog 172 #[.int .u32 (x:Int)] w (PN x w):=by refine (Tryz.bits_Len32 (x:Int) w (by omega) (by omega)).mono ?_;rintro e w' ⟨rfl,rfl⟩;rw[Int.toNat_natCast,PM x h0 h];exact ⟨rfl,rfl⟩
theorem Rx (A:Option Addr) (n c:Nat) (xs:List Nat) (w:World) (hx:Nums w A n xs) (hc:n<=c) (hm:c<=9223372036854775807) (hb:n<=1099511627776) :
   Calls Tryz.prog 157 #[.slice A n c] w (MA (Limb.val xs) w):=by
 have hcut:=DG w A xs n hx;have hdet:=DR A n c xs w hx hc hm;generalize Limb.val xs=a at *;obtain ⟨-,hle,hN,-⟩:=hcut;unfold EN at hdet;rcases Nat.eq_zero_or_pos (L a) with h0|h0
 · have ha:Hid (a=0):=Aa ((Limb.canon_len_zero a).1 h0);rw[h0]at hdet;clear h0 hN hle;go_enter Tryz.func157,Tryz.ntmps157;go_wp2_with fail;refine hdet.mono ?_;rintro e w' ⟨rfl,rfl⟩;go_wp2_with fail;go_ret
   exact ⟨by rw[ha.out];rfl,rfl⟩
 · obtain ⟨k,hk⟩:∃k,L a=k+1:=⟨L a-1,by omega⟩;rw[hk]at hdet hle hN;have hk2:(Limb.canon a).length=k+1:=hk;obtain ⟨b,o,x,hA,hx32,hxe,hcell⟩:=hN.at_ (i:=k) (by omega);have hx0:=PL a k hk2;have hbl:=Limb.bl_limbs (Limb.canon a) k (Limb.ok_canon a) hk2 hx0;rw[Limb.val_canon]at hbl;have e1:Limb.limb (Limb.canon a) k=x:=hxe.symm;rw[e1]at hbl hx0;have HB:=Aa hbl;have hblx:=Limb.bl_le x 32 hx32;rw[hA]at hdet;clear hbl e1 hxe hA hk hk2 hN h0;go_enter Tryz.func157,Tryz.ntmps157
   go_wp2_with fail;refine hdet.mono ?_;rintro e w' ⟨rfl,rfl⟩;go_wp2_with fail;refine (PO x _ (by omega) hx32).mono ?_;rintro e w' ⟨rfl,rfl⟩;go_wp2_with fail;go_ret
   exact ⟨by rw[HB.out];go_num,rfl⟩
theorem IB {w:World} {base:Nat} {A:Option Addr} {n c N:Nat} (o:Own w base A n c N):n<=4611686018427387904:=by have:=o.2.1;have:=o.2.2.1;omega
def Ry (N:Nat) (w:World) (e:Ending) (w':World):Prop:=∃A n,e=.returned (.tuple #[.slice A n n,.int .i64 0])/\Own w' w.heap.size A n n N/\Below w.heap.size w w'
def WA (k:Int) (w:World) (e:Ending) (w':World):Prop:=e=.returned (.tuple #[.slice none 0 0,.int .i64 k])/\w=w'
def NH (N:Nat) (w:World) (e:Ending) (w':World):Prop:=∃A n c,e=.returned (.tuple #[.slice A n c,.int .i64 0])/\Nums w' A n (Limb.canon N)/\n<=c/\c<=9223372036854775807/\Below w.heap.size w w'
end
section
open Go.RowKit
open Limb (limb Bf upto Az AF AA)
def numOf (s:ByteArray) (i:Nat):Nat:=Dec.upto (fun j=>Ad s j-48) i
theorem MB (s:ByteArray) (h:Fa s) (i:Nat) (hi:i<=s.size):numOf s i<10^i:=
 Dec.upto_lt _ i (fun j hj=>by have:=h j (by omega);omega)
def UY (k:Int) (w:World) (e:Ending) (w':World):Prop:=e=.returned (.tuple #[.slice none 0 0,.int .i64 k])/\Below w.heap.size w w'
theorem NI (s:ByteArray) (w:World) (h:4000<s.size) (hs:s.size<=9223372036854775807):Calls Tryz.prog 122 #[.string s] w (UY 2 w):=by
 go_enter Tryz.func122,Tryz.ntmps122;go_wp2_with fail;go_ret2
 exact ⟨rfl,Below.refl _ _⟩
theorem NJ (s:ByteArray) (w:World) (hs:s.size<=4000) (hno:¬(Fa s/\s.size≠0)):Calls Tryz.prog 122 #[.string s] w (UY 20 w):=by
 have hd:=GB s false w (by omega) (by simp only[Bool.false_eq_true,false_iff];exact hno);clear hno;go_enter Tryz.func122,Tryz.ntmps122;go_wp2_with fail;refine hd.mono ?_;rintro e w1 ⟨rfl,k,rfl⟩;go_wp2_with fail;go_ret2
 exact ⟨rfl,Ai w k⟩
theorem R9 (j:Nat) (hj:j<=8):(10^j*10=1000000000/\j=8)\/(10^j*10≠1000000000/\j+1<=8):=by
 rcases Nat.lt_or_ge j 8 with h|h
 · right
   have h1:10^j<=10^7:=Nat.pow_le_pow_right (by omega) (by omega);omega
 · left
   have:j=8:=by omega
   subst this;exact ⟨rfl,rfl⟩
theorem UZ (j:Nat) (hj:j<=8):10^j<=100000000/\1<=10^j:=by have h1:10^j<=10^8:=Nat.pow_le_pow_right (by omega) hj;exact ⟨by omega,Nat.pow_pos (by omega)⟩
theorem PP (V p g d U:Nat) (h:V*p+g=U):V*(p*10)+(g*10+d)=U*10+d:=by rw[<-h,Nat.add_mul,Nat.mul_assoc];omega
def VR (s:ByteArray) (g n:Nat) (w:World) (k gq wq:Nat) (wr:World):Prop:=
 ∃(cur:List Nat) (j:Nat),cur.length=n/\Limb.Ok cur/\Row wr g cur/\Below w.heap.size w wr/\j<=8/\wq=10^j/\gq<10^j/\Limb.val cur*10^j+gq=numOf s k/\(k=s.size->j=0)
theorem RA (s:ByteArray) (w:World) (hs:s.size<=4000) (hd:Fa s) (h0:s.size≠0):Calls Tryz.prog 122 #[.string s] w (Ry (numOf s s.size) w):=by
 have hda:=GB s true w (by omega) (by simp only[true_iff];exact ⟨hd,h0⟩);have HD:=Aa hd;have HLT:=Aa (fun i hi=>MB s hd i hi);have hroom:=Aa (Dec.limbs_room s.size);have en:(s.size:Int)/9+1=((s.size/9+1:Nat):Int):=by omega
 have hn:s.size/9+1<=445:=by omega
 generalize s.size/9+1=n at *;clear hd;go_enter Tryz.func122,Tryz.ntmps122;go_wp2_with fail;refine hda.mono ?_;rintro e w1 ⟨rfl,hw1⟩;have b1:Below w.heap.size w w1:=by obtain ⟨k,rfl⟩:=hw1;exact Ai w k
 clear hw1 hda;go_wp2_with (at_make;refine BL _ rfl _ _ rfl _ n rfl rfl (by omega) (by omega) ?_;intro w2 hr2 hb2 hs2);have t2:=b1.next hb2;have hg:w.heap.size<=w1.heap.size:=b1.size;generalize w1.heap.size=g at *;go_loopw [5,6,23] (fun a b i wr=>∃k gq wq:Nat,k<=s.size/\i=.int .i64 (k:Int)/\a=.int .u32 (gq:Int)/\b=.int .u32 (wq:Int)/\Hid (VR s g n w k gq wq wr)) (fun _ _ i _=>s.size-(intOf i).toNat)
 case atStart=>exact ⟨0,0,1,Nat.zero_le _,rfl,rfl,rfl,List.replicate n 0,0,by simp,Limb.Ok.replicate n,hr2,t2,by omega,rfl,by omega,by rw[Limb.val_replicate];rfl,fun _=>rfl⟩
 case round=>
  clear hr2 t2 hb2;obtain ⟨k,gq,wq,hk,rfl,rfl,rfl,R⟩:=hrel;by_cases hkn:k<s.size
  · have hbe:=AE s k hkn;have hdk:=HD.out k hkn;rw[hbe]at hdk;have hnum:=Aa (show numOf s (k+1)=numOf s k*10+((s[k]'hkn).toNat-48) by
      show Dec.upto _ (k+1)=_;rw[Dec.upto,hbe];rfl)
    obtain ⟨cur,j,hl,ho,hr,hb,hj,hw,hq,hv,-⟩:=R.out;have hten:=R9 j hj;have hle:=UZ j hj;have hcl:=Aa hl;have hval:=Aa hv;rw[<-hw]at hten hle hq hval;clear R hbe hl hv;obtain ⟨bt,hB⟩:∃bt,(s[k]'hkn).toNat=bt:=⟨_,rfl⟩;rw[hB]at hdk hnum;have e5:((wq*10:Nat):Int)=(wq:Int)*10:=(by omega);have e6:((gq*10+(bt-48):Nat):Int)=(gq:Int)*10+((bt:Int)-48):=(by omega);have hstep:=Aa (PP _ _ _ (bt-48) _ hval.out);have HW:=Aa hw;clear hw;by_cases hlast:wq*10=1000000000\/k+1=s.size
    · have hsc:=PH g n (wq*10) (gq*10+(bt-48)) cur wr hr ho (by rw[hcl.out];omega) (by omega) (by omega);unfold Rv at hsc;rw[hcl.out,e5,e6]at hsc;have hlt:=Aa (HLT.out (k+1) (by omega));have hcase:((wq:Int)*10==1000000000)=true\/(((wq:Int)*10==1000000000)=false/\((k:Int)==(s.size:Int)-1)=true):=by
       by_cases h9:wq*10=1000000000
       · left;simp;omega
       · right
         have:k+1=s.size:=by omega
         constructor
         · simp;omega
         · simp;omega
      clear e5 e6 hlast hten;rcases hcase with c1|⟨c1,c2⟩
      all_goals
       go_wp2_with fail;refine hsc.mono ?_;rintro e w3 ⟨cur3,cy,rfl,hl3,ho3,hr3,hon3,hv3⟩;have hL3:=Aa hl3;have hv4:=hv3.out;rw[hstep.out,<-hnum.out]at hv4;have hv5:=Aa (Limb.carry_zero _ _ _ _ hv4 (Nat.lt_of_lt_of_le hlt.out (Nat.le_of_lt (Nat.lt_of_le_of_lt (Nat.pow_le_pow_right (by omega) (by omega)) hroom.out))));have hb3:=hb.trans (hon3.below hb.size hg);clear hv3 hv4 hl3;go_wp2_with fail;go_roundw
       case rel=>exact ⟨k+1,0,1,by omega,by go_num,rfl,rfl,cur3,0,hL3.out,ho3,hr3,hb3,by omega,rfl,by omega,by rw[Nat.pow_zero,Nat.mul_one,Nat.add_zero];exact hv5.out,fun _=>rfl⟩
       case measure=>simp[intOf];omega
    · have hj8:j+1<=8:=(by omega);have c1:((wq:Int)*10==1000000000)=false:=(by simp;omega);have c2:((k:Int)==(s.size:Int)-1)=false:=(by simp;omega);have hk1:k+1≠s.size:=(by omega);clear hlast hten;go_wp2_with fail;go_roundw
      case rel=>exact ⟨k+1,gq*10+(bt-48),wq*10,by omega,by go_num,by rw[e6],by rw[e5],cur,j+1,hcl.out,ho,hr,hb,hj8,by rw[Nat.pow_succ,<-HW.out],by rw[Nat.pow_succ,<-HW.out];omega,by rw[Nat.pow_succ,<-HW.out,hnum.out];exact hstep.out,fun h=>absurd h hk1⟩
      case measure=>simp[intOf];omega
  · obtain rfl:k=s.size:=(by omega);obtain ⟨cur,j,hl,ho,hr,hb,hj,hw,hq,hv,hj0⟩:=R.out;have hj1:=hj0 rfl;subst hj1;rw[Nat.pow_zero]at hq hv hw;have hval:=Aa (show Limb.val cur=numOf s s.size by omega);have hcl:=Aa hl;clear hl hv R;go_wp2_with fail;refine (Cl g n n (numOf s s.size) w.heap.size cur wr hr ho (by rw[hcl.out];exact Nat.le_refl _) (Nat.le_refl _) (by omega) hg (by rw[List.take_of_length_le (by rw[hcl.out];exact Nat.le_refl _)];exact hval.out)).mono ?_
    rintro e w' ⟨A',m,rfl,how,rfl⟩;go_wp2_with fail;go_ret2
    exact ⟨A',m,rfl,how,hb⟩
end
section
open Go.RowKit
open Limb (limb Bf upto Az AF AA)
def AM (s:ByteArray) (w:World) (e:Ending) (w':World):Prop:=
 (Fa s/\s.size≠0->NH (numOf s s.size) w e w')/\(¬(Fa s/\s.size≠0)->UY 20 w e w')
def Xr (s:ByteArray) (w:World) (k:Nat) (v:Value) (wr:World):Prop:=
 ∃(B:Option Addr) (m c:Nat) (ys:List Nat),v=.slice B m c/\Nums wr B m ys/\m<=c/\c<=9223372036854775807/\m<=446/\Hid (Limb.val ys=numOf s k)/\Below w.heap.size w wr/\Hid (∀j,j<k->48<=Ad s j/\Ad s j<=57)
end
section
open Go.RowKit
def Dk (w:World) (g:Nat) (cs:Array Value):Prop:=w.heap[g]?=some (.cells cs 54 (0,0))
theorem Dk.lt {w:World} {g:Nat} {cs:Array Value} (h:Dk w g cs):g<w.heap.size:=by
 rcases Nat.lt_or_ge g w.heap.size with hlt|hge
 · exact hlt
 · unfold Dk at h;rw[Array.getElem?_eq_none hge]at h;cases h
theorem Dk.c0 {w:World} {g:Nat} {x y:Value} (h:Dk w g #[x,y]):w.cell? ⟨g,0,none⟩=some x:=by rw[cell_of_row w g 0 _ _ _ h];rfl
theorem Dk.c1 {w:World} {g:Nat} {x y:Value} (h:Dk w g #[x,y]):w.cell? ⟨g,1,none⟩=some y:=by rw[cell_of_row w g 1 _ _ _ h];rfl
theorem Dk.fr {w:World} {g:Nat} {cs:Array Value} (h:Dk w g cs) (i:Nat):w.frozen? ⟨g,i,none⟩=false:=by unfold Dk at h;simp[World.frozen?,h]
theorem Dk.below {w w':World} {g B:Nat} {cs:Array Value} (h:Dk w g cs) (hb:Below B w w') (hg:g<B):Dk w' g cs:=(hb.block g hg).trans h
theorem Dk.next {w w':World} {g:Nat} {cs:Array Value} (h:Dk w g cs) (hb:Below w.heap.size w w'):Dk w' g cs:=h.below hb h.lt
theorem Dk.new (w:World) (cs:Array Value):Dk (w.alloc (.cells cs 54)) w.heap.size cs:=heap_alloc_new w _
theorem Dk.alloc {w:World} {g:Nat} {cs:Array Value} (h:Dk w g cs) (o:Obj):Dk (w.alloc o) g cs:=h.next (Ae w o)
theorem Dk.drew {w:World} {g:Nat} {cs:Array Value} (h:Dk w g cs):Dk w.drew g cs:=h
theorem Dk.other {w w':World} {g r:Nat} {cs:Array Value} (h:Dk w g cs) (ho:An r w w') (hne:g≠r):Dk w' g cs:=
 (ho.block g h.lt (fun hh=>hne (by injection hh))).trans h
theorem size_alloc (w:World) (o:Obj):(w.alloc o).heap.size=w.heap.size+1:=by show (w.heap.push o).size=_;simp
theorem F9 (w:World) (X:Array Value):Dk (w.alloc (.cells X 54)) w.heap.size X/\Below w.heap.size w (w.alloc (.cells X 54))/\(w.alloc (.cells X 54)).heap.size=w.heap.size+1:=
 ⟨Dk.new w X,Ae w _,size_alloc w _⟩
theorem IQ (w:World) (X Y:Array Value):Dk ((w.alloc (.cells X 54)).alloc (.cells Y 54)) w.heap.size X/\Dk ((w.alloc (.cells X 54)).alloc (.cells Y 54)) (w.heap.size+1) Y /\
  Below w.heap.size w ((w.alloc (.cells X 54)).alloc (.cells Y 54))/\((w.alloc (.cells X 54)).alloc (.cells Y 54)).heap.size=w.heap.size+2:=by
 obtain ⟨h1,h2,h3⟩:=F9 w X;obtain ⟨k1,k2,k3⟩:=F9 (w.alloc (.cells X 54)) Y;rw[h3]at k1 k3;exact ⟨h1.alloc _,k1,h2.next (Ae _ _),by omega⟩
theorem Ph (w:World) (X Y Z:Array Value):Dk (((w.alloc (.cells X 54)).alloc (.cells Y 54)).alloc (.cells Z 54)) w.heap.size X/\Dk (((w.alloc (.cells X 54)).alloc (.cells Y 54)).alloc (.cells Z 54)) (w.heap.size+1) Y /\
  Dk (((w.alloc (.cells X 54)).alloc (.cells Y 54)).alloc (.cells Z 54)) (w.heap.size+1+1) Z /\
  Below w.heap.size w (((w.alloc (.cells X 54)).alloc (.cells Y 54)).alloc (.cells Z 54))/\(((w.alloc (.cells X 54)).alloc (.cells Y 54)).alloc (.cells Z 54)).heap.size=w.heap.size+3:=by
 obtain ⟨h1,h2,h3,h4⟩:=IQ w X Y;obtain ⟨k1,k2,k3⟩:=F9 ((w.alloc (.cells X 54)).alloc (.cells Y 54)) Z;rw[h4]at k1 k3;have e2:w.heap.size+2=w.heap.size+1+1:=rfl;rw[e2]at k1;exact ⟨h1.alloc _,h2.alloc _,k1,h3.next (Ae _ _),by omega⟩
theorem BA {w:World} {ops:Array Oper} {rest:List Oper} {o:Oper} {a:Act} {Q:Exit->Act->World->Prop} (hgd:o.guard=none) (x y:Operand) (ho:o.op=.store 54 x y)
  (g:Nat) (s:Bool) (A:Option Addr) (n c:Nat) (hx:a.eval x=.pointer (some ⟨g,0,none⟩)) (hy:a.eval y=.agg #[.bool s,.slice A n c]) (u v:Value) (hb:Dk w g #[u,v])
  (h:∀w',Dk w' g #[.bool s,.slice A n c]->An g w w'->wpList Tryz.prog ops Q rest (a.put o.dst undef) w'):wpList Tryz.prog ops Q (o::rest) a w:=by
 refine wpList_store_row hgd 54 x y ho g #[.bool s,.slice A n c] hx hy 54 #[u,v] hb (by kernel_rfl) rfl (by simp[Value.oneCell']) ?_;refine h _ ?_ (DT w g _);have:=setRow_heap w g #[u,v] #[.bool s,.slice A n c] _ _ hb;exact this
theorem Dk.set2 {w:World} {g:Nat} {u v:Value} (h:Dk w g #[u,v]) (x y:Value):Dk ((w.setCell ⟨g,0,none⟩ x).setCell ⟨g,1,none⟩ y) g #[x,y]:=by unfold Dk at h ⊢;simp[World.setCell,Array.getElem?_modify,h]
theorem Cg (w:World) (g:Nat) (x y:Value):An g w ((w.setCell ⟨g,0,none⟩ x).setCell ⟨g,1,none⟩ y):=((An.refl g w).setCell 0 x).setCell 1 y
theorem BD {fn:Func} {R:Ending->World->Prop} {a:Act} {w:World} {g p:Nat} {x y:Value} (hres:fn.results=#[.cell p 54]) (hp:a.tmps.getD p undef=.pointer (some ⟨g,0,none⟩))
  (hb:Dk w g #[x,y]) (hd:a.defers=[]) (hR:R (.returned (.agg #[x,y])) w):bodyPost Tryz.prog fn R .ret a w:=
 bodyPost_ret (results_cell_row hres _ _ g _ #[x,y] _ _ hp hb Tryz.underlying54 rfl (by kernel_rfl)) hd hR
theorem _root_.Go.Proofs.YtgohmojcopajoaaGreatDoor.Nums.offBlk {w:World} {A:Option Addr} {n g:Nat} {xs:List Nat} {s:Bool} {B:Option Addr} {m d:Nat} (h:Nums w A n xs) (hb:Dk w g #[.bool s,.slice B m d]):0<n->Apart A g:=by
 intro hn ad had he;obtain ⟨b,o,e,hc⟩:=h.2.2 hn;have h0:=hc 0 hn;rw[had]at e;injection e with e
 subst e;have he':b=g:=he;subst he';rw[cell_of_row w b _ _ _ _ hb]at h0;match o,h0 with
 |0,h0=>simp at h0
 |1,h0=>simp at h0
 |o+2,h0=>simp at h0
theorem _root_.Go.Proofs.YtgohmojcopajoaaGreatDoor.Nums.keepBlk {w w':World} {A:Option Addr} {n g:Nat} {xs:List Nat} {s:Bool} {B:Option Addr} {m d:Nat} (h:Nums w A n xs) (hb:Dk w g #[.bool s,.slice B m d]) (ho:An g w w'):Nums w' A n xs:=h.grown' ho (h.offBlk hb)
theorem _root_.Go.Proofs.YtgohmojcopajoaaGreatDoor.Nums.only {w w':World} {A:Option Addr} {n g:Nat} {xs:List Nat} (h:Nums w A n xs) (ho:An g w w') (ha:0<n->Apart A g):Nums w' A n xs:=h.grown' ho ha
end
end Go.Proofs.YtgohmojcopajoaaGreatDoor.Nu
