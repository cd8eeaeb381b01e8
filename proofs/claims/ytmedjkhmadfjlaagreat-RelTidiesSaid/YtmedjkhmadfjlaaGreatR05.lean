/- Texts of one seat, put together: MulC MulD Word Guess. -/
import Derived.Test.YtmedjkhmadfjlaaGreatR04
set_option linter.unusedVariables false
set_option linter.unusedSimpArgs false
set_option maxRecDepth 100000
set_option maxHeartbeats 16000000
namespace Go.Proofs.YtmedjkhmadfjlaaGreat
section
open Go.RowKit
open Limb (limb AQ upto upto_succ Az AC)
structure UE (a b half n m:Nat):Prop where
 a0:L (a%4294967296^half)<=half
 b0:L (b%4294967296^half)<=half
 sa:L (a%4294967296^half+a/4294967296^half)<=half+1
 sb:L (b%4294967296^half+b/4294967296^half)<=half+1
 low:L (a%4294967296^half*(b%4294967296^half))<=2*half
 high:L (a/4294967296^half*(b/4294967296^half))<=n+m-2*half
 le1:a%4294967296^half*(b%4294967296^half)<=(a%4294967296^half+a/4294967296^half)*(b%4294967296^half+b/4294967296^half)
 le2:a/4294967296^half*(b/4294967296^half)<=(a%4294967296^half+a/4294967296^half)*(b%4294967296^half+b/4294967296^half)-a%4294967296^half*(b%4294967296^half)
 all:a%4294967296^half*(b%4294967296^half)+4294967296^(2*half)*(a/4294967296^half*(b/4294967296^half)) +
  4294967296^half*((a%4294967296^half+a/4294967296^half)*(b%4294967296^half+b/4294967296^half)-a%4294967296^half*(b%4294967296^half)-a/4294967296^half*(b/4294967296^half))=a*b
 lt:a*b<4294967296^(n+m)
 mid:(a%4294967296^half+a/4294967296^half)*(b%4294967296^half+b/4294967296^half)≠0
theorem VX (p a0 a1 b0 b1:Nat):a0*b0+p*p*(a1*b1)+p*((a0+a1)*(b0+b1)-a0*b0-a1*b1)=(a0+p*a1)*(b0+p*b1):=by
 have e:(a0+a1)*(b0+b1)=a0*b0+a0*b1+(a1*b0+a1*b1):=by rw[Nat.add_mul,Nat.mul_add,Nat.mul_add]
 have e2:(a0+a1)*(b0+b1)-a0*b0-a1*b1=a0*b1+a1*b0:=by omega
 rw[e2,Nat.add_mul,Nat.mul_add,Nat.mul_add,Nat.mul_add];have e3:a0*(p*b1)=p*(a0*b1):=Nat.mul_left_comm _ _ _;have e4:p*a1*b0=p*(a1*b0):=Nat.mul_assoc _ _ _;have e5:p*a1*(p*b1)=p*p*(a1*b1):=by rw[Nat.mul_assoc,Nat.mul_left_comm a1 p b1,<-Nat.mul_assoc]
 rw[e3,e4,e5];omega
theorem UF (a b half n m:Nat) (hn:n=L a) (hm:m=L b) (hna:half<n) (hnb:half<m) (h2:n<=2*half) (hmn:m<=n):UE a b half n m:=by
 have ha0:a%4294967296^half<4294967296^half:=Nat.mod_lt _ (Nat.pow_pos (by omega));have hb0:b%4294967296^half<4294967296^half:=Nat.mod_lt _ (Nat.pow_pos (by omega));have la1:=Ro a half;have lb1:=Ro b half;have ha1:a/4294967296^half<4294967296^half:=Nat.lt_of_lt_of_le (GC _) (Limb.pow_mono (by omega));have hb1:b/4294967296^half<4294967296^half:=Nat.lt_of_lt_of_le (GC _) (Limb.pow_mono (by omega));have ea:=Nat.mod_add_div a (4294967296^half)
 have eb:=Nat.mod_add_div b (4294967296^half);have l0:=M7 (a%4294967296^half) (b%4294967296^half);have l1:=M7 (a/4294967296^half) (b/4294967296^half);have la0:L (a%4294967296^half)<=half:=LJ ha0;have lb0:L (b%4294967296^half)<=half:=LJ hb0;have hall:=VX (4294967296^half) (a%4294967296^half) (a/4294967296^half) (b%4294967296^half) (b/4294967296^half);rw[ea,eb,<-Nat.pow_add]at hall;have e2:half+half=2*half:=by omega
 rw[e2]at hall;have hexp:∀x y z t:Nat,(x+y)*(z+t)=x*z+x*t+(y*z+y*t):=fun x y z t=>by rw[Nat.add_mul,Nat.mul_add,Nat.mul_add]
 have hle:=hexp (a%4294967296^half) (a/4294967296^half) (b%4294967296^half) (b/4294967296^half);refine ⟨la0,lb0,LJ (add_lt _ _ _ ha0 ha1),LJ (add_lt _ _ _ hb0 hb1),by omega,by omega,by rw[hle];omega,by rw[hle];omega,hall,by rw[hn,hm];exact CI a b _ _ (GC a) (GC b),?_⟩;intro h0;have ha:a≠0:=by intro h;subst h;rw[Rn]at hn;omega
 have hb:b≠0:=by intro h;subst h;rw[Rn]at hm;omega
 have hab:a*b≠0:=Nat.mul_ne_zero ha hb;rcases Nat.mul_eq_zero.1 h0 with h|h
 · obtain ⟨e1,e2⟩:=Nat.add_eq_zero_iff.1 h;rw[e1,e2,Nat.mul_zero]at ea;exact ha ea.symm
 · obtain ⟨e1,e2⟩:=Nat.add_eq_zero_iff.1 h;rw[e1,e2,Nat.mul_zero]at eb;exact hb eb.symm
theorem VY (P Q X half k:Nat) (hk:half<=k) (h:P+4294967296^(2*half)*Q+4294967296^half*X<4294967296^k):X<4294967296^(k-half):=by
 have e:4294967296^k=4294967296^half*4294967296^(k-half):=by rw[<-Nat.pow_add];congr 1;omega
 rw[e]at h;refine Nat.lt_of_mul_lt_mul_left (a:=4294967296^half) ?_;exact Nat.lt_of_le_of_lt (Nat.le_add_left _ _) h
theorem Pi (zs:List Nat) (ws:List Nat) (h:ws.length<=zs.length):win (put zs 0 ws) 0 ws.length=ws:=by unfold win put;simp
theorem Tq (zs:List Nat) (us ws:List Nat) (h:us.length=ws.length):put (put zs 0 us) 0 ws=put zs 0 ws:=by unfold put;simp[h]
theorem Eh (A B:Option Addr) (n c m d a b half:Nat) (w:World) (IH:Eo (n+m)) (hx:Av w A n (Limb.canon a)) (hc:n<=c) (hm:c<=9223372036854775807) (hy:Av w B m (Limb.canon b)) (hd:m<=d) (hmd:d<=9223372036854775807) (h39:n+m<=549755813888)
  (hna:half<n) (hnb:half<m) (h2:n<=2*half) (h2':2*half<=n+1) (hmn:m<=n) (h48:48<=m) :
  Calls Tryz.prog 191 #[.slice A n c,.slice B m d,.int .i64 (half:Int)] w (CO (a*b) w):=by
 have HH:=Ac (UF a b half n m hx.len.symm hy.len.symm hna hnb h2 hmn);have IHH:=Ac IH;clear IH;have f2:(half:Int)<=(n:Int):=by omega
 have f2b:(half:Int)<=(m:Int):=by omega
 have f4:(c=half)=False:=by simp;omega
 have f4b:(d=half)=False:=by simp;omega
 go_enter Tryz.func191,Tryz.ntmps191;go_wp2_with fail;go_quiet ((go_at_call 209;exact NJ (Hc A n c half a _ (hx.drewN _) (by omega) hc hm)))
 go_wp2_with fail;go_quiet ((go_at_call 209;exact FI (Hc B m d half b _ (hy.drewN _) (by omega) hd hmd)))
 go_wp2_with fail;have hA0:=Lg A n half a w hx (by omega);have hB0:=Lg B m half b w hy (by omega);have hA1:=Jy A n c half a w hx hna hc;have hB1:=Jy B m d half b w hy hnb hd;have i1:=HH.out.a0;have i2:=HH.out.b0;have i3:=HH.out.sa;have i4:=HH.out.sb;have i5:=HH.out.low;have i6:=HH.out.high;have HLE1:=Ac HH.out.le1;have HLE2:=Ac HH.out.le2;have HALL:=Ac HH.out.all;have HLT:=Ac HH.out.lt;have HMID:=Ac HH.out.mid;generalize a%4294967296^half=a0 at *
 generalize a/4294967296^half=a1 at *;generalize b%4294967296^half=b0 at *;generalize b/4294967296^half=b1 at *;clear hx hy HH;have t0:=Ap w;refine (IHH.out (IF A a0) (IF B b0) (L a0) (L a0) (L b0) (L b0) a0 b0 (w.drewN _) (by omega) (hA0.below (t0 _)) (Nat.le_refl _) (by omega) (hB0.below (t0 _)) (Nat.le_refl _) (by omega) (by omega)).mono ?_;rintro e w1 ⟨A1,n1,rfl,o1,b1w⟩;have t1:=(t0 _).next b1w;clear t0;clear b1w;have l1:n1<=2*half:=by rw[o1.len];exact i5
 go_wp2_with fail;refine (IHH.out (A.map (·.add half)) (B.map (·.add half)) (n-half) (c-half) (m-half) (d-half) a1 b1 _ (by omega) (hA1.below t1) (by omega) (by omega) (hB1.below t1) (by omega) (by omega) (by omega)).mono ?_;rintro e w2 ⟨A2,n2,rfl,o2,b2⟩;have t2:=t1.next b2;have l2:n2<=n+m-2*half:=by rw[o2.len];exact i6
 go_wp2_with fail;refine (LH (IF A a0) (A.map (·.add half)) (L a0) (L a0) (n-half) (c-half) _ _ _ (hA0.below t2) (Nat.le_refl _) (by omega) (by omega) (hA1.below t2) (by omega) (by omega) (by omega)).mono ?_;rintro e w3 ⟨A3,n3,rfl,o3,b3⟩;rw[Limb.val_canon,Limb.val_canon]at o3;have t3:=t2.next b3;have l3:n3<=half+1:=by rw[o3.len];exact i3
 go_wp2_with fail;refine (LH (IF B b0) (B.map (·.add half)) (L b0) (L b0) (m-half) (d-half) _ _ _ (hB0.below t3) (Nat.le_refl _) (by omega) (by omega) (hB1.below t3) (by omega) (by omega) (by omega)).mono ?_;rintro e w4 ⟨A4,n4,rfl,o4,b4⟩;rw[Limb.val_canon,Limb.val_canon]at o4;have t4:=t3.next b4;have l4:n4<=half+1:=by rw[o4.len];exact i4
 go_wp2_with fail;refine (IHH.out A3 A4 n3 _ n4 _ (a0+a1) (b0+b1) _ (by omega) (o3.nums.below b4) (Nat.le_refl _) (by omega) o4.nums (Nat.le_refl _) (by omega) (by omega)).mono ?_;rintro e w5 ⟨A5,n5,rfl,o5,b5⟩;have t5:=t4.next b5;have l5:n5<=2*half+2:=by have h1:=M7 (a0+a1) (b0+b1);rw[o5.len];unfold L at h1 i3 i4;omega
 have low5:=o1.nums.below ((b2.next b3).next (b4.next b5));have high5:=o2.nums.below ((b3.next b4).next b5);have low4:=o1.nums.below ((b2.next b3).next b4);have high4:=o2.nums.below (b3.next b4);have hl15:n1<=n5:=by rw[o1.len,o5.len];exact LK HLE1.out
 have hl25:n2<=n5:=by rw[o2.len,o5.len];exact LK (Nat.le_trans HLE2.out (Nat.sub_le _ _))
 have hrow:=o5.trimRow.2 HMID.out;obtain ⟨g,zs,rfl,hg,hr5,hzok,hzl,hwin⟩:=hrow;have HW:=Lib.hid hwin;have hg5:w.heap.size<=g:=by have:=t4.size;omega
 clear hwin b2 b3 b4 b5 t1 t2 t3 t4 o3 o4 hA0 hB0 hA1 hB1;have hM:=GC ((a0+a1)*(b0+b1));have e5:L ((a0+a1)*(b0+b1))=n5:=o5.len.symm;rw[e5]at hM;have HM:=Ac hM;clear e5 hM o1 o2 o5 i1 i2 i3 i4 i5 i6 l3 l4;generalize a0*b0=P at *;generalize a1*b1=Q at *;generalize (a0+a1)*(b0+b1)=M at *;have HX:=Ac (VY P Q (M-P-Q) half (n+m) (by omega) (by rw[HALL.out];exact HLT.out));go_wp2_with fail
 refine (Fs g 0 n5 _ zs A1 n1 n1 (Limb.canon P) w5 hr5 hzok (by omega) (by omega) low5 hl15 (fun h=>low4.apart h hg) (by rw[HW.out,Limb.val_canon,Limb.val_canon];exact HLE1.out)).mono ?_;rintro e w6 ⟨rfl,hr6,ho6⟩;rw[HW.out,Limb.val_canon,Limb.val_canon]at hr6;have low6:=low5.grown' ho6 (fun h=>low4.apart h hg);have high6:=high5.grown' ho6 (fun h=>high4.apart h hg);have hf1:(Limb.fixed n5 (M-P)).length=n5:=Limb.fixed_length _ _
 have hw2:win (put zs 0 (Limb.fixed n5 (M-P))) 0 n5=Limb.fixed n5 (M-P):=by have:=Pi zs (Limb.fixed n5 (M-P)) (by rw[hf1];exact hzl);rwa [hf1]at this
 have hv2:Limb.val (win (put zs 0 (Limb.fixed n5 (M-P))) 0 n5)=M-P:=by rw[hw2,Limb.fixed_val,Nat.mod_eq_of_lt (Nat.lt_of_le_of_lt (Nat.sub_le _ _) HM.out)]
 have HV2:=Lib.hid hv2;have hl2:(put zs 0 (Limb.fixed n5 (M-P))).length=zs.length:=AM _ _ _ (by rw[hf1];omega);have HL2:=Lib.hid hl2;have HF1:=Lib.hid hf1;clear hf1 hw2 hv2 hl2;have hf2:n5<=4611686018427387904:=by omega
 go_wp2_with fail;refine (Fs g 0 n5 _ _ A2 n2 n2 (Limb.canon Q) w6 hr6 (DD hzok _ (Limb.fixed_ok _ _)) (by rw[HL2.out];omega) hf2 high6 hl25 (fun h=>high4.apart h hg) (by rw[HV2.out,Limb.val_canon];exact HLE2.out)).mono ?_;rintro e w7 ⟨rfl,hr7,ho7⟩;rw[HV2.out,Limb.val_canon,Tq _ _ _ (by rw[Limb.fixed_length,Limb.fixed_length])]at hr7;have low7:=low6.grown' ho7 (fun h=>low4.apart h hg);have high7:=high6.grown' ho7 (fun h=>high4.apart h hg)
 have t7:Below w.heap.size w w7:=(t5.trans (ho6.below t5.size hg5)).trans (ho7.below (by have:=ho6.size;have:=t5.size;omega) hg5);clear ho6 ho7 hr5 hr6 low5 low6 high5 high6 low4 high4 t5 HV2 HL2 HF1 HW;have hlp:=low7.len;have HLP:=Lib.hid hlp;have hlq:=high7.len;have HLQ:=Lib.hid hlq;clear hlp hlq;have hr1:(put (List.replicate (n+m) 0) 0 (Limb.canon P)).length=n+m:=by rw[AM _ _ _ (by rw[List.length_replicate,HLP.out];omega),List.length_replicate]
 have HR1:=Lib.hid hr1;clear hr1;have f5:(n+m=2*half)=False:=by simp;omega
 have f6:(2*(half:Int))<=(n:Int)+(m:Int):=by omega
 go_wp2_with (first
  |(at_make;refine Bl _ rfl _ _ rfl _ (n+m) rfl rfl (by omega) (by omega) ?_;intro w8 hr8 hb8 hs8)
  |(with_reducible refine Bw (o:=⟨some 54,_,_,_,_,_⟩) rfl _ _ rfl w7.heap.size 0 _ _ _ _ n1 n1 rfl (fun _=>rfl) rfl _ _ hr8 (low7.below hb8) (by omega) (by simp;omega) ?_;intro w9 hr9 ho9)
  |(with_reducible refine Bw (o:=⟨some 60,_,_,_,_,_⟩) rfl _ _ rfl w7.heap.size (2*half) _ _ _ _ n2 n2 rfl (fun _=>rfl) rfl _ _ hr9 ((high7.below hb8).grown' ho9.gb (fun h=>high7.apart h (Nat.le_refl _))) (by omega) (by rw[HR1.out];omega) ?_;intro w10 hr10 ho10))
 have hv9:Limb.val (put (List.replicate (n+m) 0) 0 (Limb.canon P))=P:=(M8 n m n1 P HLP.out.symm (by omega)).2.2;have hP2:P<4294967296^(2*half):=Nat.lt_of_lt_of_le (GC P) (Limb.pow_mono (by have:=HLP.out;unfold L;omega));have hv10:Limb.val (put (put (List.replicate (n+m) 0) 0 (Limb.canon P)) (2*half) (Limb.canon Q))=P+4294967296^(2*half)*Q:=by rw[Hb _ _ _ (by rw[HR1.out,HLQ.out];omega) (by rw[hv9];exact hP2),hv9,Limb.val_canon]
 have hl10:(put (put (List.replicate (n+m) 0) 0 (Limb.canon P)) (2*half) (Limb.canon Q)).length=n+m:=by rw[AM _ _ _ (by rw[HR1.out,HLQ.out];omega)];exact HR1.out
 have hk10:Limb.Ok (put (put (List.replicate (n+m) 0) 0 (Limb.canon P)) (2*half) (Limb.canon Q)):=DD (DD (Limb.Ok.replicate _) _ (Limb.ok_canon _)) _ (Limb.ok_canon _);have HV10:=Lib.hid hv10;have HL10:=Lib.hid hl10;clear hv9 hP2 hv10 hl10;generalize put (put (List.replicate (n+m) 0) 0 (Limb.canon P)) (2*half) (Limb.canon Q)=zr at *;have t8:AA w7.heap.size w8 w10:=ho9.trans ho10;have hr7':=((hr7.below hb8 hr7.lt).grown t8.gb (by intro h;injection h with h;have:=hr7.lt;omega))
 have hap:Apart (some ⟨g,0,none⟩) w7.heap.size:=by
  intro ad h;injection h with h
  subst h;have:=hr7.lt;show g≠w7.heap.size;omega
 have hF2:(Limb.fixed n5 (M-P-Q)).length=n5:=Limb.fixed_length _ _;have hn7:Av w10 (some ⟨g,0,none⟩) n5 (Limb.fixed n5 (M-P-Q)):=by have h1:=hr7'.nums (DD hzok 0 (Limb.fixed_ok _ _)) (o:=0) (n:=n5) (by rw[AM _ _ _ (by rw[hF2];omega)];omega);have h2:=Pi zs (Limb.fixed n5 (M-P-Q)) (by rw[hF2];exact hzl);rw[hF2]at h2;unfold win at h2;rw[h2]at h1;exact h1
 have hv7:Limb.val (Limb.fixed n5 (M-P-Q))=M-P-Q:=by rw[Limb.fixed_val,Nat.mod_eq_of_lt];have:=HM.out;omega
 have hcut:=BX w10 _ _ _ hn7;have hdet:=fun wz=>BL (some ⟨g,0,none⟩) n5 n5 (Limb.fixed n5 (M-P-Q)) wz
 rw[hv7]at hcut hdet;have hd2:=hdet _ hn7.drew (Nat.le_refl _) (by omega);have HCUT:=Ac hcut.2.2.1;have hLX:L (M-P-Q)<=n+m-half:=LJ HX.out;have hap2:Apart (IF (some ⟨g,0,none⟩) (M-P-Q)) w7.heap.size:=by
  unfold IF;split
  · intro ad h;cases h
  · exact hap
 clear hdet hcut hF2 hv7 hr7 hap;have f7:(half:Int)<=(n:Int)+(m:Int):=by omega
 have f8:(n+m=half)=False:=by simp;omega
 generalize M-P-Q=X at *;go_region_with (first
  |(go_at_call 146;refine hd2.mono ?_;rintro e w' ⟨rfl,rfl⟩)
  |(go_at_call 192;refine (Ds w7.heap.size half (n+m-half) _ zr _ _ _ _ _ hr10.drew hk10 (by rw[HL10.out];omega) (by omega) HCUT.out.drew hLX (fun _=>hap2)).mono ?_;rintro e w11 ⟨rfl,hr11,ho11⟩))
 go_wp2_with fail;have hfin:Limb.val (put zr half (Limb.fixed (n+m-half) (Limb.val (win zr half (n+m-half))+Limb.val (Limb.canon X))))=a*b:=by rw[Ph zr half _ _ (by rw[HL10.out];omega) (by rw[HL10.out,HV10.out,Limb.val_canon,HALL.out];exact HLT.out),HV10.out,Limb.val_canon,HALL.out]
 have hlen:(put zr half (Limb.fixed (n+m-half) (Limb.val (win zr half (n+m-half))+Limb.val (Limb.canon X)))).length=n+m:=by rw[AM _ _ _ (by rw[Limb.fixed_length,HL10.out];omega)];exact HL10.out
 have hok:=DD hk10 half (Limb.fixed_ok (n+m-half) (Limb.val (win zr half (n+m-half))+Limb.val (Limb.canon X)));refine (BU w7.heap.size (n+m) _ (a*b) w.heap.size _ _ hr11 hok (by rw[hlen];exact Nat.le_refl _) (by omega) (by omega) t7.size (by rw[List.take_of_length_le (by rw[hlen];exact Nat.le_refl _)];exact hfin)).mono ?_;rintro e w12 ⟨A',j,rfl,how,rfl⟩;clear hfin hlen hok;go_wp2_with fail;go_ret
 exact ⟨A',j,rfl,how,((t7.next hb8).trans (t8.below (by have:=hb8.size;have:=t7.size;omega) t7.size)).drew.trans (ho11.below (by have:=hb8.size;have:=t7.size;have:=t8.size;show w.heap.size<=w10.heap.size;omega) t7.size)⟩
end
section
open Go.RowKit
open Limb (limb AQ upto upto_succ Az AC)
theorem M9 (k:Nat):∀(A B:Option Addr) (n c m d a b:Nat) (w:World),n+m=k->Av w A n (Limb.canon a)->n<=c->c<=9223372036854775807->Av w B m (Limb.canon b)->m<=d->d<=9223372036854775807->n+m<=549755813888 ->
   Calls Tryz.prog 147 #[.slice A n c,.slice B m d] w (CO (a*b) w):=by
 induction k using Nat.strongRecOn with
 |ind k ih0=>
 intro A B n c m d a b w hk hx hc hm hy hd hmd h39;have ih:∀j,j<n+m->_:=fun j hj=>ih0 j (by omega)
 clear ih0;clear hk;by_cases hs:n<m
 · have hs2:=hs;by_cases h48:n<48
   · go_enter Tryz.func147,Tryz.ntmps147;go_wp2_with fail;refine (Eu B A m d n c _ _ w hy hd hmd (by omega) hx hc hm (by omega)).mono ?_;rintro e w1 ⟨A1,n1,rfl,h3,h4⟩;rw[Limb.val_canon,Limb.val_canon]at h3;go_wp2_with fail;go_ret
     exact ⟨A1,n1,rfl,by rw[Nat.mul_comm a b];exact h3,h4⟩
   · have eh:((m:Int)+1)/2=(((m+1)/2:Nat):Int):=(by omega);have EH:=Lib.hid eh;clear eh;by_cases hh:n<=(m+1)/2
     · have hh1:(n:Int)<=((m:Int)+1)/2:=(by omega);have IHT:Eo (m+n):=by
        intro A' B' n' c' m' d' a' b' w' hlt h1 h2 h3 h4 h5 h6 h7;exact ih (n'+m') (by omega) A' B' n' c' m' d' a' b' w' rfl h1 h2 h3 h4 h5 h6 h7
       have IHH:=Ac IHT;clear IHT;go_enter Tryz.func147,Tryz.ntmps147;go_wp2_with fail;rw[EH.out];refine (E9 B A m d n c b a ((m+1)/2) w IHH.out hy hd hmd hx hc hm (by omega) (by omega) (by omega)).mono ?_;rintro e w1 ⟨A1,n1,rfl,h3,h4⟩;go_wp2_with fail;go_ret
       exact ⟨A1,n1,rfl,by rw[Nat.mul_comm a b];exact h3,h4⟩
     · have hh1:¬(n:Int)<=((m:Int)+1)/2:=(by omega);have IHT:Eo (m+n):=by
        intro A' B' n' c' m' d' a' b' w' hlt h1 h2 h3 h4 h5 h6 h7;exact ih (n'+m') (by omega) A' B' n' c' m' d' a' b' w' rfl h1 h2 h3 h4 h5 h6 h7
       have IHH:=Ac IHT;clear IHT;go_enter Tryz.func147,Tryz.ntmps147;go_wp2_with fail;rw[EH.out];refine (Eh B A m d n c b a ((m+1)/2) w IHH.out hy hd hmd hx hc hm (by omega) (by omega) (by omega) (by omega) (by omega) (by omega) (by omega)).mono ?_;rintro e w1 ⟨A1,n1,rfl,h3,h4⟩;go_wp2_with fail;go_ret
       exact ⟨A1,n1,rfl,by rw[Nat.mul_comm a b];exact h3,h4⟩
 · have hs2:m<=n:=(by omega);by_cases h48:m<48
   · go_enter Tryz.func147,Tryz.ntmps147;go_wp2_with fail;refine (Eu A B n c m d _ _ w hx hc hm (by omega) hy hd hmd (by omega)).mono ?_;rintro e w1 ⟨A1,n1,rfl,h3,h4⟩;rw[Limb.val_canon,Limb.val_canon]at h3;go_wp2_with fail;go_ret
     exact ⟨A1,n1,rfl,h3,h4⟩
   · have eh:((n:Int)+1)/2=(((n+1)/2:Nat):Int):=(by omega);have EH:=Lib.hid eh;clear eh;by_cases hh:m<=(n+1)/2
     · have hh1:(m:Int)<=((n:Int)+1)/2:=(by omega);have IHT:Eo (n+m):=by
        intro A' B' n' c' m' d' a' b' w' hlt h1 h2 h3 h4 h5 h6 h7;exact ih (n'+m') (by omega) A' B' n' c' m' d' a' b' w' rfl h1 h2 h3 h4 h5 h6 h7
       have IHH:=Ac IHT;clear IHT;go_enter Tryz.func147,Tryz.ntmps147;go_wp2_with fail;rw[EH.out];refine (E9 A B n c m d a b ((n+1)/2) w IHH.out hx hc hm hy hd hmd (by omega) (by omega) (by omega)).mono ?_;rintro e w1 ⟨A1,n1,rfl,h3,h4⟩;go_wp2_with fail;go_ret
       exact ⟨A1,n1,rfl,h3,h4⟩
     · have hh1:¬(m:Int)<=((n:Int)+1)/2:=(by omega);have IHT:Eo (n+m):=by
        intro A' B' n' c' m' d' a' b' w' hlt h1 h2 h3 h4 h5 h6 h7;exact ih (n'+m') (by omega) A' B' n' c' m' d' a' b' w' rfl h1 h2 h3 h4 h5 h6 h7
       have IHH:=Ac IHT;clear IHT;go_enter Tryz.func147,Tryz.ntmps147;go_wp2_with fail;rw[EH.out];refine (Eh A B n c m d a b ((n+1)/2) w IHH.out hx hc hm hy hd hmd (by omega) (by omega) (by omega) (by omega) (by omega) (by omega) (by omega)).mono ?_;rintro e w1 ⟨A1,n1,rfl,h3,h4⟩;go_wp2_with fail;go_ret
       exact ⟨A1,n1,rfl,h3,h4⟩
theorem MA (A B:Option Addr) (n c m d a b:Nat) (w:World) (hx:Av w A n (Limb.canon a)) (hc:n<=c) (hm:c<=9223372036854775807) (hy:Av w B m (Limb.canon b)) (hd:m<=d) (hmd:d<=9223372036854775807) (h39:n+m<=549755813888) :
  Calls Tryz.prog 147 #[.slice A n c,.slice B m d] w (CO (a*b) w):=
 M9 (n+m) A B n c m d a b w rfl hx hc hm hy hd hmd h39
theorem Tr (A B:Option Addr) (n c m d:Nat) (xs ys:List Nat) (w:World) (hx:Av w A n xs) (hc:n<=c) (hm:c<=9223372036854775807) (hy:Av w B m ys) (hd:m<=d) (hmd:d<=9223372036854775807) (h39:n+m<=549755813888) :
  Calls Tryz.prog 102 #[.slice A n c,.slice B m d] w (CO (Limb.val xs*Limb.val ys) w):=by
 have hA:=BX w A xs n hx;have hB:=BX w B ys m hy;have h1:=hA.2.1;have h2:=hB.2.1;go_enter Tryz.func102,Tryz.ntmps102;go_wp2_with fail;refine (BL A n c xs w hx hc hm).mono ?_;rintro e w' ⟨rfl,rfl⟩;go_wp2_with fail;refine (BL B m d ys w hy hd hmd).mono ?_;rintro e w' ⟨rfl,rfl⟩;go_wp2_with fail;refine (MA _ _ (L (Limb.val xs)) (L (Limb.val xs)) (L (Limb.val ys)) (L (Limb.val ys)) _ _ w hA.2.2.1 (Nat.le_refl _) (by omega) hB.2.2.1 (Nat.le_refl _) (by omega) (by omega)).mono ?_
 rintro e w1 ⟨A1,n1,rfl,h3,h4⟩;go_wp2_with fail;go_ret
 exact ⟨A1,n1,rfl,h3,h4⟩
end
section
open Go.RowKit
open Limb (limb AQ upto upto_succ Az AC)
theorem UG (a b:Nat) (ha:a<4294967296) (hb:b<4294967296):bits BinOp.or IntKind.u64 ((a:Int)) ((b:Int)*4294967296)=(a:Int)+(b:Int)*4294967296:=by
 have h1:(b:Int)*4294967296=((b*4294967296:Nat):Int):=by omega
 rw[h1,u64_or_nat a (b*4294967296) (by omega) (by omega),Nat.or_comm,nat_join 32 (b*4294967296) a (by show b*4294967296%4294967296=0;omega) (by show a<4294967296;exact ha)];omega
theorem LL (a b:Nat) (ha:a<4294967296) (hb:b<4294967296):bits BinOp.or IntKind.u64 ((b:Int)*4294967296) ((a:Int))=(b:Int)*4294967296+(a:Int):=by
 have h1:(b:Int)*4294967296=((b*4294967296:Nat):Int):=by omega
 rw[h1,u64_or_nat (b*4294967296) a (by omega) (by omega),nat_join 32 (b*4294967296) a (by show b*4294967296%4294967296=0;omega) (by show a<4294967296;exact ha)];omega
theorem PL (a:Nat) (ha:a<4294967296):bits BinOp.or IntKind.u64 0 (a:Int)=(a:Int):=by have h:=u64_or_nat 0 a (by omega) (by omega);rw[Nat.zero_or]at h;exact h
theorem Hd (A:Option Addr) (n c:Nat) (xs:List Nat) (w:World) (hx:Av w A n xs) (hn:n<=2) :
  Calls Tryz.prog 195 #[.slice A n c] w (Pf (Limb.val xs:Nat) w):=by
 go_enter Tryz.func195,Tryz.ntmps195;go_wp2_with fail;go_loop [3,8] (fun v i=>∃k z:Nat,k<=n/\i=.int .i64 (k:Int)/\v=.int .u64 (z:Int)/\Hid (z=upto xs k)) (fun _ i=>n-(intOf i).toNat)
 case atStart=>exact ⟨0,0,Nat.zero_le _,rfl,rfl,by show _=_;rw[AC]⟩
 case round=>
  obtain ⟨k,z,hk,rfl,rfl,HZ⟩:=hrel;by_cases hkn:k<n
  · obtain ⟨b,o,x,rfl,hxl,hxe,hc⟩:=hx.at_ hkn;have HX:=Lib.hid hxe;clear hxe;obtain rfl|rfl:k=0\/k=1:=by omega
    · have hz0:z=0:=(by rw[HZ.out,AC]);subst hz0;rw[Nat.add_zero]at hc;go_wp2_with fail;rw[PL x hxl];go_round
      case rel=>exact ⟨1,x,by omega,rfl,rfl,by show _=_;rw[upto_succ,AC];unfold limb;rw[<-HX.out];omega⟩
      case measure=>simp[intOf];omega
    · have hzl:z<4294967296:=(by rw[HZ.out];exact E8 xs hx.ok 1);go_wp2_with fail;rw[UG z x hzl hxl];go_round
      case rel=>exact ⟨2,z+x*4294967296,by omega,rfl,by go_num,by show _=_;rw[upto_succ,<-HZ.out];unfold limb;rw[<-HX.out];omega⟩
      case measure=>simp[intOf];omega
  · go_wp2_with fail;go_ret
    have hkn2:k=n:=(by omega);exact ⟨by rw[HZ.out,Az xs k (by rw[hx.len];omega)];rfl,rfl⟩
end
section
open Go.RowKit
open Limb (limb AQ upto upto_succ Az AC)
def He (r0 r1 r2 b0 b1 q:Nat):Prop:=q<4294967296/\q*(b1*4294967296+b0)<=(r2*4294967296+r1)*4294967296+r0 /\
 ∀p,p<4294967296->p*(b1*4294967296+b0)<=(r2*4294967296+r1)*4294967296+r0->p<=q
def Du (r0 r1 r2 b0 b1 q t:Nat):Prop:=q*b1+t=r2*4294967296+r1/\∀p,p<4294967296->p*(b1*4294967296+b0)<=(r2*4294967296+r1)*4294967296+r0->p<=q
theorem Ib (q b0 b1:Nat):q*(b1*4294967296+b0)=q*b1*4294967296+q*b0:=by rw[Nat.mul_add,Nat.mul_assoc]
theorem MB (r0 r1 r2 b0 b1:Nat) (h0:r0<4294967296) (hb:0<b1):Du r0 r1 r2 b0 b1 ((r2*4294967296+r1)/b1) ((r2*4294967296+r1)%b1):=by refine ⟨by rw[Nat.mul_comm];exact Nat.div_add_mod _ _,fun p _ hp=>?_⟩;rw[Ib]at hp;rw[Nat.le_div_iff_mul_le hb];generalize p*b1=u at *;omega
theorem MC (r1 r2 b1:Nat) (h1:r1<4294967296) (h2:r2<=b1) (hb:2147483648<=b1):(r2*4294967296+r1)/b1<=4294967297:=by
 have h:(r2*4294967296+r1)/b1<4294967298:=by rw[Nat.div_lt_iff_lt_mul (by omega)];omega
 omega
theorem Jz (r0 r1 r2 b0 b1 q t:Nat) (h:Du r0 r1 r2 b0 b1 q t) (hq:q<4294967296) (hle:q*b0<=t*4294967296+r0):He r0 r1 r2 b0 b1 q:=by refine ⟨hq,?_,h.2⟩;rw[Ib,<-h.1,Nat.add_mul];omega
theorem PM (r0 r1 r2 b0 b1 q t:Nat) (h:Du r0 r1 r2 b0 b1 q t) (hq:4294967296<=q):Du r0 r1 r2 b0 b1 (q-1) (t+b1):=by obtain ⟨h1,h2⟩:=h;obtain ⟨j,rfl⟩:∃j,q=j+1:=⟨q-1,by omega⟩;refine ⟨?_,fun p hp hle=>by omega⟩;rw[Nat.add_sub_cancel,<-h1,Nat.succ_mul];omega
theorem NN (r0 r1 r2 b0 b1 q t:Nat) (h:Du r0 r1 r2 b0 b1 q t) (hgt:t*4294967296+r0<q*b0):1<=q/\Du r0 r1 r2 b0 b1 (q-1) (t+b1):=by
 obtain ⟨h1,h2⟩:=h;have hq:1<=q:=by
   rcases Nat.eq_zero_or_pos q with h0|h0
   · subst h0;rw[Nat.zero_mul]at hgt;omega
   · exact h0
 obtain ⟨j,rfl⟩:∃j,q=j+1:=⟨q-1,by omega⟩;refine ⟨hq,?_,fun p hp hle=>?_⟩
 · rw[Nat.add_sub_cancel,<-h1,Nat.succ_mul];omega
 · have h3:=h2 p hp hle;rcases Nat.lt_or_ge p (j+1) with h4|h4
   · omega
   · have h5:p=j+1:=(by omega);subst h5;exfalso;rw[Ib,<-h1,Nat.add_mul ((j+1)*b1)]at hle;omega
theorem It (r0 r1 r2 b0 b1 q t:Nat) (h:Du r0 r1 r2 b0 b1 q t) (hq:q<4294967296) (h0:b0<4294967296) (ht:4294967296<=t):He r0 r1 r2 b0 b1 q:=by refine Jz r0 r1 r2 b0 b1 q t h hq ?_;have:=IY q b0 hq h0;omega
theorem KG (r0 r1 r2 b0 b1 q t:Nat) (h:Du r0 r1 r2 b0 b1 q t) (h1:r1<4294967296) (h2:r2<=b1) (hq:4294967296<=q):t<4294967296:=by have e:=h.1;have h3:=Nat.mul_le_mul_right b1 hq;have h4:4294967296*b1=b1*4294967296:=Nat.mul_comm _ _;omega
def PN (r0 r1 r2 b0 b1:Nat) (w:World) (e:Ending) (w':World):Prop:=∃q:Nat,e=.returned (.int .u64 (q:Int))/\q<4294967296/\Hid (He r0 r1 r2 b0 b1 q)/\∃k,w'=w.drewN k
theorem J0 (g o c g2 o2 c2 r0 r1 r2 b0 b1:Nat) (w:World) (hr0:w.cell? ⟨g,o,none⟩=some (.int .u32 (r0:Int))) (hr1:w.cell? ⟨g,o+1,none⟩=some (.int .u32 (r1:Int))) (hr2:w.cell? ⟨g,o+2,none⟩=some (.int .u32 (r2:Int)))
  (hb0:w.cell? ⟨g2,o2,none⟩=some (.int .u32 (b0:Int))) (hb1:w.cell? ⟨g2,o2+1,none⟩=some (.int .u32 (b1:Int))) (l0:r0<4294967296) (l1:r1<4294967296) (l2:r2<4294967296) (k0:b0<4294967296) (k1:b1<4294967296) (hn:2147483648<=b1) (hle:r2<=b1) :
  Calls Tryz.prog 226 #[.slice (some ⟨g,o,none⟩) 3 c,.slice (some ⟨g2,o2,none⟩) 2 c2] w (PN r0 r1 r2 b0 b1 w):=by
 have hj:=LL r1 r2 l1 l2;have HS:=Ac (MB r0 r1 r2 b0 b1 l0 (by omega));have HF:=Ac (MC r1 r2 b1 l1 hle hn);have hq:((r2:Int)*4294967296+(r1:Int))/(b1:Int)=(((r2*4294967296+r1)/b1:Nat):Int):=by rw[Int.natCast_ediv,Int.natCast_add,Int.natCast_mul];rfl
 have hm:((r2:Int)*4294967296+(r1:Int))%(b1:Int)=(((r2*4294967296+r1)%b1:Nat):Int):=by rw[Int.natCast_emod,Int.natCast_add,Int.natCast_mul];rfl
 have HQ:=Lib.hid hq;have HM:=Lib.hid hm;clear hq hm;go_enter Tryz.func226,Tryz.ntmps226;go_wp2_with fail;go_quiet (fail)
 go_wp2_with fail;go_quiet (fail)
 go_wp2_with fail;go_loopw [6,7] (fun x y wr=>∃q t:Nat,q<=4294967297/\t<4294967296/\x=.int .u64 (q:Int)/\y=.int .u64 (t:Int)/\Hid (Du r0 r1 r2 b0 b1 q t)/\∃k,wr=w.drewN k) (fun x _ _=>(intOf x).toNat)
 case atStart=>exact ⟨_,_,HF.out,Nat.lt_of_lt_of_le (Nat.mod_lt _ (by omega)) (by omega),by rw[HQ.out],by rw[HM.out],HS.out,by first|exact ⟨_,rfl⟩|(simp only[World.drewN_drewN];exact ⟨_,rfl⟩)⟩
 case round=>
  clear HS HF HQ HM hj;obtain ⟨q,t,hq1,ht1,rfl,rfl,HG,k,rfl⟩:=hrel;have hj2:=LL r0 t l0 ht1;by_cases hqb:q<4294967296
  · have h1:((q:Int)/4294967296 != 0)=false:=(by simp;omega);obtain ⟨hp1,hp2,hp3⟩:=GY q b0 hqb k0;have HP:=Lib.hid hp3;clear hp3;by_cases hgt:t*4294967296+r0<q*b0
    · have h2:(t:Int)*4294967296+(r0:Int)<(q:Int)*(b0:Int):=(by have:=HP.out;omega);have HM2:=Ac (NN r0 r1 r2 b0 b1 q t HG.out hgt);have hq0:1<=q:=HM2.out.1;clear hgt;by_cases hbk:t+b1<4294967296
      · have h3:(((t:Int)+(b1:Int))/4294967296 != 0)=false:=(by simp;omega);go_wp2_with fail;go_quiet (fail)
        go_wp2_with fail;go_roundw
        case rel=>exact ⟨q-1,t+b1,by omega,hbk,by go_num,by go_num,HM2.out.2,by first|exact ⟨_,rfl⟩|(simp only[World.drewN_drewN];exact ⟨_,rfl⟩)⟩
        case measure=>simp[intOf];omega
      · have h3:(((t:Int)+(b1:Int))/4294967296 != 0)=true:=(by simp;omega);go_wp2_with fail;go_quiet (fail)
        go_wp2_with fail;go_ret
        exact ⟨q-1,by go_num,(by omega),It r0 r1 r2 b0 b1 (q-1) (t+b1) HM2.out.2 (by omega) k0 (by omega),by first|exact ⟨_,rfl⟩|(simp only[World.drewN_drewN];exact ⟨_,rfl⟩)⟩
    · have h2:¬(t:Int)*4294967296+(r0:Int)<(q:Int)*(b0:Int):=(by have:=HP.out;omega);have HD:=Ac (Jz r0 r1 r2 b0 b1 q t HG.out hqb (by omega));clear hgt;go_wp2_with fail;go_quiet (fail)
      go_wp2_with fail;go_ret
      exact ⟨q,rfl,hqb,HD.out,by first|exact ⟨_,rfl⟩|(simp only[World.drewN_drewN];exact ⟨_,rfl⟩)⟩
  · have h1:((q:Int)/4294967296 != 0)=true:=(by simp;omega);have HB2:=Ac (PM r0 r1 r2 b0 b1 q t HG.out (by omega));have HNB:=Ac (fun h:4294967296<=q-1=>KG r0 r1 r2 b0 b1 (q-1) (t+b1) HB2.out l1 hle h);by_cases hbk:t+b1<4294967296
    · have h3:(((t:Int)+(b1:Int))/4294967296 != 0)=false:=(by simp;omega);go_wp2_with fail;go_quiet (fail)
      go_wp2_with fail;go_roundw
      case rel=>exact ⟨q-1,t+b1,by omega,hbk,by go_num,by go_num,HB2.out,by first|exact ⟨_,rfl⟩|(simp only[World.drewN_drewN];exact ⟨_,rfl⟩)⟩
      case measure=>simp[intOf];omega
    · have h3:(((t:Int)+(b1:Int))/4294967296 != 0)=true:=(by simp;omega);go_wp2_with fail;go_quiet (fail)
      go_wp2_with fail;go_ret
      exact ⟨q-1,by go_num,(by rcases Nat.lt_or_ge (q-1) 4294967296 with h|h;exact h;exact absurd (HNB.out h) hbk),It r0 r1 r2 b0 b1 (q-1) (t+b1) HB2.out (by rcases Nat.lt_or_ge (q-1) 4294967296 with h|h;exact h;exact absurd (HNB.out h) hbk) k0 (by omega),by first|exact ⟨_,rfl⟩|(simp only[World.drewN_drewN];exact ⟨_,rfl⟩)⟩
end
end Go.Proofs.YtmedjkhmadfjlaaGreat
