/- Texts of one seat, put together: Bits DivL Div Gcd RefDiv BitsAny. -/
import Derived.Shelf.Small.Bits
import Derived.Lib.ItoaNum
import Derived.Test.YtemfjdedjcjegaaGreatDoorL01
import Derived.Test.YtemfjdedjcjegaaGreatDoorL06
import Derived.Test.YtemfjdedjcjegaaGreatDoorL03
import Derived.Deep.LoopGhost
import Derived.Test.YtemfjdedjcjegaaGreatDoorL05
set_option linter.unusedVariables false
set_option linter.unusedSimpArgs false
set_option maxRecDepth 100000
set_option maxHeartbeats 16000000
namespace Go.Proofs.YtemfjdedjcjegaaGreatDoor
section
open Go.Shelf
def Tryz.lays128_ren:Go.Shelf.Ren:=⟨fun|128=>92|n=>n,fun|51=>83|3=>3|4=>4|46=>105|5=>5|9=>9|n=>n,fun|n=>n⟩
theorem Tryz.lays128:Go.Proofs.Lays.n128 Tryz.prog Tryz.lays128_ren:={
 mixed:=by kernel_rfl
 f128:=Tryz.func92.trans (congrArg some (by kernel_rfl))
 t3:=Tryz.underlying3
 a3:=Tryz.isAgg3
 z3:=Tryz.sizeOf3
 v3:=Tryz.zeroValue3
 t4:=Tryz.underlying4
 a4:=Tryz.isAgg4
 z4:=Tryz.sizeOf4
 v4:=Tryz.zeroValue4
 t5:=Tryz.underlying5
 a5:=Tryz.isAgg5
 z5:=Tryz.sizeOf5
 v5:=Tryz.zeroValue5
 t9:=Tryz.underlying9
 a9:=Tryz.isAgg9
 z9:=Tryz.sizeOf9
 v9:=Tryz.zeroValue9
 t46:=Tryz.underlying105
 a46:=Tryz.isAgg105
 z46:=Tryz.sizeOf105
 v46:=Tryz.zeroValue105
 t51:=Tryz.underlying83
 a51:=Tryz.isAgg83
 z51:=Tryz.sizeOf83
 v51:=Tryz.zeroValue83 }
theorem Tryz.bits_Len32 (x:Int) (w:World) (h0:0<=x) (h1:x<=4294967295) :
 Calls Tryz.prog 92 #[.int .u32 x] w fun e w'=>e=.returned (.int .i64 (Lib.bitLen x.toNat))/\w'=w:=Any.bits_Len32 Tryz.lays128 x w h0 h1
def Tryz.lays133_ren:Go.Shelf.Ren:=⟨fun|133=>149|128=>92|n=>n,fun|51=>83|3=>3|4=>4|46=>105|5=>5|9=>9|n=>n,fun|n=>n⟩
theorem Tryz.lays133:Go.Proofs.Lays.n133 Tryz.prog Tryz.lays133_ren:={
 mixed:=by kernel_rfl
 f128:=Tryz.func92.trans (congrArg some (by kernel_rfl))
 f133:=Tryz.func149.trans (congrArg some (by kernel_rfl))
 t3:=Tryz.underlying3
 a3:=Tryz.isAgg3
 z3:=Tryz.sizeOf3
 v3:=Tryz.zeroValue3
 t4:=Tryz.underlying4
 a4:=Tryz.isAgg4
 z4:=Tryz.sizeOf4
 v4:=Tryz.zeroValue4
 t5:=Tryz.underlying5
 a5:=Tryz.isAgg5
 z5:=Tryz.sizeOf5
 v5:=Tryz.zeroValue5
 t9:=Tryz.underlying9
 a9:=Tryz.isAgg9
 z9:=Tryz.sizeOf9
 v9:=Tryz.zeroValue9
 t46:=Tryz.underlying105
 a46:=Tryz.isAgg105
 z46:=Tryz.sizeOf105
 v46:=Tryz.zeroValue105
 t51:=Tryz.underlying83
 a51:=Tryz.isAgg83
 z51:=Tryz.sizeOf83
 v51:=Tryz.zeroValue83 }
theorem Tryz.bits_LeadingZeros32 (x:Int) (w:World) (h0:0<=x) (h1:x<=4294967295) :
 Calls Tryz.prog 149 #[.int .u32 x] w fun e w'=>e=.returned (.int .i64 (32-(Lib.bitLen x.toNat:Int)))/\w'=w:=Any.bits_LeadingZeros32 Tryz.lays133 x w h0 h1
end
section
open Go.RowKit
open Limb (limb AE upto upto_succ Ap Aq)
def SO (x:Nat) (w:World) (e:Ending) (w':World):Prop:=∃z:Nat,e=.returned (.int .i64 (z:Int))/\z<32/\Hid (2147483648<=x*2^z/\x*2^z<4294967296)/\w=w'
theorem JK (x:Nat) (h0:x≠0) (h:x<4294967296):1<=Lib.bitLen x/\Lib.bitLen x<=32/\2^(Lib.bitLen x-1)<=x/\x<2^Lib.bitLen x:=by have h1:=Lib.bitLenAux_bounds 64 x (by omega) h0;have h2:=Lib.bitLen_le x 32 (by omega) (by omega);exact ⟨h1.1,h2,h1.2.1,h1.2.2⟩
theorem SP (x:Nat) (w:World) (h0:x≠0) (h:x<4294967296):Calls Tryz.prog 149 #[.int .u32 (x:Int)] w (SO x w):=by
 obtain ⟨b1,b2,b3,b4⟩:=JK x h0 h;refine (Tryz.bits_LeadingZeros32 (x:Int) w (by omega) (by omega)).mono ?_;rintro e w' ⟨rfl,rfl⟩;refine ⟨32-Lib.bitLen x,?_,by omega,?_,rfl⟩
 · rw[Int.toNat_natCast];congr 2
   omega
 · show _/\_;have e1:(2:Nat)^(Lib.bitLen x-1)*2^(32-Lib.bitLen x)=2147483648:=by
    rw[<-Nat.pow_add];have:Lib.bitLen x-1+(32-Lib.bitLen x)=31:=by omega
    rw[this]
   have e2:(2:Nat)^Lib.bitLen x*2^(32-Lib.bitLen x)=4294967296:=by
    rw[<-Nat.pow_add];have:Lib.bitLen x+(32-Lib.bitLen x)=32:=by omega
    rw[this]
   have hp:0<2^(32-Lib.bitLen x):=Nat.pow_pos (by omega);exact ⟨by rw[<-e1];exact Nat.mul_le_mul_right _ b3,by rw[<-e2];exact Nat.mul_lt_mul_of_pos_right b4 hp⟩
theorem SQ (b j z:Nat) (hb:L b=j+2) (hz:2147483648<=limb (Limb.canon b) (j+1)*2^z) (hz2:limb (Limb.canon b) (j+1)*2^z<4294967296) (hz3:z<32) :
  L (b*2^z)=j+2/\2147483648<=limb (Limb.canon (b*2^z)) (j+1)/\2147483648*4294967296^(j+1)<=b*2^z:=by
 have e1:b=upto (Limb.canon b) (j+1)+4294967296^(j+1)*limb (Limb.canon b) (j+1):=by rw[<-upto_succ,Ap _ _ (by show L b<=j+1+1;omega),Limb.val_canon]
 have h1:=Eg (Limb.canon b) (Limb.ok_canon b) (j+1);have hp:0<2^z:=Nat.pow_pos (by omega);generalize limb (Limb.canon b) (j+1)=t at *;generalize upto (Limb.canon b) (j+1)=u at *;have hlow:4294967296^(j+1)*(t*2^z)<=b*2^z:=by rw[<-Nat.mul_assoc];exact Nat.mul_le_mul_right _ (by omega)
 have hhigh:b*2^z<4294967296^(j+1)*(t*2^z+2^z):=by
  have h2:b<4294967296^(j+1)*(t+1):=by rw[Nat.mul_add,Nat.mul_one];omega
  have h3:t*2^z+2^z=(t+1)*2^z:=by rw[Nat.add_mul,Nat.one_mul]
  rw[h3,<-Nat.mul_assoc];exact Nat.mul_lt_mul_of_pos_right h2 hp
 have htz:t*2^z+2^z<=4294967296:=by
  have e2:(4294967296:Nat)=2^(32-z)*2^z:=(Ex z (by omega)).symm;have h4:t<2^(32-z):=by rw[e2]at hz2;exact Nat.lt_of_mul_lt_mul_right hz2
  have h5:(t+1)*2^z<=2^(32-z)*2^z:=Nat.mul_le_mul_right _ h4;rw[Nat.add_mul,Nat.one_mul]at h5;omega
 have hlt:b*2^z<4294967296^(j+2):=by have h6:=Nat.mul_le_mul_left (4294967296^(j+1)) htz;have h7:4294967296^(j+2)=4294967296^(j+1)*4294967296:=Nat.pow_succ ..;rw[h7];exact Nat.lt_of_lt_of_le hhigh h6
 have hge:2147483648*4294967296^(j+1)<=b*2^z:=by rw[Nat.mul_comm];exact Nat.le_trans (Nat.mul_le_mul_left _ hz) hlow
 have hL1:L (b*2^z)<=j+2:=Ky hlt;have hL2:j+2<=L (b*2^z):=by
  rcases Nat.lt_or_ge (L (b*2^z)) (j+2) with h|h
  · have h8:=FL (b*2^z);have h9:=Nat.lt_of_lt_of_le h8 (Limb.pow_mono (show L (b*2^z)<=j+1 by omega));have h10:1*4294967296^(j+1)<=2147483648*4294967296^(j+1):=Nat.mul_le_mul_right _ (by omega);rw[Nat.one_mul]at h10;omega
  · exact h
 have hLe:L (b*2^z)=j+2:=by omega
 refine ⟨hLe,?_,hge⟩;have e3:b*2^z=upto (Limb.canon (b*2^z)) (j+1)+4294967296^(j+1)*limb (Limb.canon (b*2^z)) (j+1):=by rw[<-upto_succ,Ap _ _ (by show L (b*2^z)<=j+1+1;omega),Limb.val_canon]
 have h11:=Eg (Limb.canon (b*2^z)) (Limb.ok_canon _) (j+1);generalize limb (Limb.canon (b*2^z)) (j+1)=t2 at *;generalize upto (Limb.canon (b*2^z)) (j+1)=u2 at *;rw[e3,Nat.mul_comm]at hge;have h12:4294967296^(j+1)*2147483648<4294967296^(j+1)*(t2+1):=by rw[Nat.mul_add,Nat.mul_one];omega
 have:=Nat.lt_of_mul_lt_mul_left h12;omega
def Qo (g1 gq n m a' b':Nat) (w:World) (k:Nat) (wr:World):Prop:=
 ∃curR curQ:List Nat,curR.length=n+1/\curQ.length=n-m+1/\Limb.Ok curR/\Limb.Ok curQ/\Row wr g1 curR/\Row wr gq curQ/\Below w.heap.size w wr /\
  Limb.val curR+4294967296^k*(Limb.val (curQ.drop k)*b')=a'/\Limb.val (curR.drop k)<b'
theorem MJ (zs:List Nat) (o k:Nat) (h:Limb.val (zs.drop (o+1))<4294967296^k) (hn:o+(k+1)<=zs.length):Limb.val (zs.drop o)=Limb.val (win zs o (k+1)):=by
 refine (Limb.val_eq_of_limbs _ _ fun t=>?_).symm;by_cases ht:t<k+1
 · rw[DF zs o (k+1) t ht,Limb.limb_drop]
 · have h1:=Limb.limb_zero_of_lt _ (t-1) (Nat.lt_of_lt_of_le h (Limb.pow_mono (show k<=t-1 by omega)));rw[Limb.limb_drop]at h1;rw[Limb.limb_beyond (by rw[win_length zs o (k+1) hn];omega),Limb.limb_drop];have:o+1+(t-1)=o+t:=by omega
   rw[<-h1,this]
theorem SR (R q b' rem P A V cur cur' Bk:Nat) (h1:cur+Bk*(V*b')=A) (h2:cur'+P*R=cur+P*rem) (h3:b'*q+rem=R) (h4:Bk=P*4294967296):cur'+P*((q+4294967296*V)*b')=A:=by
 subst h4;subst h3;have e1:P*4294967296*(V*b')=P*(4294967296*V*b'):=by rw[Nat.mul_assoc,Nat.mul_assoc]
 rw[e1]at h1;rw[Nat.mul_add]at h2;rw[Nat.add_mul,Nat.mul_add,Nat.mul_comm q b'];omega
theorem Qp {g1 gq n m a' b':Nat} {w wr:World} {i:Nat} {curR:List Nat} (hlR:curR.length=n+1) (hok:Limb.Ok curR) (hi:i+m<=n) (hb:b'<4294967296^m) (hlt:Limb.val (curR.drop (i+1))<b') :
  Limb.val (curR.drop i)=Limb.val (win curR i (m+1))/\Limb.val (win curR i (m+1))<4294967296*b':=by
 have h1:=MJ curR i m (Nat.lt_trans hlt hb) (by omega);refine ⟨h1,?_⟩;rw[<-h1,Dk curR i (by omega)];have:=AE hok i;omega
theorem RG {g1 gq n m a' b':Nat} {w wr w2:World} {i:Nat} {curR curQ:List Nat} (hlR:curR.length=n+1) (hlQ:curQ.length=n-m+1) (hoR:Limb.Ok curR) (hoQ:Limb.Ok curQ) (hi:i+m<=n) (hb0:0<b') (hb:b'<4294967296^m)
   (hv:Limb.val curR+4294967296^(i+1)*(Limb.val (curQ.drop (i+1))*b')=a') (hlt:Limb.val (curR.drop (i+1))<b') (hq:Limb.val (win curR i (m+1))/b'<4294967296)
   (hR:Row w2 g1 (put curR i (Limb.fixed (m+1) (Limb.val (win curR i (m+1))%b')))) (hQ:Row w2 gq curQ) (hB:Below w.heap.size w w2) (hg:g1≠gq) (hgq:w.heap.size<=gq) :
   Qo g1 gq n m a' b' w i (w2.setCell ⟨gq,i,none⟩ (.int .u32 ((Limb.val (win curR i (m+1))/b':Nat):Int))):=by
 obtain ⟨h1,h2⟩:=Qp (g1:=g1) (gq:=gq) (a':=a') (w:=w) (wr:=w2) hlR hoR hi hb hlt;have hml:=Nat.mod_lt (Limb.val (win curR i (m+1))) hb0;have hdm:=Nat.div_add_mod (Limb.val (win curR i (m+1))) b';have hmp:Limb.val (win curR i (m+1))%b'<4294967296^(m+1):=Nat.lt_of_lt_of_le (Nat.lt_trans hml hb) (Limb.pow_mono (by omega));have hfit:i+(Limb.fixed (m+1) (Limb.val (win curR i (m+1))%b')).length<=curR.length:=by rw[Limb.fixed_length];omega
 have e1:=Hu curR i (Limb.fixed (m+1) (Limb.val (win curR i (m+1))%b')) hfit;rw[Limb.fixed_length,Limb.fixed_val,Nat.mod_eq_of_lt hmp]at e1;refine ⟨_,curQ.set i (Limb.val (win curR i (m+1))/b'),by rw[AA _ _ _ hfit];exact hlR,by simp[hlQ],CQ hoR _ (Limb.fixed_ok _ _),hoQ.set _ _ hq,hR.far (p:=⟨gq,i,none⟩) hg _,hQ.set_ _ _,hB.setCell hgq _,?_,?_⟩
 · rw[Dk (curQ.set i _) i (by simp;omega),Cu _ _ _ (by omega),FG];exact SR _ _ _ _ _ _ _ _ _ _ hv e1 hdm (Nat.pow_succ ..)
 · have e2:(put curR i (Limb.fixed (m+1) (Limb.val (win curR i (m+1))%b'))).drop i=Limb.fixed (m+1) (Limb.val (win curR i (m+1))%b')++curR.drop (i+(m+1)):=by
    unfold put;have hl3:(curR.take i).length=i:=(by rw[List.length_take];omega);rw[List.drop_append_of_le_length (by omega),List.drop_of_length_le (by omega),List.nil_append,Limb.fixed_length]
   have e3:Limb.val (curR.drop (i+(m+1)))=0:=by
    have h3:=Limb.val_take_drop (curR.drop (i+1)) m (by rw[List.length_drop];omega);rw[List.drop_drop]at h3;have h4:i+1+m=i+(m+1):=(by omega);rw[h4]at h3;rcases Nat.eq_zero_or_pos (Limb.val (curR.drop (i+(m+1)))) with h0|h0
    · exact h0
    · have h5:1<=Limb.val (curR.drop (i+(m+1))):=h0;have h6:=Nat.mul_le_mul_left (4294967296^m) h5;rw[Nat.mul_one]at h6;omega
   rw[e2,Limb.val_append,Limb.fixed_val,Nat.mod_eq_of_lt hmp,e3,Nat.mul_zero,Nat.add_zero];exact hml
theorem Qq (a' b' n m:Nat) (hmn:m<=n) (ha:a'<4294967296^n*2147483648*2) (hm:1<=m) (hb:2147483648*4294967296^(m-1)<=b') (zs:List Nat) (hl:zs.length=n+1) (hv:Limb.val zs=a') (hz:a'<4294967296^n*2147483648):Limb.val (zs.drop (n-m+1))<b':=by
 have e:=Limb.val_take_drop zs (n-m+1) (by omega);rw[hv]at e;have e2:4294967296^n=4294967296^(n-m+1)*4294967296^(m-1):=by rw[<-Nat.pow_add];congr 1;omega
 rw[e2]at hz;have h1:4294967296^(n-m+1)*Limb.val (zs.drop (n-m+1))<4294967296^(n-m+1)*(2147483648*4294967296^(m-1)):=by rw[Nat.mul_comm 2147483648,<-Nat.mul_assoc];omega
 exact Nat.lt_of_lt_of_le (Nat.lt_of_mul_lt_mul_left h1) hb
def NZ (N M:Nat) (w:World) (e:Ending) (w':World):Prop:=
 ∃A n c B m d,e=.returned (.tuple #[.slice A n c,.slice B m d])/\Own w' w.heap.size A n c N/\Own w' w.heap.size B m d M/\Below w.heap.size w w'
theorem Ip (b j:Nat) (h:L b=j+2):limb (Limb.canon b) (j+1)≠0:=by
 have ht:=Limb.tight_canon b;have hl:(Limb.canon b).length=j+2:=h;have hne:Limb.canon b≠[]:=by intro hh;rw[hh]at hl;simp at hl
 have h1:=ht hne;rw[List.getLast_eq_getElem]at h1;unfold limb;rw[List.getD_eq_getElem?_getD,List.getElem?_eq_getElem (by omega)];simpa[hl] using h1
theorem SS (cR cQ a b P:Nat) (hP:0<P) (h:cR+4294967296^0*(cQ*(b*P))=a*P) (hlt:cR<b*P):cQ=a/b/\cR/P=a%b:=by
 rw[Nat.pow_zero,Nat.one_mul]at h;have hb:0<b*P:=by omega
 have e1:a*P/(b*P)=cQ:=by rw[<-h,Nat.add_mul_div_right _ _ hb,Nat.div_eq_of_lt hlt,Nat.zero_add]
 have e2:a*P%(b*P)=cR:=by rw[<-h,Nat.add_mul_mod_self_right,Nat.mod_eq_of_lt hlt]
 rw[Nat.mul_div_mul_right _ _ hP]at e1;rw[Nat.mul_mod_mul_right]at e2;exact ⟨e1.symm,by rw[<-e2,Nat.mul_div_cancel _ hP]⟩
theorem Iq (A B:Option Addr) (n c j d a b:Nat) (w:World) (hx:Am w A n (Limb.canon a)) (hc:n<=c) (hm:c<=9223372036854775807) (hy:Am w B (j+2) (Limb.canon b)) (hd:j+2<=d) (hmd:d<=9223372036854775807) (hn40:n<=549755813888) (hjn:j+2<=n) :
  Calls Tryz.prog 127 #[.slice A n c,.slice B (j+2) d] w (NZ (a/b) (a%b) w):=by
 have hLb:L b=j+2:=hy.len;have htop:=Ip b j hLb;obtain ⟨g0,o0,t,rfl,htl,hte,htc⟩:=hy.at_ (i:=j+1) (by omega);have ht0:t≠0:=by rw[hte];exact htop
 have HT:=Lib.hid hte;have HLB:=Lib.hid hLb;clear htop hte hLb;go_enter Tryz.func127,Tryz.ntmps127;go_wp2_with fail;refine (SP t _ ht0 htl).mono ?_;rintro e w' ⟨z,rfl,hz,HZ,rfl⟩;clear htc ht0 htl;have HN:=Ad (SQ b j z HLB.out (by have:=HT.out;unfold limb;rw[<-this];exact HZ.out.1) (by have:=HT.out;unfold limb;rw[<-this];exact HZ.out.2) hz);go_wp2_with fail;refine (GR A n c z 0 z _ w hx hc hm (by omega) (by omega) hz (by omega)).mono ?_
 rintro e w1 ⟨zr,rfl,hl1,hok1,hr1,hv1,hb1⟩;have hsz1:=hr1.lt;go_wp2_with fail;refine (GR (some ⟨g0,o0,none⟩) (j+2) d z 0 z _ w1 (hy.below hb1) hd hmd (by omega) (by omega) hz (by omega)).mono ?_;rintro e w2 ⟨zb,rfl,hl2,hok2,hr2,hv2,hb2⟩;have hsz2:=hr2.lt;rw[Nat.mul_zero,Nat.zero_add,Limb.val_canon]at hv1 hv2;have hn2:=hr2.nums hok2 (o:=0) (n:=j+2+0+1) (by omega);rw[List.drop_zero,List.take_of_length_le (by omega)]at hn2
 have hdet:=Bo (some ⟨w1.heap.size,0,none⟩) (j+2+0+1) (j+2+0+1) zb w2 hn2 (Nat.le_refl _) (by omega);have hcut:=Bz w2 _ zb _ hn2;rw[hv2]at hdet hcut;have hbz:b*2^z≠0:=by intro h0;have h1:=HN.out.1;rw[h0]at h1;have:L 0=0:=rfl;omega
 rw[Fb _ hbz]at hcut;have hdet2:Calls Tryz.prog 88 #[.slice (some ⟨w1.heap.size,0,none⟩) (j+2+1) (j+2+1)] w2 (fun e w'=>e=.returned (.slice (some ⟨w1.heap.size,0,none⟩) (j+2) (j+2))/\w2=w'):=by refine hdet.mono ?_;rintro e w' ⟨rfl,rfl⟩;refine ⟨?_,rfl⟩;rw[Fb _ hbz,HN.out.1]
 have HCUT:Hid (Am w2 (some ⟨w1.heap.size,0,none⟩) (j+2) (Limb.canon (b*2^z))):=by have h1:=hcut.2.2.1;rw[HN.out.1]at h1;exact h1
 have HL1:=Lib.hid hl1;have HV1:=Lib.hid hv1;clear hl1 hv1 hl2 hv2 hcut hdet hn2 hok2 hr2;have hnm:n-(j+2)+1+(j+2)=n+1:=by omega
 have hr1':=hr1.below hb2 hsz1;have hb12:=hb1.next hb2;have HNM:=Lib.hid hnm;have hza:a*2^z<4294967296^n*2147483648:=by have h1:=hx.lt;rw[Limb.val_canon]at h1;have h2:(2:Nat)^z<=2147483648:=Nat.pow_le_pow_right (n:=2) (by omega) (show z<=31 by omega);exact Nat.lt_of_lt_of_le (Nat.mul_lt_mul_of_pos_right h1 (Nat.pow_pos (by omega))) (Nat.mul_le_mul_left _ h2)
 have HST:=Ad (Qq (a*2^z) (b*2^z) n (j+2) hjn (by omega) (by omega) HN.out.2.2 zr (by rw[HL1.out]) HV1.out hza);have hbp:b*2^z<4294967296^(j+2):=by have:=FL (b*2^z);rwa [HN.out.1]at this
 have HBP:=Ad hbp;have HB0:=Ad hbz;have hsz12:w.heap.size<w1.heap.size:=hsz1;have hsz22:w1.heap.size<w2.heap.size:=hsz2;clear hnm hza hbp hbz hr1 hb1 hb2 hsz1 hsz2 hx hy;go_wp2_with fail;refine hdet2.mono ?_;rintro e w' ⟨rfl,rfl⟩;clear hdet2;go_wp2_with (at_make;refine AU _ rfl _ _ rfl _ (n-(j+2)+1) rfl rfl (by omega) (by omega) ?_;intro w3 hr3 hb3 hs3);have R:Hid (Qo w.heap.size w2.heap.size n (j+2) (a*2^z) (b*2^z) w (n-(j+2)+1) w3):=by refine ⟨zr,List.replicate (n-(j+2)+1) 0,HL1.out,by simp,hok1,Limb.Ok.replicate _,hr1'.below hb3 (by omega),hr3,hb12.next hb3,?_,HST.out⟩;rw[List.drop_of_length_le (by simp)];have:Limb.val ([]:List Nat)=0:=rfl;rw[this,Nat.zero_mul,Nat.mul_zero,Nat.add_zero];exact HV1.out
 have HCUT3:=Ad (HCUT.out.below hb3);have hb23:=hb12.next hb3;clear hr1' hr3 HST HCUT hb12 hok1 HV1 HL1;go_loopw [8] (fun i wr=>∃k:Nat,k<=n-(j+2)+1/\i=.int .i64 ((k:Int)-1)/\w2.heap.size<wr.heap.size/\Hid (Am wr (some ⟨w1.heap.size,0,none⟩) (j+2) (Limb.canon (b*2^z)))/\Hid (Qo w.heap.size w2.heap.size n (j+2) (a*2^z) (b*2^z) w k wr)) (fun i _=>((intOf i)+1).toNat)
 case atStart=>exact ⟨n-(j+2)+1,Nat.le_refl _,by go_num,hs3,HCUT3,R⟩
 case round=>
  clear R HCUT3 hb3 hs3 hb23;obtain ⟨k,hk,rfl,hsw,HY,R⟩:=hrel;obtain ⟨curR,curQ,hlR,hlQ,hoR,hoQ,hrR,hrQ,hB,hv,hlt⟩:=R.out;have HLR:=Lib.hid hlR;have HLQ:=Lib.hid hlQ;have HV:=Lib.hid hv;have HLT:=Ad hlt;clear hlR hlQ hv hlt R;rcases Nat.eq_zero_or_pos k with hk0|hk0
  · subst hk0;have HE:=Ad (SS _ _ _ _ _ (Nat.pow_pos (by omega)) HV.out HLT.out);go_wp2_with fail;refine (Bp w2.heap.size (n-(j+2)+1) _ (a/b) w.heap.size curQ wr hrQ hoQ (by rw[HLQ.out];exact Nat.le_refl _) (by omega) (by omega) (by omega) (by rw[List.take_of_length_le (by rw[HLQ.out];exact Nat.le_refl _),<-HE.out.1,List.drop_zero])).mono ?_;rintro e w' ⟨A',q',rfl,how,rfl⟩;have hnR:=hrR.nums hoR (o:=0) (n:=n+1) (by rw[HLR.out];omega)
    rw[List.drop_zero,List.take_of_length_le (by rw[HLR.out];exact Nat.le_refl _)]at hnR;go_wp2_with fail;refine (OI (some ⟨w.heap.size,0,none⟩) (n+1) (n+1) z 0 z curR wr hnR (Nat.le_refl _) (by omega) (by omega) (by omega) hz (by omega)).mono ?_;rintro e w5 ⟨A5,n5,rfl,o5,b5⟩;rw[Nat.mul_zero,Nat.zero_add,HE.out.2]at o5;go_wp2_with fail;go_ret2
    exact ⟨A',q',q',A5,n5,n5,rfl,how.below b5,o5.mono hB.size,hB.next b5⟩
  · obtain ⟨i,rfl⟩:∃i,k=i+1:=⟨k-1,by omega⟩;have e1:(((i+1:Nat):Int)-1)=(i:Int):=(by omega);rw[e1];clear e1 hk0;have hfit:=Qp (g1:=w.heap.size) (gq:=w2.heap.size) (a':=a*2^z) (w:=w) (wr:=wr) HLR.out hoR (show i+(j+2)<=n by omega) HBP.out HLT.out;have HF:=Ad hfit;clear hfit;have f1:(n+1=i)=False:=(by simp;omega);have hwin:i+(j+2)+1-i=j+3:=(by omega);have HWIN:=Lib.hid hwin;clear hwin;go_wp2_with fail;rw[HWIN.out]
    refine (K6 w.heap.size i (n+1-i) j curR (some ⟨w1.heap.size,0,none⟩) (j+2) (Limb.canon (b*2^z)) wr hrR hoR (by rw[HLR.out];omega) (by omega) (by omega) HY.out (Nat.le_refl _) (by intro ad had;injection had with had;subst had;show w1.heap.size≠w.heap.size;omega) HN.out.2.1 (by rw[Limb.val_canon];exact HF.out.2)).mono ?_;rintro e w4 ⟨rfl,hr4,ho4⟩;rw[Limb.val_canon]at hr4;rw[Limb.val_canon];have hrQ4:=hrQ.grown ho4.gb (by intro h;injection h with h;omega)
    have hcQ:=hrQ4.cell (i:=i) (by rw[HLQ.out];omega);have hfQ:=hrQ4.frozen i;have hql:Limb.val (win curR i (j+3))/(b*2^z)<4294967296:=(Nat.div_lt_iff_lt_mul (Nat.pos_of_ne_zero HB0.out)).2 HF.out.2;have HY4:=HY.out.grown ho4.gb (by intro ad had;injection had with had;subst had;show w1.heap.size≠w.heap.size;omega);have hB4:Below w.heap.size w w4:=hB.trans (ho4.below hB.size (Nat.le_refl _));have hsz4:=ho4.size
    have HSTEP:=Ad (RG (wr:=wr) HLR.out HLQ.out hoR hoQ (show i+(j+2)<=n by omega) (Nat.pos_of_ne_zero HB0.out) HBP.out HV.out HLT.out hql hr4 hrQ4 hB4 (by omega) (by omega));have HY5:=Ad (HY4.setCell ⟨w2.heap.size,i,none⟩ (.int .u32 ((Limb.val (win curR i (j+3))/(b*2^z):Nat):Int)) (by intro ad had;injection had with had;subst had;show w1.heap.size≠w2.heap.size;omega));clear HY4 hql hrR hrQ hr4 hrQ4 HF HWIN f1 HY;go_wp2_with fail;go_roundw
    case rel=>exact ⟨i,by omega,by go_num,by simp[World.setCell];omega,HY5,HSTEP⟩
    case measure=>simp[intOf]<;>omega
end
section
open Go.RowKit
open Limb (limb AE upto upto_succ Ap Aq)
theorem Uu (a:Nat) (h:L a<=2):a/4294967296<4294967296:=by
 have h1:=Nat.lt_of_lt_of_le (FL a) (Limb.pow_mono h);have:(4294967296:Nat)^2=4294967296*4294967296:=by rfl
 rw[this]at h1;exact Nat.div_lt_of_lt_mul h1
theorem MK (x:Nat) (h0:x≠0) (h:x<4294967296):Limb.canon x=[x]:=by
 rw[Limb.canon_pos x h0];have e1:x%4294967296=x:=by omega
 have e2:x/4294967296=0:=by omega
 rw[e1,e2,Limb.canon_zero]
theorem FM (A B:Option Addr) (n c m d a b:Nat) (w:World) (hx:Am w A n (Limb.canon a)) (hc:n<=c) (hm:c<=9223372036854775807) (hy:Am w B m (Limb.canon b)) (hd:m<=d) (hmd:d<=9223372036854775807) (hn40:n<=549755813888) (hm40:m<=549755813888) (hb0:b≠0) :
   Calls Tryz.prog 89 #[.slice A n c,.slice B m d] w (NZ (a/b) (a%b) w):=by
 have hla:L a=n:=hx.len;have hlb:L b=m:=hy.len;have hm1:1<=m:=by
   rcases Nat.eq_zero_or_pos m with h|h
   · exact absurd ((Limb.canon_len_zero b).1 (by rw[h]at hlb;exact hlb)) hb0
   · exact h
 by_cases h1:n<m
 · have hab:a<b:=Limb.lt_of_len (by show L a<L b;omega);have H1:=Ad (Nat.div_eq_of_lt hab);have H2:=Ad (Nat.mod_eq_of_lt hab);clear hla hlb;go_enter Tryz.func89,Tryz.ntmps89;go_wp2_with fail;refine (Do A n c _ w hx hc hm (by omega)).mono ?_;rintro e w1 ⟨A1,n1,rfl,o1,b1⟩;rw[Limb.val_canon]at o1;go_wp2_with fail;go_ret2
   exact ⟨none,0,0,A1,n1,n1,rfl,by rw[H1.out];exact Own.zero _ _ _ _ (by omega),by rw[H2.out];exact o1,b1⟩
 · by_cases h2:n<=2
   · have ha2:=Uu a (by omega);have hb2:=Uu b (by omega);have hqd:((a:Int))/(b:Int)=((a/b:Nat):Int):=(Int.natCast_ediv a b).symm;have hqm:((a:Int))%(b:Int)=((a%b:Nat):Int):=(Int.natCast_emod a b).symm;have HQD:=Lib.hid hqd;have HQM:=Lib.hid hqm;clear hqd hqm;have hl1:a/b/4294967296<4294967296:=Nat.lt_of_le_of_lt (Nat.div_le_div_right (Nat.div_le_self a b)) ha2;have hl2:a%b/4294967296<4294967296:=Nat.lt_of_le_of_lt (Nat.div_le_div_right (Nat.mod_le a b)) ha2
     have hb1:(1:Int)<=(b:Int):=(by omega);have hwr:IntKind.u64.wrap ((a:Int)/(b:Int))=(a:Int)/(b:Int):=by have e2:=Nat.div_le_self a b;have e3:a<=18446744073709551615:=(by omega);rw[HQD.out];generalize a/b=t at *;exact IntWalk.u64_in _ ⟨by omega,by omega⟩
     have htm:(a:Int).tmod (b:Int)=(a:Int)%(b:Int):=Int.tmod_eq_emod_of_nonneg (by omega);have hne:((b:Int)==0)=false:=(by simp;omega);clear hla hlb ha2 hb2;go_enter Tryz.func89,Tryz.ntmps89;go_wp2_with fail;refine (Gd A n c _ w hx h2).mono ?_;rintro e w' ⟨rfl,rfl⟩;rw[Limb.val_canon];go_wp2_with fail;refine (Gd B m d _ w hy (by omega)).mono ?_;rintro e w' ⟨rfl,rfl⟩;rw[Limb.val_canon];go_wp2_with fail;go_region_with (first
       |(go_at_call 82;(with_reducible refine (of_int ((a:Int)/(b:Int)) (a/b) _ HQD.out hl1).mono ?_);rintro e w1 ⟨A1,n1,rfl,o1,b1⟩)
       |(go_at_call 82;(with_reducible refine (of_int ((a:Int)%(b:Int)) (a%b) _ HQM.out hl2).mono ?_);rintro e w2 ⟨A2,n2,rfl,o2,b2⟩))
     go_wp2_with fail;go_ret2
     exact ⟨A1,n1,n1,A2,n2,n2,rfl,o1.below b2,o2.mono b1.size,(Below.refl w.heap.size w).drew.next (b1.next b2)⟩
   · have h2':2<n:=(by omega);by_cases h3:m=1
     · subst h3;have hbl:b<4294967296:=(by have:=FL b;rw[hlb,Nat.pow_one]at this;exact this);have hcb:Limb.canon b=[b]:=MK b hb0 hbl;obtain ⟨g0,o0,t,rfl,htl,hte,htc⟩:=hy.at_ (i:=0) (by omega);rw[hcb]at hte;have htb:t=b:=hte;subst htb;rw[Nat.add_zero]at htc;have hy2:=Ad hy;clear hcb hte hy hlb;go_enter Tryz.func89,Tryz.ntmps89;go_wp2_with fail;refine (Do A n c _ w hx hc hm (by omega)).mono ?_;rintro e w1 ⟨A1,n1,rfl,o1,b1⟩;rw[Limb.val_canon]at o1
       have htc1:=cell_later b1 htc;have ha0:a≠0:=(by intro h;subst h;have:L 0=0:=rfl;omega);have hrow:=o1.trimRow.2 ha0;have hl1:n1=n:=(by rw[o1.len];exact hla);subst hl1;obtain ⟨g,zs,rfl,hg,hr1,hzok,hzl,hwin⟩:=hrow;have HW:=Lib.hid hwin;clear hwin hla htc o1;go_wp2_with fail;refine (Gg g n1 n1 t zs w1 hr1 hzok hzl (by omega) (by omega) hbl).mono ?_;rintro e w2 ⟨rfl,hr2,ho2⟩;rw[HW.out,Limb.val_canon]at hr2;rw[HW.out,Limb.val_canon];go_wp2_with fail
       refine (Bp g n1 _ (a/t) w.heap.size _ _ hr2 (CQ hzok _ (Limb.fixed_ok _ _)) (by rw[AA _ _ _ (by rw[Limb.fixed_length];omega)];exact hzl) (Nat.le_refl _) (by omega) hg (by unfold put;rw[List.take_zero,List.nil_append,List.take_append_of_le_length (by rw[Limb.fixed_length];exact Nat.le_refl _),List.take_of_length_le (by rw[Limb.fixed_length];exact Nat.le_refl _),Limb.fixed_val,Nat.mod_eq_of_lt];have:=hx.lt;rw[Limb.val_canon]at this;exact Nat.lt_of_le_of_lt (Nat.div_le_self _ _) this)).mono ?_
       rintro e w' ⟨A',q',rfl,how,rfl⟩;go_wp2_with fail;have hwt:IntKind.u64.wrap ((a:Int)%(t:Int))=((a%t:Nat):Int):=by have e1:(a:Int)%(t:Int)=((a%t:Nat):Int):=(Int.natCast_emod a t).symm;have e2:=Nat.mod_lt a (Nat.pos_of_ne_zero hb0);rw[e1];generalize a%t=u at *;exact IntWalk.u64_in _ ⟨by omega,by omega⟩
       refine (of_int (IntKind.u64.wrap ((a:Int)%(t:Int))) (a%t) _ hwt (by have:=Nat.mod_lt a (Nat.pos_of_ne_zero hb0);omega)).mono ?_;clear hwt;rintro e w4 ⟨A4,n4,rfl,o4,b4⟩;go_wp2_with fail;go_ret2
       have hB2:Below w.heap.size w w2:=b1.trans (ho2.below b1.size hg);exact ⟨A',q',q',A4,n4,n4,rfl,how.below b4,o4.mono hB2.size,hB2.next b4⟩
     · obtain ⟨j,rfl⟩:∃j,m=j+2:=⟨m-2,by omega⟩;clear hla hlb h3;go_enter Tryz.func89,Tryz.ntmps89;go_wp2_with fail;refine (Iq A B n c j d a b w hx hc hm hy hd hmd hn40 (by omega)).mono ?_;rintro e w1 ⟨A1,n1,c1,B1,m1,d1,rfl,o1,o2,b1⟩;go_wp2_with fail;go_ret2
       exact ⟨A1,n1,c1,B1,m1,d1,rfl,o1,o2,b1⟩
end
section
open Go.RowKit
open Limb (limb AE upto upto_succ Ap Aq)
def Tx (w:World) (e:Ending) (w':World):Prop:=e=.returned (.tuple #[.slice none 0 0,.slice none 0 0,.int .i64 10])/\w=w'
def ML (N M:Nat) (w:World) (e:Ending) (w':World):Prop:=
 ∃A n c B m d,e=.returned (.tuple #[.slice A n c,.slice B m d,.int .i64 0])/\Own w' w.heap.size A n c N/\Own w' w.heap.size B m d M/\Below w.heap.size w w'
theorem RH (A B:Option Addr) (n c m d:Nat) (xs ys:List Nat) (w:World) (hx:Am w A n xs) (hc:n<=c) (hm:c<=9223372036854775807) (hn:n<=549755813888) (hy:Am w B m ys) (hd:m<=d) (hmd:d<=9223372036854775807) (hm4:m<=549755813888) (h0:Limb.val ys≠0) :
  Calls Tryz.prog 53 #[.slice A n c,.slice B m d] w (ML (Limb.val xs/Limb.val ys) (Limb.val xs%Limb.val ys) w):=by
 have hA:=Bz w A xs n hx;have hB:=Bz w B ys m hy;have h1:=hA.2.1;have h2:=hB.2.1;have hpos:((L (Limb.val ys):Int)==0)=false:=by
  have:L (Limb.val ys)≠0:=fun h=>h0 ((Limb.canon_len_zero _).1 h)
  simp;omega
 have H0:=Ad h0;clear h0;go_enter Tryz.func53,Tryz.ntmps53;go_wp2_with fail;refine (Bo A n c xs w hx hc hm).mono ?_;rintro e w' ⟨rfl,rfl⟩;go_wp2_with fail;refine (Bo B m d ys w hy hd hmd).mono ?_;rintro e w' ⟨rfl,rfl⟩;go_wp2_with fail;refine (FM _ _ (L (Limb.val xs)) (L (Limb.val xs)) (L (Limb.val ys)) (L (Limb.val ys)) _ _ w hA.2.2.1 (Nat.le_refl _) (by omega) hB.2.2.1 (Nat.le_refl _) (by omega) (by omega) (by omega) H0.out).mono ?_
 rintro e w1 ⟨A1,n1,c1,B1,m1,d1,rfl,o1,o2,b1⟩;go_wp2_with fail;go_ret3
 exact ⟨A1,n1,c1,B1,m1,d1,rfl,o1,o2,b1⟩
theorem Qr (a:Nat) (h:L a<=2):a<=18446744073709551615:=by have:=Uu a h;omega
theorem RI (A B:Option Addr) (n c m d:Nat) (xs ys:List Nat) (w:World) (hx:Am w A n xs) (hc:n<=c) (hm:c<=9223372036854775807) (hn:n<=549755813888) (hy:Am w B m ys) (hd:m<=d) (hmd:d<=9223372036854775807) (hm4:m<=549755813888) :
  Calls Tryz.prog 123 #[.slice A n c,.slice B m d] w (Ck (Nat.gcd (Limb.val xs) (Limb.val ys)) w):=by
 have hA:=Bz w A xs n hx;have hB:=Bz w B ys m hy;have hdA:=Bo A n c xs w hx hc hm;have hdB:=Bo B m d ys w hy hd hmd;generalize Limb.val xs=a at *;generalize Limb.val ys=b at *;have h1:=hA.2.1;have h2:=hB.2.1;have hAN:=hA.2.2.1;have hBN:=hB.2.2.1;clear hA hB;go_enter Tryz.func123,Tryz.ntmps123;go_wp2_with fail;refine hdA.mono ?_;rintro e w' ⟨rfl,rfl⟩;go_wp2_with fail;refine hdB.mono ?_;rintro e w' ⟨rfl,rfl⟩;clear hdA hdB;go_wp2_with fail
 go_loopg [0,1] b (fun k va vb wr=>∃(x:Nat) (P Q:Option Addr) (p pc q qc:Nat),va=.slice P p pc/\vb=.slice Q q qc/\Am wr P p (Limb.canon x)/\Am wr Q q (Limb.canon k)/\p<=pc/\pc<=4611686018427387904/\q<=qc/\qc<=4611686018427387904/\p<=549755813888/\q<=549755813888/\Below w.heap.size w wr/\Hid (Nat.gcd x k=Nat.gcd a b))
 case atStart=>exact ⟨a,_,_,_,_,_,_,rfl,rfl,hAN,hBN,Nat.le_refl _,by omega,Nat.le_refl _,by omega,by omega,by omega,Below.refl _ _,rfl⟩
 case round=>
  clear hAN hBN;obtain ⟨x,P,Q,p,pc,q,qc,rfl,rfl,hP,hQ,hpc,hpc9,hqc,hqc9,hp4,hq4,hb,HG⟩:=hrel;have hlq:=hQ.len;have hlp:=hP.len;have HLQ:=Lib.hid hlq;have HLP:=Lib.hid hlp;clear hlq hlp;have hq0:0<q->gk≠0:=by intro h h0;have:=HLQ.out;rw[h0,Limb.canon_zero]at this;simp at this;omega
  have HQ0:=Ad hq0;clear hq0;by_cases hgo:(2<p/\0<q)\/2<q
  · have hqp:0<q:=(by omega);have hk:=HQ0.out hqp;have HK:=Ad hk;clear hk;have hml:=Nat.mod_lt x (Nat.pos_of_ne_zero HK.out);by_cases h2p:2<p
    · clear hgo;go_wp2_with fail;refine (FM P Q p pc q qc x gk wr hP hpc (by omega) hQ hqc (by omega) hp4 hq4 HK.out).mono ?_;rintro e w1 ⟨A1,n1,c1,B1,m1,d1,rfl,o1,o2,b1⟩;have lm:m1<=q:=(by rw[o2.len,<-HLQ.out];exact Kz (Nat.le_of_lt hml));go_wp2_with fail;go_roundg (x%gk)
      case rel=>exact ⟨gk,Q,B1,q,qc,m1,d1,rfl,rfl,hQ.below b1,o2.nums,hqc,hqc9,o2.2.1,o2.2.2.1,hq4,by omega,hb.next b1,by show _=_;rw[<-HG.out,Nat.gcd_comm gk,<-Nat.gcd_rec,Nat.gcd_comm]⟩
      case measure=>exact hml
    · have h2q:2<q:=(by omega);clear hgo;go_wp2_with fail;refine (FM P Q p pc q qc x gk wr hP hpc (by omega) hQ hqc (by omega) hp4 hq4 HK.out).mono ?_;rintro e w1 ⟨A1,n1,c1,B1,m1,d1,rfl,o1,o2,b1⟩;have lm:m1<=q:=(by rw[o2.len,<-HLQ.out];exact Kz (Nat.le_of_lt hml));go_wp2_with fail;go_roundg (x%gk)
      case rel=>exact ⟨gk,Q,B1,q,qc,m1,d1,rfl,rfl,hQ.below b1,o2.nums,hqc,hqc9,o2.2.1,o2.2.2.1,hq4,by omega,hb.next b1,by show _=_;rw[<-HG.out,Nat.gcd_comm gk,<-Nat.gcd_rec,Nat.gcd_comm]⟩
      case measure=>exact hml
  · by_cases hqz:q=0
    · subst hqz;have hk0:gk=0:=(Limb.canon_len_zero _).1 HLQ.out;subst hk0;have hgx:x=Nat.gcd a b:=(by rw[<-HG.out,Nat.gcd_zero_right]);have HGX:=Lib.hid hgx;clear hgo hgx;by_cases h2p:2<p
      · go_wp2_with fail;refine (Do P p pc _ wr hP hpc (by omega) (by omega)).mono ?_;rintro e w1 ⟨A1,n1,rfl,o1,b1⟩;rw[Limb.val_canon,HGX.out]at o1;go_wp2_with fail;go_ret
        exact ⟨A1,n1,rfl,o1.mono hb.size,hb.next b1⟩
      · go_wp2_with fail;refine (Do P p pc _ wr hP hpc (by omega) (by omega)).mono ?_;rintro e w1 ⟨A1,n1,rfl,o1,b1⟩;rw[Limb.val_canon,HGX.out]at o1;go_wp2_with fail;go_ret
        exact ⟨A1,n1,rfl,o1.mono hb.size,hb.next b1⟩
    · have hq2:q<=2:=(by omega);have hp2:p<=2:=(by omega);have hqp:0<q:=(by omega);have hqne:((q:Int)==0)=false:=(by simp;omega);have hgl:=HQ0.out hqp;have lx:=Qr x (by show L x<=2;have:=HLP.out;unfold L;omega);have ly:=Qr gk (by show L gk<=2;have:=HLQ.out;unfold L;omega);clear hgo hqz HQ0;have LX:=Ad lx;have LY:=Ad ly;clear lx ly hgl;obtain ⟨wo,rfl⟩:∃wo:World,wo=wr:=⟨_,rfl⟩;go_wp2_with fail;refine (Gd P p pc _ wo hP hp2).mono ?_;rintro e w' ⟨rfl,rfl⟩;rw[Limb.val_canon]
      go_wp2_with fail;refine (Gd Q q qc _ wo hQ hq2).mono ?_;rintro e w' ⟨rfl,rfl⟩;rw[Limb.val_canon];go_wp2_with fail;generalize gk=k0 at *;go_loopg [7,8] k0 (fun k va vb wr2=>∃y:Nat,va=.int .u64 (y:Int)/\vb=.int .u64 (k:Int)/\Hid (y<=18446744073709551615/\k<=18446744073709551615)/\Hid (Nat.gcd y k=Nat.gcd a b)/\∃z,wr2=wo.drewN z)
      case atStart=>exact ⟨x,rfl,rfl,⟨LX.out,LY.out⟩,HG.out,0,rfl⟩
      case round=>
        clear LX LY HG;obtain ⟨y,rfl,rfl,HB,HG,z,rfl⟩:=hrel;by_cases hk0:gk=0
        · subst hk0;have hgy:y=Nat.gcd a b:=(by rw[<-HG.out,Nat.gcd_zero_right]);have HGY:=Lib.hid hgy;clear hgy;have hyl:y/4294967296<4294967296:=(by have:=HB.out;omega);go_wp2_with fail;refine (PY y _ hyl).mono ?_;rintro e w1 ⟨A1,n1,rfl,o1,b1⟩;rw[HGY.out]at o1;go_wp2_with fail;go_ret
          exact ⟨A1,n1,rfl,o1.mono hb.size,(below_drewN hb z).trans (b1.mono hb.size)⟩
        · have hkne:((gk:Int) != 0)=true:=(by simp;omega);have hk1:(1:Int)<=(gk:Int):=(by omega);have hk2:((gk:Int)==0)=false:=(by simp;omega);have hml:=Nat.mod_lt y (Nat.pos_of_ne_zero hk0);have hmi:(y:Int)%(gk:Int)=((y%gk:Nat):Int):=(Int.natCast_emod y gk).symm;have hwr:IntKind.u64.wrap ((y:Int)%(gk:Int))=(y:Int)%(gk:Int):=by
           have:=HB.out;rw[hmi];generalize y%gk=u at *;exact IntWalk.u64_in _ ⟨by omega,by omega⟩
          have htm:(y:Int).tmod (gk:Int)=(y:Int)%(gk:Int):=Int.tmod_eq_emod_of_nonneg (by omega);have HMI:=Lib.hid hmi;have HML:=Ad hml;clear hmi hml hk0;go_wp2_with fail;go_quiet (fail)
          go_wp2_with fail;go_roundg (y%gk)
          case rel=>exact ⟨gk,rfl,by rw[HMI.out],⟨HB.out.2,by have:=HML.out;have:=HB.out;omega⟩,by show _=_;rw[<-HG.out,Nat.gcd_comm gk,<-Nat.gcd_rec,Nat.gcd_comm],by simp only[World.drewN_drewN];exact ⟨_,rfl⟩⟩
          case measure=>exact HML.out
end
section
open Go.RowKit
def Ty (N:Nat) (w:World) (e:Ending) (w':World):Prop:=e=.returned (.int .i64 ((Limb.bl N:Nat):Int))/\Below w.heap.size w w'
theorem OJ (N k:Nat) (h:(Limb.canon N).length=k+1):0<Limb.limb (Limb.canon N) k:=by
 have hne:Limb.canon N≠[]:=fun h0=>by rw[h0]at h;cases h
 have ht:=Limb.tight_canon N hne;rw[List.getLast_eq_getElem]at ht;unfold Limb.limb;rw[List.getD_eq_getElem?_getD,List.getElem?_eq_getElem (by omega)];have e:(Limb.canon N).length-1=k:=by omega
 simp only[e]at ht;exact Nat.pos_of_ne_zero ht
def UD (b:Bool):Nat:=if b then 1 else 0
end
section
open Go.RowKit
open Limb (limb AE upto upto_succ Ap Aq)
theorem OK (x:Nat) (h0:x≠0) (h:x<4294967296):Lib.bitLen x=Limb.bl x:=by obtain ⟨h1,h2,h3,h4⟩:=JK x h0 h;have:=Limb.bl_spec x (Lib.bitLen x-1) h3 (by rw[Nat.sub_add_cancel h1];exact h4);omega
def L0 (N:Nat) (w:World) (e:Ending) (w':World):Prop:=e=.returned (.int .i64 ((Limb.bl N:Nat):Int))/\w=w'
def OL (x:Nat) (w:World) (e:Ending) (w':World):Prop:=e=.returned (.int .i64 ((Limb.bl x:Nat):Int))/\w=w'
theorem OM (x:Nat) (w:World) (h0:x≠0) (h:x<4294967296):Calls Tryz.prog 92 #[.int .u32 (x:Int)] w (OL x w):=by refine (Tryz.bits_Len32 (x:Int) w (by omega) (by omega)).mono ?_;rintro e w' ⟨rfl,rfl⟩;rw[Int.toNat_natCast,OK x h0 h];exact ⟨rfl,rfl⟩
theorem Qs (A:Option Addr) (n c:Nat) (xs:List Nat) (w:World) (hx:Am w A n xs) (hc:n<=c) (hm:c<=9223372036854775807) (hb:n<=1099511627776) :
   Calls Tryz.prog 57 #[.slice A n c] w (L0 (Limb.val xs) w):=by
 have hcut:=Bz w A xs n hx;have hdet:=Bo A n c xs w hx hc hm;generalize Limb.val xs=a at *;obtain ⟨-,hle,hN,-⟩:=hcut;unfold Ed at hdet;rcases Nat.eq_zero_or_pos (L a) with h0|h0
 · have ha:Hid (a=0):=Ad ((Limb.canon_len_zero a).1 h0);rw[h0]at hdet;clear h0 hN hle;go_enter Tryz.func57,Tryz.ntmps57;go_wp2_with fail;refine hdet.mono ?_;rintro e w' ⟨rfl,rfl⟩;go_wp2_with fail;go_ret
   exact ⟨by rw[ha.out];rfl,rfl⟩
 · obtain ⟨k,hk⟩:∃k,L a=k+1:=⟨L a-1,by omega⟩;rw[hk]at hdet hle hN;have hk2:(Limb.canon a).length=k+1:=hk;obtain ⟨b,o,x,hA,hx32,hxe,hcell⟩:=hN.at_ (i:=k) (by omega);have hx0:=OJ a k hk2;have hbl:=Limb.bl_limbs (Limb.canon a) k (Limb.ok_canon a) hk2 hx0;rw[Limb.val_canon]at hbl;have e1:Limb.limb (Limb.canon a) k=x:=hxe.symm;rw[e1]at hbl hx0;have HB:=Ad hbl;have hblx:=Limb.bl_le x 32 hx32;rw[hA]at hdet;clear hbl e1 hxe hA hk hk2 hN h0;go_enter Tryz.func57,Tryz.ntmps57
   go_wp2_with fail;refine hdet.mono ?_;rintro e w' ⟨rfl,rfl⟩;go_wp2_with fail;refine (OM x _ (by omega) hx32).mono ?_;rintro e w' ⟨rfl,rfl⟩;go_wp2_with fail;go_ret
   exact ⟨by rw[HB.out];go_num,rfl⟩
theorem Ek {w:World} {base:Nat} {A:Option Addr} {n c N:Nat} (o:Own w base A n c N):n<=4611686018427387904:=by have:=o.2.1;have:=o.2.2.1;omega
def TI (N:Nat) (w:World) (e:Ending) (w':World):Prop:=∃A n,e=.returned (.tuple #[.slice A n n,.int .i64 0])/\Own w' w.heap.size A n n N/\Below w.heap.size w w'
def Uc (k:Int) (w:World) (e:Ending) (w':World):Prop:=e=.returned (.tuple #[.slice none 0 0,.int .i64 k])/\w=w'
def SU (N:Nat) (w:World) (e:Ending) (w':World):Prop:=∃A n c,e=.returned (.tuple #[.slice A n c,.int .i64 0])/\Am w' A n (Limb.canon N)/\n<=c/\c<=9223372036854775807/\Below w.heap.size w w'
end
end Go.Proofs.YtemfjdedjcjegaaGreatDoor
