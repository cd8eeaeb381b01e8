/- Texts of one seat, put together: Right Bits DivL Div. -/
import Derived.Test.YtmedjkhmadfjlaaGreatR06
import Derived.Test.YtmedjkhmadfjlaaGreatR04
import Derived.Shelf.Small.Bits
import Derived.Lib.ItoaNum
import Derived.Test.YtmedjkhmadfjlaaGreatR01
set_option linter.unusedVariables false
set_option linter.unusedSimpArgs false
set_option maxRecDepth 100000
set_option maxHeartbeats 16000000
namespace Go.Proofs.YtmedjkhmadfjlaaGreat
section
open Go.RowKit
open Limb (limb AQ upto upto_succ Az AC)
def EB (g N s:Nat) (old:List Nat) (w:World) (i:Nat) (wr:World):Prop:=
 ∃cur:List Nat,cur.length=N/\Limb.Ok cur/\Row wr g cur/\Below w.heap.size w wr/\w.heap.size<=g/\(∀t,i<=t->limb cur t=limb old t)/\2^s*upto cur i+limb old 0%2^s=upto old i+4294967296^i*(limb old i%2^s)
theorem EB.drew {g N s:Nat} {old:List Nat} {w:World} {i:Nat} {wr:World} (h:EB g N s old w i wr):EB g N s old w i wr.drew:=by obtain ⟨cur,hl,ho,hr,hb,hg,he,hv⟩:=h;exact ⟨cur,hl,ho,hr.drew,hb.drew,hg,he,hv⟩
theorem EB.at_ {g N s:Nat} {old:List Nat} {w:World} {i t:Nat} {wr:World} (h:EB g N s old w i wr) (ht:i<=t) (hN:t<N) :
  wr.cell? ⟨g,t,none⟩=some (.int .u32 ((limb old t:Nat):Int))/\wr.frozen? ⟨g,t,none⟩=false:=by
 obtain ⟨cur,hl,ho,hr,hb,hg,he,hv⟩:=h;rw[<-he t ht];exact ⟨hr.cell (i:=t) (by omega),hr.frozen t⟩
theorem MG (cur:List Nat) (i v:Nat):upto (cur.set i v) i=upto cur i:=by unfold upto;rw[List.take_set_of_le (Nat.le_refl i)]
theorem UL (s y:Nat) (hs:s<=32):2^s*lo (32-s) y=4294967296*(y%2^s):=by
 unfold lo;have e:4294967296=2^(32-s)*2^s:=(Fa s hs).symm;have h1:y*2^(32-s)%4294967296=2^(32-s)*(y%2^s):=by rw[e,Nat.mul_comm y,Nat.mul_mod_mul_left]
 rw[h1,<-Nat.mul_assoc,Nat.mul_comm (2^s),Fa s hs]
theorem NU (s x:Nat) (hs:s<=32):hi (32-s) x=x/2^s:=by
 unfold hi;have:32-(32-s)=s:=by omega
 rw[this]
theorem Rz (P U V B x y r0 h l:Nat) (hv:P*U+r0=V+B*(x%P)) (hl:P*l=4294967296*y) (hh:h=x/P):P*(U+B*(h+l))+r0=V+B*x+B*4294967296*y:=by
 have e1:=Nat.div_add_mod x P;rw[<-hh]at e1;have e2:P*(B*(h+l))=B*(P*h)+B*(P*l):=by rw[Nat.mul_left_comm P B,Nat.mul_add,Nat.mul_add]
 rw[Nat.mul_add,e2,hl];have e3:B*(P*h+x%P)=B*x:=by rw[e1]
 rw[Nat.mul_add]at e3;rw[Nat.mul_assoc];omega
theorem EB.step {g N s:Nat} {old:List Nat} {w:World} {i:Nat} {wr:World} (h:EB g N s old w i wr) (hi':i+1<N) (hs:s<=32) (hoo:Limb.Ok old) :
   EB g N s old w (i+1) (wr.setCell ⟨g,i,none⟩ (.int .u32 ((hi (32-s) (limb old i)+lo (32-s) (limb old (i+1)):Nat):Int))):=by
 obtain ⟨cur,hl,ho,hr,hb,hg,he,hv⟩:=h;have hlt:=Lh (32-s) (limb old (i+1)) (limb old i) (by omega) (hoo.getD i);refine ⟨cur.set i (hi (32-s) (limb old i)+lo (32-s) (limb old (i+1))),by simp[hl],ho.set _ _ (by omega),hr.set_ _ _,hb.setCell hg _,hg,fun t ht=>?_,?_⟩
 · rw[FN _ _ _ _ (by omega)];exact he t (by omega)
 · rw[upto_succ,MG,CX _ _ _ (by omega),upto_succ,Nat.pow_succ];exact Rz _ _ _ _ _ _ _ _ _ hv (UL s _ hs) (NU s _ hs)
theorem EB.done {g N s:Nat} {old:List Nat} {w:World} {i:Nat} {wr:World} (h:EB g N s old w i wr) (hi':i+1=N) (hs:s<=32) (hoo:Limb.Ok old) (hN:old.length=N) :
  ∃zs:List Nat,zs.length=N/\Limb.Ok zs/\Row (wr.setCell ⟨g,i,none⟩ (.int .u32 ((hi (32-s) (limb old i):Nat):Int))) g zs/\Limb.val zs=Limb.val old/2^s:=by
 obtain ⟨cur,hl,ho,hr,hb,hg,he,hv⟩:=h;refine ⟨cur.set i (hi (32-s) (limb old i)),by simp[hl],ho.set _ _ (Hg _ _ (hoo.getD i)),hr.set_ _ _,?_⟩;have e1:Limb.val (cur.set i (hi (32-s) (limb old i)))=upto cur i+4294967296^i*hi (32-s) (limb old i):=by rw[<-Az _ (i+1) (by simp;omega),upto_succ,MG,CX _ _ _ (by omega)]
 have e2:Limb.val old=upto old i+4294967296^i*limb old i:=by rw[<-upto_succ,Az _ _ (by omega)]
 have e3:=Rz (2^s) _ _ _ _ 0 _ (hi (32-s) (limb old i)) 0 hv (by simp) (NU s _ hs);rw[Nat.add_zero,Nat.mul_zero,Nat.add_zero,<-e1,<-e2]at e3;have hp:0<2^s:=Nat.pow_pos (by omega);have e4:=Nat.mod_lt (limb old 0) hp;rw[<-e3,Nat.mul_add_div hp,Nat.div_eq_of_lt e4,Nat.add_zero]
theorem R2 (s x y:Nat) (hs:s<=32) (hy:y<4294967296):bits BinOp.or IntKind.u32 ((hi s y:Nat):Int) ((lo s x:Nat):Int)=((hi s y+lo s x:Nat):Int):=by rw[u32_or_nat _ _ (Hg s y hy) (MF s x),Nat.or_comm,nat_join s _ _ (NS s x hs) (Rw s y hs hy),Nat.add_comm]
theorem Pj (s x:Nat) (hs:s<=32):(x:Int)/2^s=((hi (32-s) x:Nat):Int):=by rw[NU s x hs,Int.natCast_ediv,Int.natCast_pow];rfl
theorem Tw (s x:Nat):(x:Int)*2^(32-s)%4294967296=((lo (32-s) x:Nat):Int):=NT (32-s) x
theorem NV (a l s:Nat) (h:L a<=l):a/2^(32*l+s)=0:=by
 refine Nat.div_eq_of_lt ?_;have h1:4294967296^l=2^(32*l):=by rw[Nat.pow_mul]
 have h2:=Nat.lt_of_lt_of_le (GC a) (Limb.pow_mono h);rw[h1]at h2;exact Nat.lt_of_lt_of_le h2 (Nat.pow_le_pow_right (by omega) (by omega))
theorem PU (a l s:Nat):a/4294967296^l/2^s=a/2^(32*l+s):=by
 have h1:4294967296^l=2^(32*l):=by rw[Nat.pow_mul]
 rw[Nat.div_div_eq_div_mul,h1,<-Nat.pow_add]
theorem EB.start {g N s:Nat} {old:List Nat} {w wr:World} (hl:old.length=N) (ho:Limb.Ok old) (hr:Row wr g old) (hb:Below w.heap.size w wr) (hg:w.heap.size<=g):EB g N s old w 0 wr:=
 ⟨old,hl,ho,hr,hb,hg,fun _ _=>rfl,by rw[AC,Nat.mul_zero,Nat.zero_add,Nat.pow_zero,Nat.one_mul,Nat.zero_add]⟩
theorem PW (A:Option Addr) (m c n l s:Nat) (z:Int) (xs:List Nat) (w:World) (hx:Av w A m xs) (hc:m<=c) (hc9:c<=9223372036854775807) (hm:m<=1099511627776) (hn:n=32*l+s) (hs:s<32) (hn63:n<=9223372036854775807) (hz:max z 0=(n:Int)) :
   Calls Tryz.prog 215 #[.slice A m c,.int .i64 z] w (CO (Limb.val xs/2^(32*l+s)) w):=by
 have hcut:=BX w A xs m hx;have hdet:=BL A m c xs w hx hc hc9;generalize Limb.val xs=a at *;obtain ⟨-,hle,hN,-⟩:=hcut;have hmx:∀(w:World) (ts:Array TypeId) (t:TypeId) (k k':IntKind),(Builtin.max_ ts t #[.int k z,.int k' 0]).run Tryz.prog w=.ok (.int k (n:Int)) w:=fun w ts t k k'=>by
   rw[run_max_int2];congr 2;split<;>omega
 clear hz;have en:(n:Int)/32=(l:Int):=by omega
 have em:(n:Int)%32=(s:Int):=by omega
 clear hn;by_cases hll:L a<=l
 · have h0:=NV a l s hll;have H0:=Lib.hid h0;clear h0;go_enter Tryz.func215,Tryz.ntmps215;go_wp2_with fail;refine hdet.mono ?_;rintro e w' ⟨rfl,rfl⟩;go_wp2_with fail;go_ret
   exact ⟨none,0,rfl,by rw[H0.out];exact Own.zero _ _ _ _ (by omega),Below.refl _ _⟩
 · have hN2:=hN.cut (k:=l) (cap:=L a) (by omega) (Nat.le_refl _);rw[Ev,if_neg (by omega)]at hN2;have f1:(L a=l)=False:=(by simp;omega);have hlen:=hN2.len;have HLN:=Lib.hid hlen;clear hlen;go_enter Tryz.func215,Tryz.ntmps215;go_wp2_with fail;refine hdet.mono ?_;rintro e w' ⟨rfl,rfl⟩;go_wp2_with (first
    |(at_make;refine Bl _ rfl _ _ rfl _ (L a-l) rfl rfl (by omega) (by omega) ?_;intro w1 hr1 hb1 hs1)
    |(with_reducible refine Bw rfl _ _ rfl w.heap.size 0 _ _ _ _ (L a-l) (L a-l) rfl (fun _=>rfl) rfl _ (Limb.canon (a/4294967296^l)) hr1 (hN2.below hb1) (Nat.le_refl _) (by simp) ?_;intro w2 hr2 ho2))
   have hput:put (List.replicate (L a-l) 0) 0 (Limb.canon (a/4294967296^l))=Limb.canon (a/4294967296^l):=by unfold put;rw[<-HLN.out];simp
   rw[hput]at hr2;have hb2:Below w.heap.size w w2:=hb1.trans (ho2.below (Nat.le_of_lt hs1) (Nat.le_refl _));have hok:=Limb.ok_canon (a/4294967296^l);have HST:=Ac (EB.start (s:=s) HLN.out hok hr2 hb2 (Nat.le_refl _));have HV:Hid (Limb.val (Limb.canon (a/4294967296^l))/2^s=a/2^(32*l+s)):=(by show _=_;rw[Limb.val_canon,PU]);generalize Limb.canon (a/4294967296^l)=old at *;clear hput hr1 hr2 ho2 hb1 hb2 hs1 hx hN hN2 hdet
   go_loopw [9,36] (fun _ i wr=>∃k:Nat,k+1<=L a-l/\i=.int .i64 (k:Int)/\Hid (EB w.heap.size (L a-l) s old w k wr)) (fun _ i _=>L a-l-(intOf i).toNat)
   case atStart=>exact ⟨0,by omega,rfl,HST⟩
   case round=>
    clear HST;obtain ⟨k,hk1,rfl,R⟩:=hrel;by_cases hkl:k+1<L a-l
    · obtain ⟨hcx,hfx⟩:=R.out.at_ (t:=k) (Nat.le_refl _) (by omega);obtain ⟨hcy,_⟩:=R.out.at_ (t:=k+1) (by omega) (by omega);have hw1:IntKind.i64.wrap (32-(s:Int))=32-(s:Int):=IntWalk.i64_in _ (by omega);have hw3:IntKind.i64.wrap ((k:Int)+1)=(k:Int)+1:=IntWalk.i64_in _ (by omega);go_wp2_with fail;go_region
      rw[Pj s _ (Nat.le_of_lt hs),Tw,R2 (32-s) (limb old (k+1)) (limb old k) (by omega) (hok.getD k)];have hstep:=R.out.step hkl (Nat.le_of_lt hs) hok;have HSTEP:=Ac hstep.drew;clear R hcy hcx hfx hw1 hw3 hstep;go_wp2_with fail;go_roundw
      case rel=>exact ⟨k+1,by omega,by go_num,by simpa only[Int.natCast_add] using HSTEP⟩
      case measure=>simp[intOf]<;>omega
    · obtain rfl:k=L a-l-1:=(by omega);clear hkl;obtain ⟨hcx,hfx⟩:=R.out.at_ (t:=L a-l-1) (Nat.le_refl _) (by omega);have hdone:=R.out.done (by omega) (Nat.le_of_lt hs) hok HLN.out;have hb:Below w.heap.size w wr:=(by obtain ⟨_,_,_,_,hb,_⟩:=R.out;exact hb);obtain ⟨zs,z1,z2,z3,z4⟩:=hdone;have Z1:=Lib.hid z1;have Z4:=Lib.hid z4;clear z1 z4;go_wp2_with fail;rw[Pj s _ (Nat.le_of_lt hs)]
      refine (BU w.heap.size (L a-l) _ (a/2^(32*l+s)) w.heap.size zs _ z3 z2 (by rw[Z1.out];exact Nat.le_refl _) (by omega) (by omega) (Nat.le_refl _) (by rw[List.take_of_length_le (by rw[Z1.out];exact Nat.le_refl _),Z4.out];exact HV.out)).mono ?_;rintro e w4 ⟨A',j,rfl,how,rfl⟩;go_wp2_with fail;go_ret
      exact ⟨A',j,rfl,how,hb.setCell (Nat.le_refl _) _⟩
theorem PX (A:Option Addr) (m c n l s:Nat) (xs:List Nat) (w:World) (hx:Av w A m xs) (hc:m<=c) (hc9:c<=9223372036854775807) (hm:m<=1099511627776) (hn:n=32*l+s) (hs:s<32) (hn63:n<=9223372036854775807) :
  Calls Tryz.prog 215 #[.slice A m c,.int .i64 (n:Int)] w (CO (Limb.val xs/2^(32*l+s)) w):=
 PW A m c n l s (n:Int) xs w hx hc hc9 hm hn hs hn63 (by omega)
end
section
open Go.Shelf
def Tryz.lays128_ren:Go.Shelf.Ren:=⟨fun|128=>129|n=>n,fun|51=>122|3=>3|4=>4|46=>106|5=>5|9=>9|n=>n,fun|n=>n⟩
theorem Tryz.lays128:Go.Proofs.Lays.n128 Tryz.prog Tryz.lays128_ren:={
 mixed:=by kernel_rfl
 f128:=Tryz.func129.trans (congrArg some (by kernel_rfl))
 t3:=Tryz.underlying3
 a3:=Tryz.isAgg3
 z3:=Tryz.sizeOf3
 v3:=Tryz.zeroValue3
 t4:=Tryz.underlying4
 a4:=Tryz.isAgg4
 z4:=Tryz.sizeOf4
 v4:=Tryz.zeroValue4
 t5:=Tryz.underlying5
 a5:=Tryz.isAgg5
 z5:=Tryz.sizeOf5
 v5:=Tryz.zeroValue5
 t9:=Tryz.underlying9
 a9:=Tryz.isAgg9
 z9:=Tryz.sizeOf9
 v9:=Tryz.zeroValue9
 t46:=Tryz.underlying106
 a46:=Tryz.isAgg106
 z46:=Tryz.sizeOf106
 v46:=Tryz.zeroValue106
 t51:=Tryz.underlying122
 a51:=Tryz.isAgg122
 z51:=Tryz.sizeOf122
 v51:=Tryz.zeroValue122 }
theorem Tryz.bits_Len32 (x:Int) (w:World) (h0:0<=x) (h1:x<=4294967295) :
 Calls Tryz.prog 129 #[.int .u32 x] w fun e w'=>e=.returned (.int .i64 (Lib.bitLen x.toNat))/\w'=w:=Any.bits_Len32 Tryz.lays128 x w h0 h1
def Tryz.lays133_ren:Go.Shelf.Ren:=⟨fun|133=>212|128=>129|n=>n,fun|51=>122|3=>3|4=>4|46=>106|5=>5|9=>9|n=>n,fun|n=>n⟩
theorem Tryz.lays133:Go.Proofs.Lays.n133 Tryz.prog Tryz.lays133_ren:={
 mixed:=by kernel_rfl
 f128:=Tryz.func129.trans (congrArg some (by kernel_rfl))
 f133:=Tryz.func212.trans (congrArg some (by kernel_rfl))
 t3:=Tryz.underlying3
 a3:=Tryz.isAgg3
 z3:=Tryz.sizeOf3
 v3:=Tryz.zeroValue3
 t4:=Tryz.underlying4
 a4:=Tryz.isAgg4
 z4:=Tryz.sizeOf4
 v4:=Tryz.zeroValue4
 t5:=Tryz.underlying5
 a5:=Tryz.isAgg5
 z5:=Tryz.sizeOf5
 v5:=Tryz.zeroValue5
 t9:=Tryz.underlying9
 a9:=Tryz.isAgg9
 z9:=Tryz.sizeOf9
 v9:=Tryz.zeroValue9
 t46:=Tryz.underlying106
 a46:=Tryz.isAgg106
 z46:=Tryz.sizeOf106
 v46:=Tryz.zeroValue106
 t51:=Tryz.underlying122
 a51:=Tryz.isAgg122
 z51:=Tryz.sizeOf122
 v51:=Tryz.zeroValue122 }
theorem Tryz.bits_LeadingZeros32 (x:Int) (w:World) (h0:0<=x) (h1:x<=4294967295) :
 Calls Tryz.prog 212 #[.int .u32 x] w fun e w'=>e=.returned (.int .i64 (32-(Lib.bitLen x.toNat:Int)))/\w'=w:=Any.bits_LeadingZeros32 Tryz.lays133 x w h0 h1
end
section
open Go.RowKit
open Limb (limb AQ upto upto_succ Az AC)
def UM (x:Nat) (w:World) (e:Ending) (w':World):Prop:=∃z:Nat,e=.returned (.int .i64 (z:Int))/\z<32/\Hid (2147483648<=x*2^z/\x*2^z<4294967296)/\w=w'
theorem Li (x:Nat) (h0:x≠0) (h:x<4294967296):1<=Lib.bitLen x/\Lib.bitLen x<=32/\2^(Lib.bitLen x-1)<=x/\x<2^Lib.bitLen x:=by have h1:=Lib.bitLenAux_bounds 64 x (by omega) h0;have h2:=Lib.bitLen_le x 32 (by omega) (by omega);exact ⟨h1.1,h2,h1.2.1,h1.2.2⟩
theorem UN (x:Nat) (w:World) (h0:x≠0) (h:x<4294967296):Calls Tryz.prog 212 #[.int .u32 (x:Int)] w (UM x w):=by
 obtain ⟨b1,b2,b3,b4⟩:=Li x h0 h;refine (Tryz.bits_LeadingZeros32 (x:Int) w (by omega) (by omega)).mono ?_;rintro e w' ⟨rfl,rfl⟩;refine ⟨32-Lib.bitLen x,?_,by omega,?_,rfl⟩
 · rw[Int.toNat_natCast];congr 2
   omega
 · show _/\_;have e1:(2:Nat)^(Lib.bitLen x-1)*2^(32-Lib.bitLen x)=2147483648:=by
    rw[<-Nat.pow_add];have:Lib.bitLen x-1+(32-Lib.bitLen x)=31:=by omega
    rw[this]
   have e2:(2:Nat)^Lib.bitLen x*2^(32-Lib.bitLen x)=4294967296:=by
    rw[<-Nat.pow_add];have:Lib.bitLen x+(32-Lib.bitLen x)=32:=by omega
    rw[this]
   have hp:0<2^(32-Lib.bitLen x):=Nat.pow_pos (by omega);exact ⟨by rw[<-e1];exact Nat.mul_le_mul_right _ b3,by rw[<-e2];exact Nat.mul_lt_mul_of_pos_right b4 hp⟩
theorem UO (b j z:Nat) (hb:L b=j+2) (hz:2147483648<=limb (Limb.canon b) (j+1)*2^z) (hz2:limb (Limb.canon b) (j+1)*2^z<4294967296) (hz3:z<32) :
  L (b*2^z)=j+2/\2147483648<=limb (Limb.canon (b*2^z)) (j+1)/\2147483648*4294967296^(j+1)<=b*2^z:=by
 have e1:b=upto (Limb.canon b) (j+1)+4294967296^(j+1)*limb (Limb.canon b) (j+1):=by rw[<-upto_succ,Az _ _ (by show L b<=j+1+1;omega),Limb.val_canon]
 have h1:=E8 (Limb.canon b) (Limb.ok_canon b) (j+1);have hp:0<2^z:=Nat.pow_pos (by omega);generalize limb (Limb.canon b) (j+1)=t at *;generalize upto (Limb.canon b) (j+1)=u at *;have hlow:4294967296^(j+1)*(t*2^z)<=b*2^z:=by rw[<-Nat.mul_assoc];exact Nat.mul_le_mul_right _ (by omega)
 have hhigh:b*2^z<4294967296^(j+1)*(t*2^z+2^z):=by
  have h2:b<4294967296^(j+1)*(t+1):=by rw[Nat.mul_add,Nat.mul_one];omega
  have h3:t*2^z+2^z=(t+1)*2^z:=by rw[Nat.add_mul,Nat.one_mul]
  rw[h3,<-Nat.mul_assoc];exact Nat.mul_lt_mul_of_pos_right h2 hp
 have htz:t*2^z+2^z<=4294967296:=by
  have e2:(4294967296:Nat)=2^(32-z)*2^z:=(Fa z (by omega)).symm;have h4:t<2^(32-z):=by rw[e2]at hz2;exact Nat.lt_of_mul_lt_mul_right hz2
  have h5:(t+1)*2^z<=2^(32-z)*2^z:=Nat.mul_le_mul_right _ h4;rw[Nat.add_mul,Nat.one_mul]at h5;omega
 have hlt:b*2^z<4294967296^(j+2):=by have h6:=Nat.mul_le_mul_left (4294967296^(j+1)) htz;have h7:4294967296^(j+2)=4294967296^(j+1)*4294967296:=Nat.pow_succ ..;rw[h7];exact Nat.lt_of_lt_of_le hhigh h6
 have hge:2147483648*4294967296^(j+1)<=b*2^z:=by rw[Nat.mul_comm];exact Nat.le_trans (Nat.mul_le_mul_left _ hz) hlow
 have hL1:L (b*2^z)<=j+2:=LJ hlt;have hL2:j+2<=L (b*2^z):=by
  rcases Nat.lt_or_ge (L (b*2^z)) (j+2) with h|h
  · have h8:=GC (b*2^z);have h9:=Nat.lt_of_lt_of_le h8 (Limb.pow_mono (show L (b*2^z)<=j+1 by omega));have h10:1*4294967296^(j+1)<=2147483648*4294967296^(j+1):=Nat.mul_le_mul_right _ (by omega);rw[Nat.one_mul]at h10;omega
  · exact h
 have hLe:L (b*2^z)=j+2:=by omega
 refine ⟨hLe,?_,hge⟩;have e3:b*2^z=upto (Limb.canon (b*2^z)) (j+1)+4294967296^(j+1)*limb (Limb.canon (b*2^z)) (j+1):=by rw[<-upto_succ,Az _ _ (by show L (b*2^z)<=j+1+1;omega),Limb.val_canon]
 have h11:=E8 (Limb.canon (b*2^z)) (Limb.ok_canon _) (j+1);generalize limb (Limb.canon (b*2^z)) (j+1)=t2 at *;generalize upto (Limb.canon (b*2^z)) (j+1)=u2 at *;rw[e3,Nat.mul_comm]at hge;have h12:4294967296^(j+1)*2147483648<4294967296^(j+1)*(t2+1):=by rw[Nat.mul_add,Nat.mul_one];omega
 have:=Nat.lt_of_mul_lt_mul_left h12;omega
def R7 (g1 gq n m a' b':Nat) (w:World) (k:Nat) (wr:World):Prop:=
 ∃curR curQ:List Nat,curR.length=n+1/\curQ.length=n-m+1/\Limb.Ok curR/\Limb.Ok curQ/\Row wr g1 curR/\Row wr gq curQ/\Below w.heap.size w wr /\
  Limb.val curR+4294967296^k*(Limb.val (curQ.drop k)*b')=a'/\Limb.val (curR.drop k)<b'
theorem NW (zs:List Nat) (o k:Nat) (h:Limb.val (zs.drop (o+1))<4294967296^k) (hn:o+(k+1)<=zs.length):Limb.val (zs.drop o)=Limb.val (win zs o (k+1)):=by
 refine (Limb.val_eq_of_limbs _ _ fun t=>?_).symm;by_cases ht:t<k+1
 · rw[Ep zs o (k+1) t ht,Limb.limb_drop]
 · have h1:=Limb.limb_zero_of_lt _ (t-1) (Nat.lt_of_lt_of_le h (Limb.pow_mono (show k<=t-1 by omega)));rw[Limb.limb_drop]at h1;rw[Limb.limb_beyond (by rw[win_length zs o (k+1) hn];omega),Limb.limb_drop];have:o+1+(t-1)=o+t:=by omega
   rw[<-h1,this]
theorem UP (R q b' rem P A V cur cur' Bk:Nat) (h1:cur+Bk*(V*b')=A) (h2:cur'+P*R=cur+P*rem) (h3:b'*q+rem=R) (h4:Bk=P*4294967296):cur'+P*((q+4294967296*V)*b')=A:=by
 subst h4;subst h3;have e1:P*4294967296*(V*b')=P*(4294967296*V*b'):=by rw[Nat.mul_assoc,Nat.mul_assoc]
 rw[e1]at h1;rw[Nat.mul_add]at h2;rw[Nat.add_mul,Nat.mul_add,Nat.mul_comm q b'];omega
theorem R8 {g1 gq n m a' b':Nat} {w wr:World} {i:Nat} {curR:List Nat} (hlR:curR.length=n+1) (hok:Limb.Ok curR) (hi:i+m<=n) (hb:b'<4294967296^m) (hlt:Limb.val (curR.drop (i+1))<b') :
  Limb.val (curR.drop i)=Limb.val (win curR i (m+1))/\Limb.val (win curR i (m+1))<4294967296*b':=by
 have h1:=NW curR i m (Nat.lt_trans hlt hb) (by omega);refine ⟨h1,?_⟩;rw[<-h1,DV curR i (by omega)];have:=AQ hok i;omega
theorem Tx {g1 gq n m a' b':Nat} {w wr w2:World} {i:Nat} {curR curQ:List Nat} (hlR:curR.length=n+1) (hlQ:curQ.length=n-m+1) (hoR:Limb.Ok curR) (hoQ:Limb.Ok curQ) (hi:i+m<=n) (hb0:0<b') (hb:b'<4294967296^m)
   (hv:Limb.val curR+4294967296^(i+1)*(Limb.val (curQ.drop (i+1))*b')=a') (hlt:Limb.val (curR.drop (i+1))<b') (hq:Limb.val (win curR i (m+1))/b'<4294967296)
   (hR:Row w2 g1 (put curR i (Limb.fixed (m+1) (Limb.val (win curR i (m+1))%b')))) (hQ:Row w2 gq curQ) (hB:Below w.heap.size w w2) (hg:g1≠gq) (hgq:w.heap.size<=gq) :
   R7 g1 gq n m a' b' w i (w2.setCell ⟨gq,i,none⟩ (.int .u32 ((Limb.val (win curR i (m+1))/b':Nat):Int))):=by
 obtain ⟨h1,h2⟩:=R8 (g1:=g1) (gq:=gq) (a':=a') (w:=w) (wr:=w2) hlR hoR hi hb hlt;have hml:=Nat.mod_lt (Limb.val (win curR i (m+1))) hb0;have hdm:=Nat.div_add_mod (Limb.val (win curR i (m+1))) b';have hmp:Limb.val (win curR i (m+1))%b'<4294967296^(m+1):=Nat.lt_of_lt_of_le (Nat.lt_trans hml hb) (Limb.pow_mono (by omega));have hfit:i+(Limb.fixed (m+1) (Limb.val (win curR i (m+1))%b')).length<=curR.length:=by rw[Limb.fixed_length];omega
 have e1:=IZ curR i (Limb.fixed (m+1) (Limb.val (win curR i (m+1))%b')) hfit;rw[Limb.fixed_length,Limb.fixed_val,Nat.mod_eq_of_lt hmp]at e1;refine ⟨_,curQ.set i (Limb.val (win curR i (m+1))/b'),by rw[AM _ _ _ hfit];exact hlR,by simp[hlQ],DD hoR _ (Limb.fixed_ok _ _),hoQ.set _ _ hq,hR.far (p:=⟨gq,i,none⟩) hg _,hQ.set_ _ _,hB.setCell hgq _,?_,?_⟩
 · rw[DV (curQ.set i _) i (by simp;omega),CX _ _ _ (by omega),Gz];exact UP _ _ _ _ _ _ _ _ _ _ hv e1 hdm (Nat.pow_succ ..)
 · have e2:(put curR i (Limb.fixed (m+1) (Limb.val (win curR i (m+1))%b'))).drop i=Limb.fixed (m+1) (Limb.val (win curR i (m+1))%b')++curR.drop (i+(m+1)):=by
    unfold put;have hl3:(curR.take i).length=i:=(by rw[List.length_take];omega);rw[List.drop_append_of_le_length (by omega),List.drop_of_length_le (by omega),List.nil_append,Limb.fixed_length]
   have e3:Limb.val (curR.drop (i+(m+1)))=0:=by
    have h3:=Limb.val_take_drop (curR.drop (i+1)) m (by rw[List.length_drop];omega);rw[List.drop_drop]at h3;have h4:i+1+m=i+(m+1):=(by omega);rw[h4]at h3;rcases Nat.eq_zero_or_pos (Limb.val (curR.drop (i+(m+1)))) with h0|h0
    · exact h0
    · have h5:1<=Limb.val (curR.drop (i+(m+1))):=h0;have h6:=Nat.mul_le_mul_left (4294967296^m) h5;rw[Nat.mul_one]at h6;omega
   rw[e2,Limb.val_append,Limb.fixed_val,Nat.mod_eq_of_lt hmp,e3,Nat.mul_zero,Nat.add_zero];exact hml
theorem R9 (a' b' n m:Nat) (hmn:m<=n) (ha:a'<4294967296^n*2147483648*2) (hm:1<=m) (hb:2147483648*4294967296^(m-1)<=b') (zs:List Nat) (hl:zs.length=n+1) (hv:Limb.val zs=a') (hz:a'<4294967296^n*2147483648):Limb.val (zs.drop (n-m+1))<b':=by
 have e:=Limb.val_take_drop zs (n-m+1) (by omega);rw[hv]at e;have e2:4294967296^n=4294967296^(n-m+1)*4294967296^(m-1):=by rw[<-Nat.pow_add];congr 1;omega
 rw[e2]at hz;have h1:4294967296^(n-m+1)*Limb.val (zs.drop (n-m+1))<4294967296^(n-m+1)*(2147483648*4294967296^(m-1)):=by rw[Nat.mul_comm 2147483648,<-Nat.mul_assoc];omega
 exact Nat.lt_of_lt_of_le (Nat.lt_of_mul_lt_mul_left h1) hb
def Pk (N M:Nat) (w:World) (e:Ending) (w':World):Prop:=
 ∃A n c B m d,e=.returned (.tuple #[.slice A n c,.slice B m d])/\Own w' w.heap.size A n c N/\Own w' w.heap.size B m d M/\Below w.heap.size w w'
theorem J3 (b j:Nat) (h:L b=j+2):limb (Limb.canon b) (j+1)≠0:=by
 have ht:=Limb.tight_canon b;have hl:(Limb.canon b).length=j+2:=h;have hne:Limb.canon b≠[]:=by intro hh;rw[hh]at hl;simp at hl
 have h1:=ht hne;rw[List.getLast_eq_getElem]at h1;unfold limb;rw[List.getD_eq_getElem?_getD,List.getElem?_eq_getElem (by omega)];simpa[hl] using h1
theorem UQ (cR cQ a b P:Nat) (hP:0<P) (h:cR+4294967296^0*(cQ*(b*P))=a*P) (hlt:cR<b*P):cQ=a/b/\cR/P=a%b:=by
 rw[Nat.pow_zero,Nat.one_mul]at h;have hb:0<b*P:=by omega
 have e1:a*P/(b*P)=cQ:=by rw[<-h,Nat.add_mul_div_right _ _ hb,Nat.div_eq_of_lt hlt,Nat.zero_add]
 have e2:a*P%(b*P)=cR:=by rw[<-h,Nat.add_mul_mod_self_right,Nat.mod_eq_of_lt hlt]
 rw[Nat.mul_div_mul_right _ _ hP]at e1;rw[Nat.mul_mod_mul_right]at e2;exact ⟨e1.symm,by rw[<-e2,Nat.mul_div_cancel _ hP]⟩
theorem J4 (A B:Option Addr) (n c j d a b:Nat) (w:World) (hx:Av w A n (Limb.canon a)) (hc:n<=c) (hm:c<=9223372036854775807) (hy:Av w B (j+2) (Limb.canon b)) (hd:j+2<=d) (hmd:d<=9223372036854775807) (hn40:n<=549755813888) (hjn:j+2<=n) :
  Calls Tryz.prog 197 #[.slice A n c,.slice B (j+2) d] w (Pk (a/b) (a%b) w):=by
 have hLb:L b=j+2:=hy.len;have htop:=J3 b j hLb;obtain ⟨g0,o0,t,rfl,htl,hte,htc⟩:=hy.at_ (i:=j+1) (by omega);have ht0:t≠0:=by rw[hte];exact htop
 have HT:=Lib.hid hte;have HLB:=Lib.hid hLb;clear htop hte hLb;go_enter Tryz.func197,Tryz.ntmps197;go_wp2_with fail;refine (UN t _ ht0 htl).mono ?_;rintro e w' ⟨z,rfl,hz,HZ,rfl⟩;clear htc ht0 htl;have HN:=Ac (UO b j z HLB.out (by have:=HT.out;unfold limb;rw[<-this];exact HZ.out.1) (by have:=HT.out;unfold limb;rw[<-this];exact HZ.out.2) hz);go_wp2_with fail;refine (Iu A n c z 0 z _ w hx hc hm (by omega) (by omega) hz (by omega)).mono ?_
 rintro e w1 ⟨zr,rfl,hl1,hok1,hr1,hv1,hb1⟩;have hsz1:=hr1.lt;go_wp2_with fail;refine (Iu (some ⟨g0,o0,none⟩) (j+2) d z 0 z _ w1 (hy.below hb1) hd hmd (by omega) (by omega) hz (by omega)).mono ?_;rintro e w2 ⟨zb,rfl,hl2,hok2,hr2,hv2,hb2⟩;have hsz2:=hr2.lt;rw[Nat.mul_zero,Nat.zero_add,Limb.val_canon]at hv1 hv2;have hn2:=hr2.nums hok2 (o:=0) (n:=j+2+0+1) (by omega);rw[List.drop_zero,List.take_of_length_le (by omega)]at hn2
 have hdet:=BL (some ⟨w1.heap.size,0,none⟩) (j+2+0+1) (j+2+0+1) zb w2 hn2 (Nat.le_refl _) (by omega);have hcut:=BX w2 _ zb _ hn2;rw[hv2]at hdet hcut;have hbz:b*2^z≠0:=by intro h0;have h1:=HN.out.1;rw[h0]at h1;have:L 0=0:=rfl;omega
 rw[FJ _ hbz]at hcut;have hdet2:Calls Tryz.prog 146 #[.slice (some ⟨w1.heap.size,0,none⟩) (j+2+1) (j+2+1)] w2 (fun e w'=>e=.returned (.slice (some ⟨w1.heap.size,0,none⟩) (j+2) (j+2))/\w2=w'):=by refine hdet.mono ?_;rintro e w' ⟨rfl,rfl⟩;refine ⟨?_,rfl⟩;rw[FJ _ hbz,HN.out.1]
 have HCUT:Hid (Av w2 (some ⟨w1.heap.size,0,none⟩) (j+2) (Limb.canon (b*2^z))):=by have h1:=hcut.2.2.1;rw[HN.out.1]at h1;exact h1
 have HL1:=Lib.hid hl1;have HV1:=Lib.hid hv1;clear hl1 hv1 hl2 hv2 hcut hdet hn2 hok2 hr2;have hnm:n-(j+2)+1+(j+2)=n+1:=by omega
 have hr1':=hr1.below hb2 hsz1;have hb12:=hb1.next hb2;have HNM:=Lib.hid hnm;have hza:a*2^z<4294967296^n*2147483648:=by have h1:=hx.lt;rw[Limb.val_canon]at h1;have h2:(2:Nat)^z<=2147483648:=Nat.pow_le_pow_right (n:=2) (by omega) (show z<=31 by omega);exact Nat.lt_of_lt_of_le (Nat.mul_lt_mul_of_pos_right h1 (Nat.pow_pos (by omega))) (Nat.mul_le_mul_left _ h2)
 have HST:=Ac (R9 (a*2^z) (b*2^z) n (j+2) hjn (by omega) (by omega) HN.out.2.2 zr (by rw[HL1.out]) HV1.out hza);have hbp:b*2^z<4294967296^(j+2):=by have:=GC (b*2^z);rwa [HN.out.1]at this
 have HBP:=Ac hbp;have HB0:=Ac hbz;have hsz12:w.heap.size<w1.heap.size:=hsz1;have hsz22:w1.heap.size<w2.heap.size:=hsz2;clear hnm hza hbp hbz hr1 hb1 hb2 hsz1 hsz2 hx hy;go_wp2_with fail;refine hdet2.mono ?_;rintro e w' ⟨rfl,rfl⟩;clear hdet2;go_wp2_with (at_make;refine Bl _ rfl _ _ rfl _ (n-(j+2)+1) rfl rfl (by omega) (by omega) ?_;intro w3 hr3 hb3 hs3);have R:Hid (R7 w.heap.size w2.heap.size n (j+2) (a*2^z) (b*2^z) w (n-(j+2)+1) w3):=by refine ⟨zr,List.replicate (n-(j+2)+1) 0,HL1.out,by simp,hok1,Limb.Ok.replicate _,hr1'.below hb3 (by omega),hr3,hb12.next hb3,?_,HST.out⟩;rw[List.drop_of_length_le (by simp)];have:Limb.val ([]:List Nat)=0:=rfl;rw[this,Nat.zero_mul,Nat.mul_zero,Nat.add_zero];exact HV1.out
 have HCUT3:=Ac (HCUT.out.below hb3);have hb23:=hb12.next hb3;clear hr1' hr3 HST HCUT hb12 hok1 HV1 HL1;go_loopw [8] (fun i wr=>∃k:Nat,k<=n-(j+2)+1/\i=.int .i64 ((k:Int)-1)/\w2.heap.size<wr.heap.size/\Hid (Av wr (some ⟨w1.heap.size,0,none⟩) (j+2) (Limb.canon (b*2^z)))/\Hid (R7 w.heap.size w2.heap.size n (j+2) (a*2^z) (b*2^z) w k wr)) (fun i _=>((intOf i)+1).toNat)
 case atStart=>exact ⟨n-(j+2)+1,Nat.le_refl _,by go_num,hs3,HCUT3,R⟩
 case round=>
  clear R HCUT3 hb3 hs3 hb23;obtain ⟨k,hk,rfl,hsw,HY,R⟩:=hrel;obtain ⟨curR,curQ,hlR,hlQ,hoR,hoQ,hrR,hrQ,hB,hv,hlt⟩:=R.out;have HLR:=Lib.hid hlR;have HLQ:=Lib.hid hlQ;have HV:=Lib.hid hv;have HLT:=Ac hlt;clear hlR hlQ hv hlt R;rcases Nat.eq_zero_or_pos k with hk0|hk0
  · subst hk0;have HE:=Ac (UQ _ _ _ _ _ (Nat.pow_pos (by omega)) HV.out HLT.out);go_wp2_with fail;refine (BU w2.heap.size (n-(j+2)+1) _ (a/b) w.heap.size curQ wr hrQ hoQ (by rw[HLQ.out];exact Nat.le_refl _) (by omega) (by omega) (by omega) (by rw[List.take_of_length_le (by rw[HLQ.out];exact Nat.le_refl _),<-HE.out.1,List.drop_zero])).mono ?_;rintro e w' ⟨A',q',rfl,how,rfl⟩;have hnR:=hrR.nums hoR (o:=0) (n:=n+1) (by rw[HLR.out];omega)
    rw[List.drop_zero,List.take_of_length_le (by rw[HLR.out];exact Nat.le_refl _)]at hnR;go_wp2_with fail;refine (PX (some ⟨w.heap.size,0,none⟩) (n+1) (n+1) z 0 z curR wr hnR (Nat.le_refl _) (by omega) (by omega) (by omega) hz (by omega)).mono ?_;rintro e w5 ⟨A5,n5,rfl,o5,b5⟩;rw[Nat.mul_zero,Nat.zero_add,HE.out.2]at o5;go_wp2_with fail;go_ret2
    exact ⟨A',q',q',A5,n5,n5,rfl,how.below b5,o5.mono hB.size,hB.next b5⟩
  · obtain ⟨i,rfl⟩:∃i,k=i+1:=⟨k-1,by omega⟩;have e1:(((i+1:Nat):Int)-1)=(i:Int):=(by omega);rw[e1];clear e1 hk0;have hfit:=R8 (g1:=w.heap.size) (gq:=w2.heap.size) (a':=a*2^z) (w:=w) (wr:=wr) HLR.out hoR (show i+(j+2)<=n by omega) HBP.out HLT.out;have HF:=Ac hfit;clear hfit;have f1:(n+1=i)=False:=(by simp;omega);have hwin:i+(j+2)+1-i=j+3:=(by omega);have HWIN:=Lib.hid hwin;clear hwin;go_wp2_with fail;rw[HWIN.out]
    refine (LO w.heap.size i (n+1-i) j curR (some ⟨w1.heap.size,0,none⟩) (j+2) (Limb.canon (b*2^z)) wr hrR hoR (by rw[HLR.out];omega) (by omega) (by omega) HY.out (Nat.le_refl _) (by intro ad had;injection had with had;subst had;show w1.heap.size≠w.heap.size;omega) HN.out.2.1 (by rw[Limb.val_canon];exact HF.out.2)).mono ?_;rintro e w4 ⟨rfl,hr4,ho4⟩;rw[Limb.val_canon]at hr4;rw[Limb.val_canon];have hrQ4:=hrQ.grown ho4.gb (by intro h;injection h with h;omega)
    have hcQ:=hrQ4.cell (i:=i) (by rw[HLQ.out];omega);have hfQ:=hrQ4.frozen i;have hql:Limb.val (win curR i (j+3))/(b*2^z)<4294967296:=(Nat.div_lt_iff_lt_mul (Nat.pos_of_ne_zero HB0.out)).2 HF.out.2;have HY4:=HY.out.grown ho4.gb (by intro ad had;injection had with had;subst had;show w1.heap.size≠w.heap.size;omega);have hB4:Below w.heap.size w w4:=hB.trans (ho4.below hB.size (Nat.le_refl _));have hsz4:=ho4.size
    have HSTEP:=Ac (Tx (wr:=wr) HLR.out HLQ.out hoR hoQ (show i+(j+2)<=n by omega) (Nat.pos_of_ne_zero HB0.out) HBP.out HV.out HLT.out hql hr4 hrQ4 hB4 (by omega) (by omega));have HY5:=Ac (HY4.setCell ⟨w2.heap.size,i,none⟩ (.int .u32 ((Limb.val (win curR i (j+3))/(b*2^z):Nat):Int)) (by intro ad had;injection had with had;subst had;show w1.heap.size≠w2.heap.size;omega));clear HY4 hql hrR hrQ hr4 hrQ4 HF HWIN f1 HY;go_wp2_with fail;go_roundw
    case rel=>exact ⟨i,by omega,by go_num,by simp[World.setCell];omega,HY5,HSTEP⟩
    case measure=>simp[intOf]<;>omega
end
section
open Go.RowKit
open Limb (limb AQ upto upto_succ Az AC)
theorem Wb (a:Nat) (h:L a<=2):a/4294967296<4294967296:=by
 have h1:=Nat.lt_of_lt_of_le (GC a) (Limb.pow_mono h);have:(4294967296:Nat)^2=4294967296*4294967296:=by rfl
 rw[this]at h1;exact Nat.div_lt_of_lt_mul h1
theorem NX (x:Nat) (h0:x≠0) (h:x<4294967296):Limb.canon x=[x]:=by
 rw[Limb.canon_pos x h0];have e1:x%4294967296=x:=by omega
 have e2:x/4294967296=0:=by omega
 rw[e1,e2,Limb.canon_zero]
theorem GD (A B:Option Addr) (n c m d a b:Nat) (w:World) (hx:Av w A n (Limb.canon a)) (hc:n<=c) (hm:c<=9223372036854775807) (hy:Av w B m (Limb.canon b)) (hd:m<=d) (hmd:d<=9223372036854775807) (hn40:n<=549755813888) (hm40:m<=549755813888) (hb0:b≠0) :
   Calls Tryz.prog 153 #[.slice A n c,.slice B m d] w (Pk (a/b) (a%b) w):=by
 have hla:L a=n:=hx.len;have hlb:L b=m:=hy.len;have hm1:1<=m:=by
   rcases Nat.eq_zero_or_pos m with h|h
   · exact absurd ((Limb.canon_len_zero b).1 (by rw[h]at hlb;exact hlb)) hb0
   · exact h
 by_cases h1:n<m
 · have hab:a<b:=Limb.lt_of_len (by show L a<L b;omega);have H1:=Ac (Nat.div_eq_of_lt hab);have H2:=Ac (Nat.mod_eq_of_lt hab);clear hla hlb;go_enter Tryz.func153,Tryz.ntmps153;go_wp2_with fail;refine (EZ A n c _ w hx hc hm (by omega)).mono ?_;rintro e w1 ⟨A1,n1,rfl,o1,b1⟩;rw[Limb.val_canon]at o1;go_wp2_with fail;go_ret2
   exact ⟨none,0,0,A1,n1,n1,rfl,by rw[H1.out];exact Own.zero _ _ _ _ (by omega),by rw[H2.out];exact o1,b1⟩
 · by_cases h2:n<=2
   · have ha2:=Wb a (by omega);have hb2:=Wb b (by omega);have hqd:((a:Int))/(b:Int)=((a/b:Nat):Int):=(Int.natCast_ediv a b).symm;have hqm:((a:Int))%(b:Int)=((a%b:Nat):Int):=(Int.natCast_emod a b).symm;have HQD:=Lib.hid hqd;have HQM:=Lib.hid hqm;clear hqd hqm;have hl1:a/b/4294967296<4294967296:=Nat.lt_of_le_of_lt (Nat.div_le_div_right (Nat.div_le_self a b)) ha2;have hl2:a%b/4294967296<4294967296:=Nat.lt_of_le_of_lt (Nat.div_le_div_right (Nat.mod_le a b)) ha2
     have hb1:(1:Int)<=(b:Int):=(by omega);have hwr:IntKind.u64.wrap ((a:Int)/(b:Int))=(a:Int)/(b:Int):=by have e2:=Nat.div_le_self a b;have e3:a<=18446744073709551615:=(by omega);rw[HQD.out];generalize a/b=t at *;exact IntWalk.u64_in _ ⟨by omega,by omega⟩
     have htm:(a:Int).tmod (b:Int)=(a:Int)%(b:Int):=Int.tmod_eq_emod_of_nonneg (by omega);have hne:((b:Int)==0)=false:=(by simp;omega);clear hla hlb ha2 hb2;go_enter Tryz.func153,Tryz.ntmps153;go_wp2_with fail;refine (Hd A n c _ w hx h2).mono ?_;rintro e w' ⟨rfl,rfl⟩;rw[Limb.val_canon];go_wp2_with fail;refine (Hd B m d _ w hy (by omega)).mono ?_;rintro e w' ⟨rfl,rfl⟩;rw[Limb.val_canon];go_wp2_with fail;go_region_with (first
       |(go_at_call 101;(with_reducible refine (of_int ((a:Int)/(b:Int)) (a/b) _ HQD.out hl1).mono ?_);rintro e w1 ⟨A1,n1,rfl,o1,b1⟩)
       |(go_at_call 101;(with_reducible refine (of_int ((a:Int)%(b:Int)) (a%b) _ HQM.out hl2).mono ?_);rintro e w2 ⟨A2,n2,rfl,o2,b2⟩))
     go_wp2_with fail;go_ret2
     exact ⟨A1,n1,n1,A2,n2,n2,rfl,o1.below b2,o2.mono b1.size,(Below.refl w.heap.size w).drew.next (b1.next b2)⟩
   · have h2':2<n:=(by omega);by_cases h3:m=1
     · subst h3;have hbl:b<4294967296:=(by have:=GC b;rw[hlb,Nat.pow_one]at this;exact this);have hcb:Limb.canon b=[b]:=NX b hb0 hbl;obtain ⟨g0,o0,t,rfl,htl,hte,htc⟩:=hy.at_ (i:=0) (by omega);rw[hcb]at hte;have htb:t=b:=hte;subst htb;rw[Nat.add_zero]at htc;have hy2:=Ac hy;clear hcb hte hy hlb;go_enter Tryz.func153,Tryz.ntmps153;go_wp2_with fail;refine (EZ A n c _ w hx hc hm (by omega)).mono ?_;rintro e w1 ⟨A1,n1,rfl,o1,b1⟩;rw[Limb.val_canon]at o1
       have htc1:=cell_later b1 htc;have ha0:a≠0:=(by intro h;subst h;have:L 0=0:=rfl;omega);have hrow:=o1.trimRow.2 ha0;have hl1:n1=n:=(by rw[o1.len];exact hla);subst hl1;obtain ⟨g,zs,rfl,hg,hr1,hzok,hzl,hwin⟩:=hrow;have HW:=Lib.hid hwin;clear hwin hla htc o1;go_wp2_with fail;refine (LM g n1 n1 t zs w1 hr1 hzok hzl (by omega) (by omega) hbl).mono ?_;rintro e w2 ⟨rfl,hr2,ho2⟩;rw[HW.out,Limb.val_canon]at hr2;rw[HW.out,Limb.val_canon];go_wp2_with fail
       refine (BU g n1 _ (a/t) w.heap.size _ _ hr2 (DD hzok _ (Limb.fixed_ok _ _)) (by rw[AM _ _ _ (by rw[Limb.fixed_length];omega)];exact hzl) (Nat.le_refl _) (by omega) hg (by unfold put;rw[List.take_zero,List.nil_append,List.take_append_of_le_length (by rw[Limb.fixed_length];exact Nat.le_refl _),List.take_of_length_le (by rw[Limb.fixed_length];exact Nat.le_refl _),Limb.fixed_val,Nat.mod_eq_of_lt];have:=hx.lt;rw[Limb.val_canon]at this;exact Nat.lt_of_le_of_lt (Nat.div_le_self _ _) this)).mono ?_
       rintro e w' ⟨A',q',rfl,how,rfl⟩;go_wp2_with fail;have hwt:IntKind.u64.wrap ((a:Int)%(t:Int))=((a%t:Nat):Int):=by have e1:(a:Int)%(t:Int)=((a%t:Nat):Int):=(Int.natCast_emod a t).symm;have e2:=Nat.mod_lt a (Nat.pos_of_ne_zero hb0);rw[e1];generalize a%t=u at *;exact IntWalk.u64_in _ ⟨by omega,by omega⟩
       refine (of_int (IntKind.u64.wrap ((a:Int)%(t:Int))) (a%t) _ hwt (by have:=Nat.mod_lt a (Nat.pos_of_ne_zero hb0);omega)).mono ?_;clear hwt;rintro e w4 ⟨A4,n4,rfl,o4,b4⟩;go_wp2_with fail;go_ret2
       have hB2:Below w.heap.size w w2:=b1.trans (ho2.below b1.size hg);exact ⟨A',q',q',A4,n4,n4,rfl,how.below b4,o4.mono hB2.size,hB2.next b4⟩
     · obtain ⟨j,rfl⟩:∃j,m=j+2:=⟨m-2,by omega⟩;clear hla hlb h3;go_enter Tryz.func153,Tryz.ntmps153;go_wp2_with fail;refine (J4 A B n c j d a b w hx hc hm hy hd hmd hn40 (by omega)).mono ?_;rintro e w1 ⟨A1,n1,c1,B1,m1,d1,rfl,o1,o2,b1⟩;go_wp2_with fail;go_ret2
       exact ⟨A1,n1,c1,B1,m1,d1,rfl,o1,o2,b1⟩
end
end Go.Proofs.YtmedjkhmadfjlaaGreat
