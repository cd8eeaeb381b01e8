/- Texts of one seat, put together: Gcd RefDiv BitsAny ZMem Zint ZintB. -/
import Derived.Test.YtmedjkhmadfjlaaGreatR07
import Derived.Deep.LoopGhost
import Derived.Test.YtmedjkhmadfjlaaGreatR01
import Derived.Test.YtmedjkhmadfjlaaGreatR04
import Derived.Test.YtmedjkhmadfjlaaGreatR05
import Derived.Deep.RegionHeld3
set_option linter.unusedVariables false
set_option linter.unusedSimpArgs false
set_option maxRecDepth 100000
set_option maxHeartbeats 16000000
namespace Go.Proofs.YtmedjkhmadfjlaaGreat
section
open Go.RowKit
open Limb (limb AQ upto upto_succ Az AC)
def Vq (w:World) (e:Ending) (w':World):Prop:=e=.returned (.tuple #[.slice none 0 0,.slice none 0 0,.int .i64 10])/\w=w'
def NY (N M:Nat) (w:World) (e:Ending) (w':World):Prop:=
 ∃A n c B m d,e=.returned (.tuple #[.slice A n c,.slice B m d,.int .i64 0])/\Own w' w.heap.size A n c N/\Own w' w.heap.size B m d M/\Below w.heap.size w w'
theorem Ty (A B:Option Addr) (n c m d:Nat) (xs ys:List Nat) (w:World) (hx:Av w A n xs) (hc:n<=c) (hm:c<=9223372036854775807) (hn:n<=549755813888) (hy:Av w B m ys) (hd:m<=d) (hmd:d<=9223372036854775807) (hm4:m<=549755813888) (h0:Limb.val ys≠0) :
  Calls Tryz.prog 110 #[.slice A n c,.slice B m d] w (NY (Limb.val xs/Limb.val ys) (Limb.val xs%Limb.val ys) w):=by
 have hA:=BX w A xs n hx;have hB:=BX w B ys m hy;have h1:=hA.2.1;have h2:=hB.2.1;have hpos:((L (Limb.val ys):Int)==0)=false:=by
  have:L (Limb.val ys)≠0:=fun h=>h0 ((Limb.canon_len_zero _).1 h)
  simp;omega
 have H0:=Ac h0;clear h0;go_enter Tryz.func110,Tryz.ntmps110;go_wp2_with fail;refine (BL A n c xs w hx hc hm).mono ?_;rintro e w' ⟨rfl,rfl⟩;go_wp2_with fail;refine (BL B m d ys w hy hd hmd).mono ?_;rintro e w' ⟨rfl,rfl⟩;go_wp2_with fail;refine (GD _ _ (L (Limb.val xs)) (L (Limb.val xs)) (L (Limb.val ys)) (L (Limb.val ys)) _ _ w hA.2.2.1 (Nat.le_refl _) (by omega) hB.2.2.1 (Nat.le_refl _) (by omega) (by omega) (by omega) H0.out).mono ?_
 rintro e w1 ⟨A1,n1,c1,B1,m1,d1,rfl,o1,o2,b1⟩;go_wp2_with fail;go_ret3
 exact ⟨A1,n1,c1,B1,m1,d1,rfl,o1,o2,b1⟩
theorem RA (a:Nat) (h:L a<=2):a<=18446744073709551615:=by have:=Wb a h;omega
theorem Tz (A B:Option Addr) (n c m d:Nat) (xs ys:List Nat) (w:World) (hx:Av w A n xs) (hc:n<=c) (hm:c<=9223372036854775807) (hn:n<=549755813888) (hy:Av w B m ys) (hd:m<=d) (hmd:d<=9223372036854775807) (hm4:m<=549755813888) :
  Calls Tryz.prog 194 #[.slice A n c,.slice B m d] w (CO (Nat.gcd (Limb.val xs) (Limb.val ys)) w):=by
 have hA:=BX w A xs n hx;have hB:=BX w B ys m hy;have hdA:=BL A n c xs w hx hc hm;have hdB:=BL B m d ys w hy hd hmd;generalize Limb.val xs=a at *;generalize Limb.val ys=b at *;have h1:=hA.2.1;have h2:=hB.2.1;have hAN:=hA.2.2.1;have hBN:=hB.2.2.1;clear hA hB;go_enter Tryz.func194,Tryz.ntmps194;go_wp2_with fail;refine hdA.mono ?_;rintro e w' ⟨rfl,rfl⟩;go_wp2_with fail;refine hdB.mono ?_;rintro e w' ⟨rfl,rfl⟩;clear hdA hdB;go_wp2_with fail
 go_loopg [0,1] b (fun k va vb wr=>∃(x:Nat) (P Q:Option Addr) (p pc q qc:Nat),va=.slice P p pc/\vb=.slice Q q qc/\Av wr P p (Limb.canon x)/\Av wr Q q (Limb.canon k)/\p<=pc/\pc<=4611686018427387904/\q<=qc/\qc<=4611686018427387904/\p<=549755813888/\q<=549755813888/\Below w.heap.size w wr/\Hid (Nat.gcd x k=Nat.gcd a b))
 case atStart=>exact ⟨a,_,_,_,_,_,_,rfl,rfl,hAN,hBN,Nat.le_refl _,by omega,Nat.le_refl _,by omega,by omega,by omega,Below.refl _ _,rfl⟩
 case round=>
  clear hAN hBN;obtain ⟨x,P,Q,p,pc,q,qc,rfl,rfl,hP,hQ,hpc,hpc9,hqc,hqc9,hp4,hq4,hb,HG⟩:=hrel;have hlq:=hQ.len;have hlp:=hP.len;have HLQ:=Lib.hid hlq;have HLP:=Lib.hid hlp;clear hlq hlp;have hq0:0<q->gk≠0:=by intro h h0;have:=HLQ.out;rw[h0,Limb.canon_zero]at this;simp at this;omega
  have HQ0:=Ac hq0;clear hq0;by_cases hgo:(2<p/\0<q)\/2<q
  · have hqp:0<q:=(by omega);have hk:=HQ0.out hqp;have HK:=Ac hk;clear hk;have hml:=Nat.mod_lt x (Nat.pos_of_ne_zero HK.out);by_cases h2p:2<p
    · clear hgo;go_wp2_with fail;refine (GD P Q p pc q qc x gk wr hP hpc (by omega) hQ hqc (by omega) hp4 hq4 HK.out).mono ?_;rintro e w1 ⟨A1,n1,c1,B1,m1,d1,rfl,o1,o2,b1⟩;have lm:m1<=q:=(by rw[o2.len,<-HLQ.out];exact LK (Nat.le_of_lt hml));go_wp2_with fail;go_roundg (x%gk)
      case rel=>exact ⟨gk,Q,B1,q,qc,m1,d1,rfl,rfl,hQ.below b1,o2.nums,hqc,hqc9,o2.2.1,o2.2.2.1,hq4,by omega,hb.next b1,by show _=_;rw[<-HG.out,Nat.gcd_comm gk,<-Nat.gcd_rec,Nat.gcd_comm]⟩
      case measure=>exact hml
    · have h2q:2<q:=(by omega);clear hgo;go_wp2_with fail;refine (GD P Q p pc q qc x gk wr hP hpc (by omega) hQ hqc (by omega) hp4 hq4 HK.out).mono ?_;rintro e w1 ⟨A1,n1,c1,B1,m1,d1,rfl,o1,o2,b1⟩;have lm:m1<=q:=(by rw[o2.len,<-HLQ.out];exact LK (Nat.le_of_lt hml));go_wp2_with fail;go_roundg (x%gk)
      case rel=>exact ⟨gk,Q,B1,q,qc,m1,d1,rfl,rfl,hQ.below b1,o2.nums,hqc,hqc9,o2.2.1,o2.2.2.1,hq4,by omega,hb.next b1,by show _=_;rw[<-HG.out,Nat.gcd_comm gk,<-Nat.gcd_rec,Nat.gcd_comm]⟩
      case measure=>exact hml
  · by_cases hqz:q=0
    · subst hqz;have hk0:gk=0:=(Limb.canon_len_zero _).1 HLQ.out;subst hk0;have hgx:x=Nat.gcd a b:=(by rw[<-HG.out,Nat.gcd_zero_right]);have HGX:=Lib.hid hgx;clear hgo hgx;by_cases h2p:2<p
      · go_wp2_with fail;refine (EZ P p pc _ wr hP hpc (by omega) (by omega)).mono ?_;rintro e w1 ⟨A1,n1,rfl,o1,b1⟩;rw[Limb.val_canon,HGX.out]at o1;go_wp2_with fail;go_ret
        exact ⟨A1,n1,rfl,o1.mono hb.size,hb.next b1⟩
      · go_wp2_with fail;refine (EZ P p pc _ wr hP hpc (by omega) (by omega)).mono ?_;rintro e w1 ⟨A1,n1,rfl,o1,b1⟩;rw[Limb.val_canon,HGX.out]at o1;go_wp2_with fail;go_ret
        exact ⟨A1,n1,rfl,o1.mono hb.size,hb.next b1⟩
    · have hq2:q<=2:=(by omega);have hp2:p<=2:=(by omega);have hqp:0<q:=(by omega);have hqne:((q:Int)==0)=false:=(by simp;omega);have hgl:=HQ0.out hqp;have lx:=RA x (by show L x<=2;have:=HLP.out;unfold L;omega);have ly:=RA gk (by show L gk<=2;have:=HLQ.out;unfold L;omega);clear hgo hqz HQ0;have LX:=Ac lx;have LY:=Ac ly;clear lx ly hgl;obtain ⟨wo,rfl⟩:∃wo:World,wo=wr:=⟨_,rfl⟩;go_wp2_with fail;refine (Hd P p pc _ wo hP hp2).mono ?_;rintro e w' ⟨rfl,rfl⟩;rw[Limb.val_canon]
      go_wp2_with fail;refine (Hd Q q qc _ wo hQ hq2).mono ?_;rintro e w' ⟨rfl,rfl⟩;rw[Limb.val_canon];go_wp2_with fail;generalize gk=k0 at *;go_loopg [7,8] k0 (fun k va vb wr2=>∃y:Nat,va=.int .u64 (y:Int)/\vb=.int .u64 (k:Int)/\Hid (y<=18446744073709551615/\k<=18446744073709551615)/\Hid (Nat.gcd y k=Nat.gcd a b)/\∃z,wr2=wo.drewN z)
      case atStart=>exact ⟨x,rfl,rfl,⟨LX.out,LY.out⟩,HG.out,0,rfl⟩
      case round=>
        clear LX LY HG;obtain ⟨y,rfl,rfl,HB,HG,z,rfl⟩:=hrel;by_cases hk0:gk=0
        · subst hk0;have hgy:y=Nat.gcd a b:=(by rw[<-HG.out,Nat.gcd_zero_right]);have HGY:=Lib.hid hgy;clear hgy;have hyl:y/4294967296<4294967296:=(by have:=HB.out;omega);go_wp2_with fail;refine (Rm y _ hyl).mono ?_;rintro e w1 ⟨A1,n1,rfl,o1,b1⟩;rw[HGY.out]at o1;go_wp2_with fail;go_ret
          exact ⟨A1,n1,rfl,o1.mono hb.size,(below_drewN hb z).trans (b1.mono hb.size)⟩
        · have hkne:((gk:Int) != 0)=true:=(by simp;omega);have hk1:(1:Int)<=(gk:Int):=(by omega);have hk2:((gk:Int)==0)=false:=(by simp;omega);have hml:=Nat.mod_lt y (Nat.pos_of_ne_zero hk0);have hmi:(y:Int)%(gk:Int)=((y%gk:Nat):Int):=(Int.natCast_emod y gk).symm;have hwr:IntKind.u64.wrap ((y:Int)%(gk:Int))=(y:Int)%(gk:Int):=by
           have:=HB.out;rw[hmi];generalize y%gk=u at *;exact IntWalk.u64_in _ ⟨by omega,by omega⟩
          have htm:(y:Int).tmod (gk:Int)=(y:Int)%(gk:Int):=Int.tmod_eq_emod_of_nonneg (by omega);have HMI:=Lib.hid hmi;have HML:=Ac hml;clear hmi hml hk0;go_wp2_with fail;go_quiet (fail)
          go_wp2_with fail;go_roundg (y%gk)
          case rel=>exact ⟨gk,rfl,by rw[HMI.out],⟨HB.out.2,by have:=HML.out;have:=HB.out;omega⟩,by show _=_;rw[<-HG.out,Nat.gcd_comm gk,<-Nat.gcd_rec,Nat.gcd_comm],by simp only[World.drewN_drewN];exact ⟨_,rfl⟩⟩
          case measure=>exact HML.out
end
section
open Go.RowKit
def PY (N:Nat) (w:World) (e:Ending) (w':World):Prop:=e=.returned (.int .i64 ((Limb.bl N:Nat):Int))/\Below w.heap.size w w'
theorem Lj (N k:Nat) (h:(Limb.canon N).length=k+1):0<Limb.limb (Limb.canon N) k:=by
 have hne:Limb.canon N≠[]:=fun h0=>by rw[h0]at h;cases h
 have ht:=Limb.tight_canon N hne;rw[List.getLast_eq_getElem]at ht;unfold Limb.limb;rw[List.getD_eq_getElem?_getD,List.getElem?_eq_getElem (by omega)];have e:(Limb.canon N).length-1=k:=by omega
 simp only[e]at ht;exact Nat.pos_of_ne_zero ht
theorem PZ (A:Option Addr) (n c:Nat) (xs:List Nat) (w:World) (hx:Av w A n xs) (hn:n<=1099511627776) :
   Calls Tryz.prog 176 #[.slice A n c] w (PY (Limb.val xs) w):=by
 generalize ha:Limb.val xs=N;have HA:=Lib.hid ha;clear ha;go_enter Tryz.func176,Tryz.ntmps176;go_wp2_with fail;refine (Cf A n c xs w hx (by omega)).mono ?_;rintro e w1 ⟨A1,n1,c1,rfl,o1,l1,m1,b1⟩;rw[HA.out]at o1;have hl:n1<=n:=by have h1:=hx.lt;rw[HA.out]at h1;exact AS o1 h1
 have hlen:=Ac o1.len;rcases Nat.eq_zero_or_pos n1 with h0|h0
 · subst h0;have hN:Hid (N=0):=Ac ((Limb.canon_len_zero N).1 hlen.out);go_wp2_with fail;go_ret
   exact ⟨by rw[hN.out];rfl,b1⟩
 · obtain ⟨k,hk⟩:∃k,n1=k+1:=⟨n1-1,by omega⟩;subst hk;obtain ⟨b,o,x,rfl,hx32,hxe,hcell⟩:=o1.at_ (i:=k) (by omega);have hx0:=Lj N k hlen.out;have hbl:=Limb.bl_limbs (Limb.canon N) k (Limb.ok_canon N) hlen.out hx0;rw[Limb.val_canon]at hbl;have e1:Limb.limb (Limb.canon N) k=x:=hxe.symm;rw[e1]at hbl hx0;have HB:=Ac hbl;have HBN:=Ac (show Limb.bl N<=32*k+32 by have:=Limb.bl_le x 32 hx32;omega);clear hbl e1 hxe;go_wp2_with fail
   go_loopw [4,5] (fun p t wr=>∃q u:Nat,u<4294967296/\p=.int .i64 (q:Int)/\t=.int .u32 (u:Int)/\q<=70368744177664/\Hid (Limb.bl N=q+Limb.bl u)/\wr=w1) (fun _ t _=>(intOf t).toNat)
   case atStart=>exact ⟨32*k,x,hx32,by go_num,rfl,by omega,HB,rfl⟩
   case round=>
    obtain ⟨q,u,hu,rfl,rfl,hq,HQ,rfl⟩:=hrel;by_cases hu0:0<u
    · go_wp2_with fail;go_roundw
      case rel=>exact ⟨q+1,u/2,by omega,by go_num,by go_num,by have h1:=HQ.out;have h2:=HBN.out;rw[Limb.bl_half u hu0]at h1;omega,Ac (by rw[HQ.out,Limb.bl_half u hu0];omega),trivial⟩
      case measure=>simp[intOf];omega
    · obtain rfl:u=0:=(by omega);go_wp2_with fail;go_ret
      exact ⟨by rw[HQ.out];rfl,b1⟩
theorem RB (A:Option Addr) (n c:Nat) (xs:List Nat) (i:Nat) (w:World) (hx:Av w A n xs) (hn:n<=1099511627776) (hi:i<=9223372036854775807) :
   Calls Tryz.prog 178 #[.slice A n c,.int .i64 (i:Int)] w (Ju (decide (Limb.val xs/2^i%2=1)) w):=by
 by_cases hin:i<32*n
 · obtain ⟨b,o,x,rfl,hx32,hxe,hcell⟩:=hx.at_ (i:=i/32) (by omega);have hd:=Limb.digit xs hx.ok i;have e1:Limb.limb xs (i/32)=x:=hxe.symm;rw[e1]at hd;have HD:=Ac hd;clear hd e1 hxe;obtain ⟨j,s,hs,hij⟩:∃j s:Nat,s<32/\i=32*j+s:=⟨i/32,i%32,by omega,by omega⟩;subst hij;have hj:(32*j+s)/32=j:=(by omega);have hsm:(32*j+s)%32=s:=(by omega);rw[hsm]at HD;clear hj hsm;go_enter Tryz.func178,Tryz.ntmps178;go_wp2_with fail
   go_loopw [5,6] (fun v i wr=>∃k y:Nat,k<=s/\y<4294967296/\i=.int .i64 (k:Int)/\v=.int .u32 (y:Int)/\Hid (y=x/2^k)/\∃q,wr=w.drewN q) (fun _ i _=>s-(intOf i).toNat)
   case atStart=>exact ⟨0,x,Nat.zero_le _,hx32,rfl,rfl,Ac (by simp),0,rfl⟩
   case round=>
    obtain ⟨k,y,hk,hy,rfl,rfl,HY,q,rfl⟩:=hrel;by_cases hks:k<s
    · go_wp2_with fail;go_roundw
      case rel=>exact ⟨k+1,y/2,by omega,by omega,by go_num,by go_num,Ac (by rw[HY.out,Nat.pow_succ,Nat.div_div_eq_div_mul]),q,rfl⟩
      case measure=>simp[intOf];omega
    · obtain rfl:k=s:=(by omega);go_wp2_with fail;go_ret
      refine ⟨?_,q,rfl⟩;rw[<-HD.out,<-HY.out];have e:((y:Int)%2==1)=decide (y%2=1):=by
       by_cases h1:y%2=1
       · simp[h1];omega
       · simp[h1];omega
      show Ending.returned (.bool ((y:Int)%2==1))=_;rw[e]
 · have hz:Limb.val xs/2^i=0:=by
    refine Nat.div_eq_of_lt (Nat.lt_of_lt_of_le hx.lt ?_);rw[Limb.two_pow32];exact Nat.pow_le_pow_right (by omega) (by omega)
   have hf:decide (Limb.val xs/2^i%2=1)=false:=(by rw[hz];rfl);have HF:=Ac hf;clear hf hz;go_enter Tryz.func178,Tryz.ntmps178;go_wp2_with fail;all_goals try (exfalso;omega)
   go_ret
   exact ⟨by rw[HF.out];rfl,0,rfl⟩
def MH (b:Bool):Nat:=if b then 1 else 0
theorem GE (A:Option Addr) (n c:Nat) (xs:List Nat) (b:Bool) (w:World) (hx:Av w A n xs) (hc:n<=c) (hm:c<=9223372036854775807) (hn:n<=1099511627) :
  Calls Tryz.prog 177 #[.slice A n c,.bool b] w (Ge (2*Limb.val xs+MH b) w):=by
 generalize ha:Limb.val xs=N;have HA:=Lib.hid ha;clear ha;cases b with
 |false=>
  go_enter Tryz.func177,Tryz.ntmps177;go_wp2_with fail;refine (Ia A n c xs 2 w hx (by omega) (by omega)).mono ?_;rintro e w1 ⟨A1,n1,c1,rfl,o1,l1,m1,b1⟩;go_wp2_with fail;go_ret
  exact ⟨A1,n1,c1,rfl,by rw[HA.out,Nat.mul_comm]at o1;exact o1,l1,m1,b1⟩
 |true=>
  go_enter Tryz.func177,Tryz.ntmps177;go_wp2_with fail;refine (Ia A n c xs 2 w hx (by omega) (by omega)).mono ?_;rintro e w1 ⟨A1,n1,c1,rfl,o1,l1,m1,b1⟩;rw[HA.out,Nat.mul_comm]at o1;have hl:n1<=n+1:=by have h1:=hx.lt;rw[HA.out]at h1;exact AS o1 (by rw[Nat.pow_succ];omega)
  have x1:=Vw w1 1 1 #[.int .u32 1] rfl (by omega) (by omega) rfl;have ba:=Af w1 (.cells #[.int .u32 1] 122);go_wp2_with fail;refine (FM A1 (some ⟨w1.heap.size,0,none⟩) n1 c1 1 1 _ _ _ (o1.below ba) x1 (by omega) (by omega)).mono ?_;rintro e w2 ⟨A2,n2,c2,rfl,o2,l2,m2,b2⟩;rw[Limb.val_canon,Limb.val_canon]at o2;go_wp2_with fail;go_ret
  exact ⟨A2,n2,c2,rfl,o2,l2,m2,(b1.next ba).next b2⟩
end
section
open Go.RowKit
open Limb (limb AQ upto upto_succ Az AC)
theorem Qa (x:Nat) (h0:x≠0) (h:x<4294967296):Lib.bitLen x=Limb.bl x:=by obtain ⟨h1,h2,h3,h4⟩:=Li x h0 h;have:=Limb.bl_spec x (Lib.bitLen x-1) h3 (by rw[Nat.sub_add_cancel h1];exact h4);omega
def MI (N:Nat) (w:World) (e:Ending) (w':World):Prop:=e=.returned (.int .i64 ((Limb.bl N:Nat):Int))/\w=w'
def Qb (x:Nat) (w:World) (e:Ending) (w':World):Prop:=e=.returned (.int .i64 ((Limb.bl x:Nat):Int))/\w=w'
theorem Qc (x:Nat) (w:World) (h0:x≠0) (h:x<4294967296):Calls Tryz.prog 129 #[.int .u32 (x:Int)] w (Qb x w):=by refine (Tryz.bits_Len32 (x:Int) w (by omega) (by omega)).mono ?_;rintro e w' ⟨rfl,rfl⟩;rw[Int.toNat_natCast,Qa x h0 h];exact ⟨rfl,rfl⟩
theorem RD (A:Option Addr) (n c:Nat) (xs:List Nat) (w:World) (hx:Av w A n xs) (hc:n<=c) (hm:c<=9223372036854775807) (hb:n<=1099511627776) :
   Calls Tryz.prog 111 #[.slice A n c] w (MI (Limb.val xs) w):=by
 have hcut:=BX w A xs n hx;have hdet:=BL A n c xs w hx hc hm;generalize Limb.val xs=a at *;obtain ⟨-,hle,hN,-⟩:=hcut;unfold E7 at hdet;rcases Nat.eq_zero_or_pos (L a) with h0|h0
 · have ha:Hid (a=0):=Ac ((Limb.canon_len_zero a).1 h0);rw[h0]at hdet;clear h0 hN hle;go_enter Tryz.func111,Tryz.ntmps111;go_wp2_with fail;refine hdet.mono ?_;rintro e w' ⟨rfl,rfl⟩;go_wp2_with fail;go_ret
   exact ⟨by rw[ha.out];rfl,rfl⟩
 · obtain ⟨k,hk⟩:∃k,L a=k+1:=⟨L a-1,by omega⟩;rw[hk]at hdet hle hN;have hk2:(Limb.canon a).length=k+1:=hk;obtain ⟨b,o,x,hA,hx32,hxe,hcell⟩:=hN.at_ (i:=k) (by omega);have hx0:=Lj a k hk2;have hbl:=Limb.bl_limbs (Limb.canon a) k (Limb.ok_canon a) hk2 hx0;rw[Limb.val_canon]at hbl;have e1:Limb.limb (Limb.canon a) k=x:=hxe.symm;rw[e1]at hbl hx0;have HB:=Ac hbl;have hblx:=Limb.bl_le x 32 hx32;rw[hA]at hdet;clear hbl e1 hxe hA hk hk2 hN h0;go_enter Tryz.func111,Tryz.ntmps111
   go_wp2_with fail;refine hdet.mono ?_;rintro e w' ⟨rfl,rfl⟩;go_wp2_with fail;refine (Qc x _ (by omega) hx32).mono ?_;rintro e w' ⟨rfl,rfl⟩;go_wp2_with fail;go_ret
   exact ⟨by rw[HB.out];go_num,rfl⟩
theorem EC {w:World} {base:Nat} {A:Option Addr} {n c N:Nat} (o:Own w base A n c N):n<=4611686018427387904:=by have:=o.2.1;have:=o.2.2.1;omega
def Vz (N:Nat) (w:World) (e:Ending) (w':World):Prop:=∃A n,e=.returned (.tuple #[.slice A n n,.int .i64 0])/\Own w' w.heap.size A n n N/\Below w.heap.size w w'
def VO (k:Int) (w:World) (e:Ending) (w':World):Prop:=e=.returned (.tuple #[.slice none 0 0,.int .i64 k])/\w=w'
def UR (N:Nat) (w:World) (e:Ending) (w':World):Prop:=∃A n c,e=.returned (.tuple #[.slice A n c,.int .i64 0])/\Av w' A n (Limb.canon N)/\n<=c/\c<=9223372036854775807/\Below w.heap.size w w'
end
section
open Go.RowKit
def AH (w:World) (g:Nat) (cs:Array Value):Prop:=w.heap[g]?=some (.cells cs 38 (0,0))
theorem AH.lt {w:World} {g:Nat} {cs:Array Value} (h:AH w g cs):g<w.heap.size:=by
 rcases Nat.lt_or_ge g w.heap.size with hlt|hge
 · exact hlt
 · unfold AH at h;rw[Array.getElem?_eq_none hge]at h;cases h
theorem AH.c0 {w:World} {g:Nat} {x y:Value} (h:AH w g #[x,y]):w.cell? ⟨g,0,none⟩=some x:=by rw[cell_of_row w g 0 _ _ _ h];rfl
theorem AH.c1 {w:World} {g:Nat} {x y:Value} (h:AH w g #[x,y]):w.cell? ⟨g,1,none⟩=some y:=by rw[cell_of_row w g 1 _ _ _ h];rfl
theorem AH.fr {w:World} {g:Nat} {cs:Array Value} (h:AH w g cs) (i:Nat):w.frozen? ⟨g,i,none⟩=false:=by unfold AH at h;simp[World.frozen?,h]
theorem AH.below {w w':World} {g B:Nat} {cs:Array Value} (h:AH w g cs) (hb:Below B w w') (hg:g<B):AH w' g cs:=(hb.block g hg).trans h
theorem AH.next {w w':World} {g:Nat} {cs:Array Value} (h:AH w g cs) (hb:Below w.heap.size w w'):AH w' g cs:=h.below hb h.lt
theorem AH.new (w:World) (cs:Array Value):AH (w.alloc (.cells cs 38)) w.heap.size cs:=heap_alloc_new w _
theorem AH.alloc {w:World} {g:Nat} {cs:Array Value} (h:AH w g cs) (o:Obj):AH (w.alloc o) g cs:=h.next (Af w o)
theorem AH.drew {w:World} {g:Nat} {cs:Array Value} (h:AH w g cs):AH w.drew g cs:=h
theorem AH.other {w w':World} {g r:Nat} {cs:Array Value} (h:AH w g cs) (ho:AA r w w') (hne:g≠r):AH w' g cs:=
 (ho.block g h.lt (fun hh=>hne (by injection hh))).trans h
theorem size_alloc (w:World) (o:Obj):(w.alloc o).heap.size=w.heap.size+1:=by show (w.heap.push o).size=_;simp
theorem DW (w:World) (X:Array Value):AH (w.alloc (.cells X 38)) w.heap.size X/\Below w.heap.size w (w.alloc (.cells X 38))/\(w.alloc (.cells X 38)).heap.size=w.heap.size+1:=
 ⟨AH.new w X,Af w _,size_alloc w _⟩
theorem Dv (w:World) (X Y:Array Value):AH ((w.alloc (.cells X 38)).alloc (.cells Y 38)) w.heap.size X/\AH ((w.alloc (.cells X 38)).alloc (.cells Y 38)) (w.heap.size+1) Y /\
  Below w.heap.size w ((w.alloc (.cells X 38)).alloc (.cells Y 38))/\((w.alloc (.cells X 38)).alloc (.cells Y 38)).heap.size=w.heap.size+2:=by
 obtain ⟨h1,h2,h3⟩:=DW w X;obtain ⟨k1,k2,k3⟩:=DW (w.alloc (.cells X 38)) Y;rw[h3]at k1 k3;exact ⟨h1.alloc _,k1,h2.next (Af _ _),by omega⟩
theorem Db (w:World) (X Y Z:Array Value):AH (((w.alloc (.cells X 38)).alloc (.cells Y 38)).alloc (.cells Z 38)) w.heap.size X/\AH (((w.alloc (.cells X 38)).alloc (.cells Y 38)).alloc (.cells Z 38)) (w.heap.size+1) Y /\
  AH (((w.alloc (.cells X 38)).alloc (.cells Y 38)).alloc (.cells Z 38)) (w.heap.size+1+1) Z /\
  Below w.heap.size w (((w.alloc (.cells X 38)).alloc (.cells Y 38)).alloc (.cells Z 38))/\(((w.alloc (.cells X 38)).alloc (.cells Y 38)).alloc (.cells Z 38)).heap.size=w.heap.size+3:=by
 obtain ⟨h1,h2,h3,h4⟩:=Dv w X Y;obtain ⟨k1,k2,k3⟩:=DW ((w.alloc (.cells X 38)).alloc (.cells Y 38)) Z;rw[h4]at k1 k3;have e2:w.heap.size+2=w.heap.size+1+1:=rfl;rw[e2]at k1;exact ⟨h1.alloc _,h2.alloc _,k1,h3.next (Af _ _),by omega⟩
theorem An {w:World} {ops:Array Oper} {rest:List Oper} {o:Oper} {a:Act} {Q:Exit->Act->World->Prop} (hgd:o.guard=none) (x y:Operand) (ho:o.op=.store 38 x y)
  (g:Nat) (s:Bool) (A:Option Addr) (n c:Nat) (hx:a.eval x=.pointer (some ⟨g,0,none⟩)) (hy:a.eval y=.agg #[.bool s,.slice A n c]) (u v:Value) (hb:AH w g #[u,v])
  (h:∀w',AH w' g #[.bool s,.slice A n c]->AA g w w'->wpList Tryz.prog ops Q rest (a.put o.dst undef) w'):wpList Tryz.prog ops Q (o::rest) a w:=by
 refine wpList_store_row hgd 38 x y ho g #[.bool s,.slice A n c] hx hy 38 #[u,v] hb (by kernel_rfl) rfl (by simp[Value.oneCell']) ?_;refine h _ ?_ (Dl w g _);have:=setRow_heap w g #[u,v] #[.bool s,.slice A n c] _ _ hb;exact this
theorem AH.set2 {w:World} {g:Nat} {u v:Value} (h:AH w g #[u,v]) (x y:Value):AH ((w.setCell ⟨g,0,none⟩ x).setCell ⟨g,1,none⟩ y) g #[x,y]:=by unfold AH at h ⊢;simp[World.setCell,Array.getElem?_modify,h]
theorem AD (w:World) (g:Nat) (x y:Value):AA g w ((w.setCell ⟨g,0,none⟩ x).setCell ⟨g,1,none⟩ y):=((AA.refl g w).setCell 0 x).setCell 1 y
theorem Ay {fn:Func} {R:Ending->World->Prop} {a:Act} {w:World} {g p:Nat} {x y:Value} (hres:fn.results=#[.cell p 38]) (hp:a.tmps.getD p undef=.pointer (some ⟨g,0,none⟩))
  (hb:AH w g #[x,y]) (hd:a.defers=[]) (hR:R (.returned (.agg #[x,y])) w):bodyPost Tryz.prog fn R .ret a w:=
 bodyPost_ret (results_cell_row hres _ _ g _ #[x,y] _ _ hp hb Tryz.underlying38 rfl (by kernel_rfl)) hd hR
theorem Av.offBlk {w:World} {A:Option Addr} {n g:Nat} {xs:List Nat} {s:Bool} {B:Option Addr} {m d:Nat} (h:Av w A n xs) (hb:AH w g #[.bool s,.slice B m d]):0<n->Apart A g:=by
 intro hn ad had he;obtain ⟨b,o,e,hc⟩:=h.2.2 hn;have h0:=hc 0 hn;rw[had]at e;injection e with e
 subst e;have he':b=g:=he;subst he';rw[cell_of_row w b _ _ _ _ hb]at h0;match o,h0 with
 |0,h0=>simp at h0
 |1,h0=>simp at h0
 |o+2,h0=>simp at h0
theorem Av.keepBlk {w w':World} {A:Option Addr} {n g:Nat} {xs:List Nat} {s:Bool} {B:Option Addr} {m d:Nat} (h:Av w A n xs) (hb:AH w g #[.bool s,.slice B m d]) (ho:AA g w w'):Av w' A n xs:=h.grown' ho (h.offBlk hb)
end
section
open Go.RowKit
open Limb (limb AQ upto upto_succ Az AC)
def sg (s:Bool) (n:Nat):Int:=if s then -(n:Int) else (n:Int)
theorem DX (n:Nat):sg true n=-(n:Int):=rfl
theorem DZ (n:Nat):sg false n=(n:Int):=rfl
theorem CP (s:Bool) (n:Nat):(sg s n).natAbs=n:=by cases s<;>simp[sg]
theorem Gf (s:Bool):sg s 0=0:=by cases s<;>rfl
theorem MJ (Z:Int):sg (decide (Z<0)) Z.natAbs=Z:=by
 by_cases h:Z<0
 · simp[h,sg];omega
 · simp[h,sg];omega
theorem RE (s:Bool) (n:Nat) (h:0<n):decide (sg s n<0)=s:=by cases s<;>simp[sg]<;>omega
def BO (w:World) (v:Value) (Z:Int) (k:Nat):Prop:=∃s A n c xs,v=.agg #[.bool s,.slice A n c]/\Av w A n xs/\n<=c/\c<=9223372036854775807/\n<=k/\Z=sg s (Limb.val xs)
def Au (w:World) (v:Value) (Z:Int) (k:Nat):Prop:=∃A n c,v=.agg #[.bool (decide (Z<0)),.slice A n c]/\Av w A n (Limb.canon Z.natAbs)/\n<=c/\c<=9223372036854775807/\n<=k
theorem Au.form {w:World} {v:Value} {Z:Int} {k:Nat} (h:Au w v Z k):∃s A n c,v=.agg #[.bool s,.slice A n c]:=by obtain ⟨A,n,c,rfl,_⟩:=h;exact ⟨_,A,n,c,rfl⟩
theorem Au.in_ {w:World} {v:Value} {Z:Int} {k:Nat} (h:Au w v Z k):BO w v Z k:=by obtain ⟨A,n,c,rfl,h1,h2,h3,h4⟩:=h;exact ⟨_,A,n,c,_,rfl,h1,h2,h3,h4,by rw[Limb.val_canon,MJ]⟩
theorem BO.below {w w':World} {v:Value} {Z:Int} {k:Nat} (h:BO w v Z k) (hb:Below w.heap.size w w'):BO w' v Z k:=by obtain ⟨s,A,n,c,xs,rfl,h1,h2,h3,h4,h5⟩:=h;exact ⟨s,A,n,c,xs,rfl,h1.below hb,h2,h3,h4,h5⟩
theorem Au.below {w w':World} {v:Value} {Z:Int} {k:Nat} (h:Au w v Z k) (hb:Below w.heap.size w w'):Au w' v Z k:=by obtain ⟨A,n,c,rfl,h1,h2,h3,h4⟩:=h;exact ⟨A,n,c,rfl,h1.below hb,h2,h3,h4⟩
theorem BO.mono {w:World} {v:Value} {Z:Int} {k j:Nat} (h:BO w v Z k) (hj:k<=j):BO w v Z j:=by obtain ⟨s,A,n,c,xs,rfl,h1,h2,h3,h4,h5⟩:=h;exact ⟨s,A,n,c,xs,rfl,h1,h2,h3,by omega,h5⟩
theorem BO.lt {w:World} {v:Value} {Z:Int} {k:Nat} (h:BO w v Z k):Z.natAbs<4294967296^k:=by obtain ⟨s,A,n,c,xs,rfl,h1,h2,h3,h4,rfl⟩:=h;rw[CP];exact Nat.lt_of_lt_of_le h1.lt (Limb.pow_mono h4)
theorem Au.short {w:World} {v:Value} {Z:Int} {k j:Nat} (h:Au w v Z k) (hj:Z.natAbs<4294967296^j):Au w v Z j:=by obtain ⟨A,n,c,rfl,h1,h2,h3,h4⟩:=h;exact ⟨A,n,c,rfl,h1,h2,h3,AS h1 hj⟩
theorem Au.only {w w':World} {v:Value} {Z:Int} {k g:Nat} {s:Bool} {B:Option Addr} {m d:Nat} (h:Au w v Z k) (hb:AH w g #[.bool s,.slice B m d]) (ho:AA g w w'):Au w' v Z k:=by obtain ⟨A,n,c,rfl,h1,h2,h3,h4⟩:=h;exact ⟨A,n,c,rfl,h1.keepBlk hb ho,h2,h3,h4⟩
theorem Au.zero (w:World) (k:Nat):Au w (.agg #[.bool false,.slice none 0 0]) 0 k:=⟨none,0,0,rfl,Av.nil _ _,by omega,by omega,by omega⟩
theorem Au.ofEq {w:World} {v:Value} {Z Y:Int} {k:Nat} (h:Au w v Z k) (e:Z=Y):Au w v Y k:=e▸h
def Cn (Z:Int) (k:Nat) (w:World) (e:Ending) (w':World):Prop:=∃v,e=.returned v/\Au w' v Z k/\Below w.heap.size w w'
def NZ (s:Bool) (A:Option Addr) (n c N:Nat) (w:World) (e:Ending) (w':World):Prop:=e=.returned (.agg #[.bool (decide (sg s N<0)),.slice A n c])/\Below w.heap.size w w'
theorem Bo (s:Bool) (A:Option Addr) (n c N:Nat) (w:World) (hn:n=(Limb.canon N).length) (hm:n<=9223372036854775807) :
   Calls Tryz.prog 100 #[.bool s,.slice A n c] w (NZ s A n c N w):=by
 by_cases h0:N=0
 · subst h0;obtain rfl:n=0:=hn;cases s with
   |true=>
    go_enter Tryz.func100,Tryz.ntmps100;go_wp2_with fail;refine Ay rfl rfl (AH.new _ _) rfl ?_;exact ⟨rfl,Af _ _⟩
   |false=>
    go_enter Tryz.func100,Tryz.ntmps100;go_wp2_with fail;refine Ay rfl rfl (AH.new _ _) rfl ?_;exact ⟨rfl,Af _ _⟩
 · have hp:0<n:=by
    rcases Nat.eq_zero_or_pos n with h|h
    · exact absurd ((Limb.canon_len_zero N).1 (by omega)) h0
    · exact h
   have hs:=Ac (RE s N (Nat.pos_of_ne_zero h0));clear hn h0;cases s with
   |true=>
    go_enter Tryz.func100,Tryz.ntmps100;go_wp2_with fail;refine Ay rfl rfl (AH.new _ _) rfl ?_;exact ⟨by rw[hs.out],Af _ _⟩
   |false=> go_enter Tryz.func100,Tryz.ntmps100;go_wp2_with fail;refine Ay rfl rfl (AH.new _ _) rfl ?_;exact ⟨by rw[hs.out],Af _ _⟩
theorem AE {w w1 w2:World} {g:Nat} (h1:Below w.heap.size w w1) (hg:w.heap.size<=g) (ho:AA g w1 w2):Below w.heap.size w w2:=h1.trans (ho.below h1.size hg)
theorem Ch {w:World} {base:Nat} {A:Option Addr} {n c N k:Nat} {s:Bool} (o:Own w base A n c N) (hN:N<4294967296^k):Au w (.agg #[.bool (decide (sg s N<0)),.slice A n c]) (sg s N) k:=by have:=o.2.2.1;exact ⟨A,n,c,rfl,by rw[CP];exact o.nums,o.2.1,by omega,AS o.nums hN⟩
theorem Fb (s:Bool) (A:Option Addr) (n c k:Nat) (xs:List Nat) (w:World) (hx:Av w A n xs) (hc:n<=c) (hm:c<=9223372036854775807) (hk:n<=k) (hb:k<=1099511627776) :
  Calls Tryz.prog 112 #[.bool s,.slice A n c] w (Cn (sg s (Limb.val xs)) k w):=by
 obtain ⟨z1,z2,z3⟩:=DW w #[.bool false,.slice none 0 0];have hlt:=Ac (Nat.lt_of_lt_of_le hx.lt (Limb.pow_mono hk));go_enter Tryz.func112,Tryz.ntmps112;go_wp2_with fail;refine (EZ A n c xs _ (hx.below z2) hc hm (by omega)).mono ?_;rintro e w1 ⟨A1,n1,rfl,o1,b1⟩;have l1:=EC o1;have k1:=z1.next b1;go_wp2_with fail;refine (Bo s A1 n1 n1 (Limb.val xs) w1 o1.len (by omega)).mono ?_;rintro e w2 ⟨rfl,b2⟩;have k2:=k1.next b2;have r2:=(Ch (s:=s) o1 hlt.out).below b2
 go_wp2_with (with_reducible refine An rfl _ _ rfl w.heap.size _ _ _ _ rfl rfl _ _ k2 ?_;intro w3 k3 ho3);refine Ay rfl rfl k3 rfl ?_;exact ⟨_,rfl,r2.only k2 ho3,AE ((z2.next b1).next b2) (Nat.le_refl _) ho3⟩
def CJ (Z:Int) (w:World) (e:Ending) (w':World):Prop:=e=.returned (.int .i64 Z.sign)/\Below w.heap.size w w'
theorem Ef (v:Value) (Z:Int) (k:Nat) (w:World) (hv:BO w v Z k) (hk:k<=1099511627776):Calls Tryz.prog 64 #[v] w (CJ Z w):=by
 obtain ⟨s,A,n,c,xs,rfl,hx,hc,hm,hn,rfl⟩:=hv;obtain ⟨z1,z2,z3⟩:=DW w #[.bool s,.slice A n c];have hbits:=RD A n c xs _ (hx.below z2) hc hm (by omega);unfold MI at hbits;generalize Limb.val xs=N at *;by_cases h0:N=0
 · subst h0;rw[show Limb.bl 0=0 from rfl]at hbits;rw[Gf];go_enter Tryz.func64,Tryz.ntmps64;go_wp2_with fail;refine hbits.mono ?_;rintro e w' ⟨rfl,rfl⟩;go_wp2_with fail;go_ret
   exact ⟨rfl,z2⟩
 · have h1:((Limb.bl N:Int)==0)=false:=by
    have:=mt (Limb.bl_eq_zero N).1 h0;simp;omega
   generalize Limb.bl N=q at *;cases s with
   |true=>
    have hs:Hid (Int.sign (sg true N)=-1):=(by show _=_;rw[DX];exact Int.sign_eq_neg_one_of_neg (by omega));go_enter Tryz.func64,Tryz.ntmps64;go_wp2_with fail;refine hbits.mono ?_;rintro e w' ⟨rfl,rfl⟩;go_wp2_with fail;go_ret
    exact ⟨by rw[hs.out];rfl,z2⟩
   |false=>
    have hs:Hid (Int.sign (sg false N)=1):=(by show _=_;rw[DZ];exact Int.sign_eq_one_of_pos (by omega));go_enter Tryz.func64,Tryz.ntmps64;go_wp2_with fail;refine hbits.mono ?_;rintro e w' ⟨rfl,rfl⟩;go_wp2_with fail;go_ret
    exact ⟨by rw[hs.out];rfl,z2⟩
theorem Oa (s:Bool) (n:Nat):sg (!s) n=-sg s n:=by cases s<;>simp[sg]
theorem Uy (v:Value) (Z:Int) (k:Nat) (w:World) (hv:BO w v Z k) (hk:k<=1099511627776):Calls Tryz.prog 66 #[v] w (Cn (-Z) k w):=by
 obtain ⟨s,A,n,c,xs,rfl,hx,hc,hm,hn,rfl⟩:=hv;obtain ⟨z0,z1,z2,z3⟩:=Dv w #[.bool s,.slice A n c] #[.bool false,.slice none 0 0];have hf:=Fb (!s) A n c k xs _ (hx.below z2) hc hm hn hk;rw[Oa]at hf;go_enter Tryz.func66,Tryz.ntmps66;go_wp2_with fail;refine hf.mono ?_;rintro e w1 ⟨v1,rfl,r1,b1⟩;obtain ⟨s1,A1,n1,c1,rfl⟩:=r1.form;have k1:=z1.next b1;go_wp2_with (with_reducible refine An rfl _ _ rfl (w.heap.size+1) _ _ _ _ rfl rfl _ _ k1 ?_;intro w3 k3 ho3)
 refine Ay rfl rfl k3 rfl ?_;exact ⟨_,rfl,r1.only k1 ho3,AE (z2.next b1) (by omega) ho3⟩
end
section
open Go.RowKit
open Limb (limb AQ upto upto_succ Az AC)
def BE (Z Y:Int) (w:World) (e:Ending) (w':World):Prop:=e=.returned (.int .i64 (BC Z Y))/\Below w.heap.size w w'
theorem Hi {a b:Int} (h:a<b):BC a b=-1:=by unfold BC;rw[if_pos h]
theorem Hj {a b:Int} (h:b<a):BC a b=1:=by unfold BC;rw[if_neg (by omega),if_pos h]
theorem Qd (Z Y:Int) (h:Z.sign≠Y.sign):BC Z.sign Y.sign=BC Z Y:=by
 have key:(Z.sign<Y.sign/\Z<Y)\/(Y.sign<Z.sign/\Y<Z):=by
   rcases Int.lt_trichotomy Z 0 with h1|h1|h1<;>rcases Int.lt_trichotomy Y 0 with h2|h2|h2
   all_goals
    first
    |rw[Int.sign_eq_neg_one_of_neg h1]at h ⊢
    |rw[Int.sign_eq_one_of_pos h1]at h ⊢
    |rw[h1,Int.sign_zero]at h ⊢
    first
    |rw[Int.sign_eq_neg_one_of_neg h2]at h ⊢
    |rw[Int.sign_eq_one_of_pos h2]at h ⊢
    |rw[h2,Int.sign_zero]at h ⊢
    first
    |exact absurd rfl h
    |omega
 rcases key with ⟨k1,k2⟩|⟨k1,k2⟩
 · rw[Hi k1,Hi k2]
 · rw[Hj k1,Hj k2]
theorem RF (N M:Nat):Ej M N=BC (sg true N) (sg true M):=by unfold Ej BC;rw[DX,DX];split<;>split<;>(try split)<;>omega
theorem RG (s t:Bool) (N M:Nat) (hs:(sg s N).sign=(sg t M).sign) (h:¬(sg s N).sign<0):Ej N M=BC (sg s N) (sg t M):=by
 have e1:sg s N=(N:Int):=by
  cases s with
  |false=>rfl
  |true=>
   have:¬(sg true N<0):=fun hh=>h (by rw[Int.sign_eq_neg_one_of_neg hh];omega)
   rw[DX]at this ⊢;omega
 have e2:sg t M=(M:Int):=by
  cases t with
  |false=>rfl
  |true=>
   have:¬(sg true M<0):=fun hh=>h (by rw[hs,Int.sign_eq_neg_one_of_neg hh];omega)
   rw[DX]at this ⊢;omega
 rw[e1,e2];rfl
theorem Qe (s t:Bool) (N M:Nat) (hs:(sg s N).sign=(sg t M).sign) (h:(sg s N).sign<0):Ej M N=BC (sg s N) (sg t M):=by
 have e1:s=true:=by
  cases s with
  |true=>rfl
  |false=>exfalso;have:=Int.sign_nonneg_iff.2 (show (0:Int)<=sg false N by rw[DZ];omega);omega
 have e2:t=true:=by
  cases t with
  |true=>rfl
  |false=>exfalso;have:=Int.sign_nonneg_iff.2 (show (0:Int)<=sg false M by rw[DZ];omega);omega
 subst e1 e2;exact RF N M
theorem GF (Z:Int):-1<=Z.sign/\Z.sign<=1:=by
 rcases Int.lt_trichotomy Z 0 with h1|h1|h1
 · rw[Int.sign_eq_neg_one_of_neg h1];omega
 · subst h1;rw[Int.sign_zero];omega
 · rw[Int.sign_eq_one_of_pos h1];omega
theorem MK (v u:Value) (Z Y:Int) (k:Nat) (w:World) (hv:BO w v Z k) (hu:BO w u Y k) (hk:k<=1099511627776):Calls Tryz.prog 72 #[v,u] w (BE Z Y w):=by
 have hr1:=GF Z;have hr2:=GF Y;have hv0:=hv;have hu0:=hu;obtain ⟨s,A,n,c,xs,rfl,hx,hc,hm,hn,hZ⟩:=hv;obtain ⟨t,B,m,d,ys,rfl,hy,hd,hmd,hmk,hY⟩:=hu;obtain ⟨x0,y0,z2,-⟩:=Dv w #[.bool s,.slice A n c] #[.bool t,.slice B m d];have hs1:=Ef _ Z k _ (hv0.below z2) hk;by_cases hs:Z.sign=Y.sign
 · by_cases hneg:Z.sign<0
   · have HF:=Ac (show Ej (Limb.val ys) (Limb.val xs)=BC Z Y by subst hZ hY;exact Qe s t _ _ hs hneg);have hne:(Z.sign != Z.sign)=false:=(by simp);have HS:=Ac hs.symm;clear hZ hY hs;have hs2:∀w1,Below _ _ w1->Calls Tryz.prog 64 #[.agg #[.bool t,.slice B m d]] w1 (CJ Y w1):=fun w1 hb=>Ef _ Y k w1 ((hu0.below z2).below hb) hk
     unfold CJ at hs1 hs2;rw[HS.out]at hs2;generalize Z.sign=q at *;have HS2:=Ac hs2;clear hs2;go_enter Tryz.func72,Tryz.ntmps72;go_wp2_with fail;refine hs1.mono ?_;rintro e w1 ⟨rfl,b1⟩;have x1:=x0.next b1;have y1:=y0.next b1;have x1a:=x1.c0;have x1b:=x1.c1;have y1a:=y1.c0;have y1b:=y1.c1;go_wp2_with fail;refine (HS2.out w1 b1).mono ?_;rintro e w2 ⟨rfl,b2⟩;have x2:=x1.next b2;have y2:=y1.next b2;have x2a:=x2.c0;have x2b:=x2.c1;have y2a:=y2.c0;have y2b:=y2.c1
     have t2:=(z2.next b1).next b2;clear hs1;go_wp2_with fail;refine (IX B A m d n c ys xs w2 (hy.below t2) hd hmd (hx.below t2) hc hm).mono ?_;rintro e w3 ⟨rfl,hw3⟩;have b3:Below w2.heap.size w2 w3:=(by obtain ⟨j,rfl⟩:=hw3;exact Ap w2 j);clear hw3;go_wp2_with fail;go_ret
     exact ⟨by rw[HF.out];rfl,t2.next b3⟩
   · have HF:=Ac (show Ej (Limb.val xs) (Limb.val ys)=BC Z Y by subst hZ hY;exact RG s t _ _ hs hneg);have hne:(Z.sign != Z.sign)=false:=(by simp);have HS:=Ac hs.symm;clear hZ hY hs;have hs2:∀w1,Below _ _ w1->Calls Tryz.prog 64 #[.agg #[.bool t,.slice B m d]] w1 (CJ Y w1):=fun w1 hb=>Ef _ Y k w1 ((hu0.below z2).below hb) hk
     unfold CJ at hs1 hs2;rw[HS.out]at hs2;generalize Z.sign=q at *;have HS2:=Ac hs2;clear hs2;go_enter Tryz.func72,Tryz.ntmps72;go_wp2_with fail;refine hs1.mono ?_;rintro e w1 ⟨rfl,b1⟩;have x1:=x0.next b1;have y1:=y0.next b1;have x1a:=x1.c0;have x1b:=x1.c1;have y1a:=y1.c0;have y1b:=y1.c1;go_wp2_with fail;refine (HS2.out w1 b1).mono ?_;rintro e w2 ⟨rfl,b2⟩;have x2:=x1.next b2;have y2:=y1.next b2;have x2a:=x2.c0;have x2b:=x2.c1;have y2a:=y2.c0;have y2b:=y2.c1
     have t2:=(z2.next b1).next b2;clear hs1;go_wp2_with fail;refine (IX A B n c m d xs ys w2 (hx.below t2) hc hm (hy.below t2) hd hmd).mono ?_;rintro e w3 ⟨rfl,hw3⟩;have b3:Below w2.heap.size w2 w3:=(by obtain ⟨j,rfl⟩:=hw3;exact Ap w2 j);clear hw3;go_wp2_with fail;go_ret
     exact ⟨by rw[HF.out];rfl,t2.next b3⟩
 · have HF:=Ac (Qd _ _ hs);have hne:(Z.sign != Y.sign)=true:=(by simpa using hs);have HS2:=Ac (fun w1 (hb:Below _ _ w1)=>Ef _ Y k w1 ((hu0.below z2).below hb) hk);clear hZ hY hs;go_enter Tryz.func72,Tryz.ntmps72;go_wp2_with fail;refine hs1.mono ?_;rintro e w1 ⟨rfl,b1⟩;have x1:=x0.next b1;have y1:=y0.next b1;have x1a:=x1.c0;have x1b:=x1.c1;have y1a:=y1.c0;have y1b:=y1.c1;go_wp2_with fail;refine (HS2.out w1 b1).mono ?_;rintro e w2 ⟨rfl,b2⟩;have x2:=x1.next b2
   have y2:=y1.next b2;have x2a:=x2.c0;have x2b:=x2.c1;have y2a:=y2.c0;have y2b:=y2.c1;have t2:=(z2.next b1).next b2;clear hs1;go_wp2_with fail;refine (Ef _ Y k w2 (hu0.below t2) hk).mono ?_;rintro e w3 ⟨rfl,b3⟩;go_wp2_with fail;refine (Is Z.sign Y.sign w3).mono ?_;rintro e w' ⟨rfl,rfl⟩;go_wp2_with fail;go_ret
   exact ⟨by rw[HF.out];rfl,t2.next b3⟩
end
end Go.Proofs.YtmedjkhmadfjlaaGreat
