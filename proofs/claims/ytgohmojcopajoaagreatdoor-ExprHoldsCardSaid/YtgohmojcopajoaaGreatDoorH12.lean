/- Texts of one seat, put together: MulD Gcd RefDiv BitsAny Parse RefParse ZMem Zint ZintB. -/
import Derived.Test.YtgohmojcopajoaaGreatDoorH11
import Derived.Deep.LoopGhost
import Derived.Deep.RegionHeld3
set_option linter.unusedVariables false
set_option linter.unusedSimpArgs false
set_option maxRecDepth 100000
set_option maxHeartbeats 16000000
namespace Go.Proofs.YtgohmojcopajoaaGreatDoor.Nu
section
open Go.RowKit
open Limb (limb AK upto upto_succ Az AA)
theorem Nb (k:Nat):∀(A B:Option Addr) (n c m d a b:Nat) (w:World),n+m=k->Nums w A n (Limb.canon a)->n<=c->c<=9223372036854775807->Nums w B m (Limb.canon b)->m<=d->d<=9223372036854775807->n+m<=549755813888 ->
   Calls Tryz.prog 180 #[.slice A n c,.slice B m d] w (DJ (a*b) w):=by
 induction k using Nat.strongRecOn with
 |ind k ih0=>
 intro A B n c m d a b w hk hx hc hm hy hd hmd h39;have ih:∀j,j<n+m->_:=fun j hj=>ih0 j (by omega)
 clear ih0;clear hk;by_cases hs:n<m
 · have hs2:=hs;by_cases h48:n<48
   · go_enter Tryz.func180,Tryz.ntmps180;go_wp2_with fail;refine (Ev B A m d n c _ _ w hy hd hmd (by omega) hx hc hm (by omega)).mono ?_;rintro e w1 ⟨A1,n1,rfl,h3,h4⟩;rw[Limb.val_canon,Limb.val_canon]at h3;go_wp2_with fail;go_ret
     exact ⟨A1,n1,rfl,by rw[Nat.mul_comm a b];exact h3,h4⟩
   · have eh:((m:Int)+1)/2=(((m+1)/2:Nat):Int):=(by omega);have EH:=Lib.hid eh;clear eh;by_cases hh:n<=(m+1)/2
     · have hh1:(n:Int)<=((m:Int)+1)/2:=(by omega);have IHT:Ej (m+n):=by
        intro A' B' n' c' m' d' a' b' w' hlt h1 h2 h3 h4 h5 h6 h7;exact ih (n'+m') (by omega) A' B' n' c' m' d' a' b' w' rfl h1 h2 h3 h4 h5 h6 h7
       have IHH:=Aa IHT;clear IHT;go_enter Tryz.func180,Tryz.ntmps180;go_wp2_with fail;rw[EH.out];refine (EB B A m d n c b a ((m+1)/2) w IHH.out hy hd hmd hx hc hm (by omega) (by omega) (by omega)).mono ?_;rintro e w1 ⟨A1,n1,rfl,h3,h4⟩;go_wp2_with fail;go_ret
       exact ⟨A1,n1,rfl,by rw[Nat.mul_comm a b];exact h3,h4⟩
     · have hh1:¬(n:Int)<=((m:Int)+1)/2:=(by omega);have IHT:Ej (m+n):=by
        intro A' B' n' c' m' d' a' b' w' hlt h1 h2 h3 h4 h5 h6 h7;exact ih (n'+m') (by omega) A' B' n' c' m' d' a' b' w' rfl h1 h2 h3 h4 h5 h6 h7
       have IHH:=Aa IHT;clear IHT;go_enter Tryz.func180,Tryz.ntmps180;go_wp2_with fail;rw[EH.out];refine (Eb B A m d n c b a ((m+1)/2) w IHH.out hy hd hmd hx hc hm (by omega) (by omega) (by omega) (by omega) (by omega) (by omega) (by omega)).mono ?_;rintro e w1 ⟨A1,n1,rfl,h3,h4⟩;go_wp2_with fail;go_ret
       exact ⟨A1,n1,rfl,by rw[Nat.mul_comm a b];exact h3,h4⟩
 · have hs2:m<=n:=(by omega);by_cases h48:m<48
   · go_enter Tryz.func180,Tryz.ntmps180;go_wp2_with fail;refine (Ev A B n c m d _ _ w hx hc hm (by omega) hy hd hmd (by omega)).mono ?_;rintro e w1 ⟨A1,n1,rfl,h3,h4⟩;rw[Limb.val_canon,Limb.val_canon]at h3;go_wp2_with fail;go_ret
     exact ⟨A1,n1,rfl,h3,h4⟩
   · have eh:((n:Int)+1)/2=(((n+1)/2:Nat):Int):=(by omega);have EH:=Lib.hid eh;clear eh;by_cases hh:m<=(n+1)/2
     · have hh1:(m:Int)<=((n:Int)+1)/2:=(by omega);have IHT:Ej (n+m):=by
        intro A' B' n' c' m' d' a' b' w' hlt h1 h2 h3 h4 h5 h6 h7;exact ih (n'+m') (by omega) A' B' n' c' m' d' a' b' w' rfl h1 h2 h3 h4 h5 h6 h7
       have IHH:=Aa IHT;clear IHT;go_enter Tryz.func180,Tryz.ntmps180;go_wp2_with fail;rw[EH.out];refine (EB A B n c m d a b ((n+1)/2) w IHH.out hx hc hm hy hd hmd (by omega) (by omega) (by omega)).mono ?_;rintro e w1 ⟨A1,n1,rfl,h3,h4⟩;go_wp2_with fail;go_ret
       exact ⟨A1,n1,rfl,h3,h4⟩
     · have hh1:¬(m:Int)<=((n:Int)+1)/2:=(by omega);have IHT:Ej (n+m):=by
        intro A' B' n' c' m' d' a' b' w' hlt h1 h2 h3 h4 h5 h6 h7;exact ih (n'+m') (by omega) A' B' n' c' m' d' a' b' w' rfl h1 h2 h3 h4 h5 h6 h7
       have IHH:=Aa IHT;clear IHT;go_enter Tryz.func180,Tryz.ntmps180;go_wp2_with fail;rw[EH.out];refine (Eb A B n c m d a b ((n+1)/2) w IHH.out hx hc hm hy hd hmd (by omega) (by omega) (by omega) (by omega) (by omega) (by omega) (by omega)).mono ?_;rintro e w1 ⟨A1,n1,rfl,h3,h4⟩;go_wp2_with fail;go_ret
       exact ⟨A1,n1,rfl,h3,h4⟩
theorem Nc (A B:Option Addr) (n c m d a b:Nat) (w:World) (hx:Nums w A n (Limb.canon a)) (hc:n<=c) (hm:c<=9223372036854775807) (hy:Nums w B m (Limb.canon b)) (hd:m<=d) (hmd:d<=9223372036854775807) (h39:n+m<=549755813888) :
  Calls Tryz.prog 180 #[.slice A n c,.slice B m d] w (DJ (a*b) w):=
 Nb (n+m) A B n c m d a b w rfl hx hc hm hy hd hmd h39
theorem Vb (A B:Option Addr) (n c m d:Nat) (xs ys:List Nat) (w:World) (hx:Nums w A n xs) (hc:n<=c) (hm:c<=9223372036854775807) (hy:Nums w B m ys) (hd:m<=d) (hmd:d<=9223372036854775807) (h39:n+m<=549755813888) :
  Calls Tryz.prog 159 #[.slice A n c,.slice B m d] w (DJ (Limb.val xs*Limb.val ys) w):=by
 have hA:=D7 w A xs n hx;have hB:=D7 w B ys m hy;have h1:=hA.2.1;have h2:=hB.2.1;go_enter Tryz.func159,Tryz.ntmps159;go_wp2_with fail;refine (DN A n c xs w hx hc hm).mono ?_;rintro e w' ⟨rfl,rfl⟩;go_wp2_with fail;refine (DN B m d ys w hy hd hmd).mono ?_;rintro e w' ⟨rfl,rfl⟩;go_wp2_with fail;refine (Nc _ _ (L (Limb.val xs)) (L (Limb.val xs)) (L (Limb.val ys)) (L (Limb.val ys)) _ _ w hA.2.2.1 (Nat.le_refl _) (by omega) hB.2.2.1 (Nat.le_refl _) (by omega) (by omega)).mono ?_
 rintro e w1 ⟨A1,n1,rfl,h3,h4⟩;go_wp2_with fail;go_ret
 exact ⟨A1,n1,rfl,h3,h4⟩
end
section
open Go.RowKit
open Limb (limb AK upto upto_succ Az AA)
def Xi (w:World) (e:Ending) (w':World):Prop:=e=.returned (.tuple #[.slice none 0 0,.slice none 0 0,.int .i64 10])/\w=w'
def WA (N M:Nat) (w:World) (e:Ending) (w':World):Prop:=
 ∃A n c B m d,e=.returned (.tuple #[.slice A n c,.slice B m d,.int .i64 0])/\Own w' w.heap.size A n c N/\Own w' w.heap.size B m d M/\Below w.heap.size w w'
end
section
open Go.RowKit
def Xj (N:Nat) (w:World) (e:Ending) (w':World):Prop:=e=.returned (.int .i64 ((Limb.bl N:Nat):Int))/\Below w.heap.size w w'
theorem QO (N k:Nat) (h:(Limb.canon N).length=k+1):0<Limb.limb (Limb.canon N) k:=by
 have hne:Limb.canon N≠[]:=fun h0=>by rw[h0]at h;cases h
 have ht:=Limb.tight_canon N hne;rw[List.getLast_eq_getElem]at ht;unfold Limb.limb;rw[List.getD_eq_getElem?_getD,List.getElem?_eq_getElem (by omega)];have e:(Limb.canon N).length-1=k:=by omega
 simp only[e]at ht;exact Nat.pos_of_ne_zero ht
def Z8 (b:Bool):Nat:=if b then 1 else 0
end
section
open Go.RowKit
open Limb (limb AK upto upto_succ Az AA)
theorem QP (x:Nat) (h0:x≠0) (h:x<4294967296):Lib.bitLen x=Limb.bl x:=by obtain ⟨h1,h2,h3,h4⟩:=QK x h0 h;have:=Limb.bl_spec x (Lib.bitLen x-1) h3 (by rw[Nat.sub_add_cancel h1];exact h4);omega
def Nf (N:Nat) (w:World) (e:Ending) (w':World):Prop:=e=.returned (.int .i64 ((Limb.bl N:Nat):Int))/\w=w'
def QQ (x:Nat) (w:World) (e:Ending) (w':World):Prop:=e=.returned (.int .i64 ((Limb.bl x:Nat):Int))/\w=w'
theorem QR (x:Nat) (w:World) (h0:x≠0) (h:x<4294967296):Calls Tryz.prog 172 #[.int .u32 (x:Int)] w (QQ x w):=by refine (Tryz.bits_Len32 (x:Int) w (by omega) (by omega)).mono ?_;rintro e w' ⟨rfl,rfl⟩;rw[Int.toNat_natCast,QP x h0 h];exact ⟨rfl,rfl⟩
theorem Tj (A:Option Addr) (n c:Nat) (xs:List Nat) (w:World) (hx:Nums w A n xs) (hc:n<=c) (hm:c<=9223372036854775807) (hb:n<=1099511627776) :
   Calls Tryz.prog 157 #[.slice A n c] w (Nf (Limb.val xs) w):=by
 have hcut:=D7 w A xs n hx;have hdet:=DN A n c xs w hx hc hm;generalize Limb.val xs=a at *;obtain ⟨-,hle,hN,-⟩:=hcut;unfold EA at hdet;rcases Nat.eq_zero_or_pos (L a) with h0|h0
 · have ha:Hid (a=0):=Aa ((Limb.canon_len_zero a).1 h0);rw[h0]at hdet;clear h0 hN hle;go_enter Tryz.func157,Tryz.ntmps157;go_wp2_with fail;refine hdet.mono ?_;rintro e w' ⟨rfl,rfl⟩;go_wp2_with fail;go_ret
   exact ⟨by rw[ha.out];rfl,rfl⟩
 · obtain ⟨k,hk⟩:∃k,L a=k+1:=⟨L a-1,by omega⟩;rw[hk]at hdet hle hN;have hk2:(Limb.canon a).length=k+1:=hk;obtain ⟨b,o,x,hA,hx32,hxe,hcell⟩:=hN.at_ (i:=k) (by omega);have hx0:=QO a k hk2;have hbl:=Limb.bl_limbs (Limb.canon a) k (Limb.ok_canon a) hk2 hx0;rw[Limb.val_canon]at hbl;have e1:Limb.limb (Limb.canon a) k=x:=hxe.symm;rw[e1]at hbl hx0;have HB:=Aa hbl;have hblx:=Limb.bl_le x 32 hx32;rw[hA]at hdet;clear hbl e1 hxe hA hk hk2 hN h0;go_enter Tryz.func157,Tryz.ntmps157
   go_wp2_with fail;refine hdet.mono ?_;rintro e w' ⟨rfl,rfl⟩;go_wp2_with fail;refine (QR x _ (by omega) hx32).mono ?_;rintro e w' ⟨rfl,rfl⟩;go_wp2_with fail;go_ret
   exact ⟨by rw[HB.out];go_num,rfl⟩
theorem I7 {w:World} {base:Nat} {A:Option Addr} {n c N:Nat} (o:Own w base A n c N):n<=4611686018427387904:=by have:=o.2.1;have:=o.2.2.1;omega
def Tk (N:Nat) (w:World) (e:Ending) (w':World):Prop:=∃A n,e=.returned (.tuple #[.slice A n n,.int .i64 0])/\Own w' w.heap.size A n n N/\Below w.heap.size w w'
def Yz (k:Int) (w:World) (e:Ending) (w':World):Prop:=e=.returned (.tuple #[.slice none 0 0,.int .i64 k])/\w=w'
def Ox (N:Nat) (w:World) (e:Ending) (w':World):Prop:=∃A n c,e=.returned (.tuple #[.slice A n c,.int .i64 0])/\Nums w' A n (Limb.canon N)/\n<=c/\c<=9223372036854775807/\Below w.heap.size w w'
end
section
open Go.RowKit
open Limb (limb AK upto upto_succ Az AA)
def numOf (s:ByteArray) (i:Nat):Nat:=Dec.upto (fun j=>Ad s j-48) i
theorem Ng (s:ByteArray) (h:CW s) (i:Nat) (hi:i<=s.size):numOf s i<10^i:=
 Dec.upto_lt _ i (fun j hj=>by have:=h j (by omega);omega)
def Vd (k:Int) (w:World) (e:Ending) (w':World):Prop:=e=.returned (.tuple #[.slice none 0 0,.int .i64 k])/\Below w.heap.size w w'
theorem Oy (s:ByteArray) (w:World) (h:4000<s.size) (hs:s.size<=9223372036854775807):Calls Tryz.prog 122 #[.string s] w (Vd 2 w):=by
 go_enter Tryz.func122,Tryz.ntmps122;go_wp2_with fail;go_ret2
 exact ⟨rfl,Below.refl _ _⟩
theorem Oz (s:ByteArray) (w:World) (hs:s.size<=4000) (hno:¬(CW s/\s.size≠0)):Calls Tryz.prog 122 #[.string s] w (Vd 20 w):=by
 have hd:=G9 s false w (by omega) (by simp only[Bool.false_eq_true,false_iff];exact hno);clear hno;go_enter Tryz.func122,Tryz.ntmps122;go_wp2_with fail;refine hd.mono ?_;rintro e w1 ⟨rfl,k,rfl⟩;go_wp2_with fail;go_ret2
 exact ⟨rfl,Ao w k⟩
theorem Tl (j:Nat) (hj:j<=8):(10^j*10=1000000000/\j=8)\/(10^j*10≠1000000000/\j+1<=8):=by
 rcases Nat.lt_or_ge j 8 with h|h
 · right
   have h1:10^j<=10^7:=Nat.pow_le_pow_right (by omega) (by omega);omega
 · left
   have:j=8:=by omega
   subst this;exact ⟨rfl,rfl⟩
theorem WB (j:Nat) (hj:j<=8):10^j<=100000000/\1<=10^j:=by have h1:10^j<=10^8:=Nat.pow_le_pow_right (by omega) hj;exact ⟨by omega,Nat.pow_pos (by omega)⟩
theorem QS (V p g d U:Nat) (h:V*p+g=U):V*(p*10)+(g*10+d)=U*10+d:=by rw[<-h,Nat.add_mul,Nat.mul_assoc];omega
def Xx (s:ByteArray) (g n:Nat) (w:World) (k gq wq:Nat) (wr:World):Prop:=
 ∃(cur:List Nat) (j:Nat),cur.length=n/\Limb.Ok cur/\Row wr g cur/\Below w.heap.size w wr/\j<=8/\wq=10^j/\gq<10^j/\Limb.val cur*10^j+gq=numOf s k/\(k=s.size->j=0)
theorem Tn (s:ByteArray) (w:World) (hs:s.size<=4000) (hd:CW s) (h0:s.size≠0):Calls Tryz.prog 122 #[.string s] w (Tk (numOf s s.size) w):=by
 have hda:=G9 s true w (by omega) (by simp only[true_iff];exact ⟨hd,h0⟩);have HD:=Aa hd;have HLT:=Aa (fun i hi=>Ng s hd i hi);have hroom:=Aa (Dec.limbs_room s.size);have en:(s.size:Int)/9+1=((s.size/9+1:Nat):Int):=by omega
 have hn:s.size/9+1<=445:=by omega
 generalize s.size/9+1=n at *;clear hd;go_enter Tryz.func122,Tryz.ntmps122;go_wp2_with fail;refine hda.mono ?_;rintro e w1 ⟨rfl,hw1⟩;have b1:Below w.heap.size w w1:=by obtain ⟨k,rfl⟩:=hw1;exact Ao w k
 clear hw1 hda;go_wp2_with (at_make;refine BE _ rfl _ _ rfl _ n rfl rfl (by omega) (by omega) ?_;intro w2 hr2 hb2 hs2);have t2:=b1.next hb2;have hg:w.heap.size<=w1.heap.size:=b1.size;generalize w1.heap.size=g at *;go_loopw [5,6,23] (fun a b i wr=>∃k gq wq:Nat,k<=s.size/\i=.int .i64 (k:Int)/\a=.int .u32 (gq:Int)/\b=.int .u32 (wq:Int)/\Hid (Xx s g n w k gq wq wr)) (fun _ _ i _=>s.size-(intOf i).toNat)
 case atStart=>exact ⟨0,0,1,Nat.zero_le _,rfl,rfl,rfl,List.replicate n 0,0,by simp,Limb.Ok.replicate n,hr2,t2,by omega,rfl,by omega,by rw[Limb.val_replicate];rfl,fun _=>rfl⟩
 case round=>
  clear hr2 t2 hb2;obtain ⟨k,gq,wq,hk,rfl,rfl,rfl,R⟩:=hrel;by_cases hkn:k<s.size
  · have hbe:=Bp s k hkn;have hdk:=HD.out k hkn;rw[hbe]at hdk;have hnum:=Aa (show numOf s (k+1)=numOf s k*10+((s[k]'hkn).toNat-48) by
      show Dec.upto _ (k+1)=_;rw[Dec.upto,hbe];rfl)
    obtain ⟨cur,j,hl,ho,hr,hb,hj,hw,hq,hv,-⟩:=R.out;have hten:=Tl j hj;have hle:=WB j hj;have hcl:=Aa hl;have hval:=Aa hv;rw[<-hw]at hten hle hq hval;clear R hbe hl hv;obtain ⟨bt,hB⟩:∃bt,(s[k]'hkn).toNat=bt:=⟨_,rfl⟩;rw[hB]at hdk hnum;have e5:((wq*10:Nat):Int)=(wq:Int)*10:=(by omega);have e6:((gq*10+(bt-48):Nat):Int)=(gq:Int)*10+((bt:Int)-48):=(by omega);have hstep:=Aa (QS _ _ _ (bt-48) _ hval.out);have HW:=Aa hw;clear hw;by_cases hlast:wq*10=1000000000\/k+1=s.size
    · have hsc:=QL g n (wq*10) (gq*10+(bt-48)) cur wr hr ho (by rw[hcl.out];omega) (by omega) (by omega);unfold Tf at hsc;rw[hcl.out,e5,e6]at hsc;have hlt:=Aa (HLT.out (k+1) (by omega));have hcase:((wq:Int)*10==1000000000)=true\/(((wq:Int)*10==1000000000)=false/\((k:Int)==(s.size:Int)-1)=true):=by
       by_cases h9:wq*10=1000000000
       · left;simp;omega
       · right
         have:k+1=s.size:=by omega
         constructor
         · simp;omega
         · simp;omega
      clear e5 e6 hlast hten;rcases hcase with c1|⟨c1,c2⟩
      all_goals
       go_wp2_with fail;refine hsc.mono ?_;rintro e w3 ⟨cur3,cy,rfl,hl3,ho3,hr3,hon3,hv3⟩;have hL3:=Aa hl3;have hv4:=hv3.out;rw[hstep.out,<-hnum.out]at hv4;have hv5:=Aa (Limb.carry_zero _ _ _ _ hv4 (Nat.lt_of_lt_of_le hlt.out (Nat.le_of_lt (Nat.lt_of_le_of_lt (Nat.pow_le_pow_right (by omega) (by omega)) hroom.out))));have hb3:=hb.trans (hon3.below hb.size hg);clear hv3 hv4 hl3;go_wp2_with fail;go_roundw
       case rel=>exact ⟨k+1,0,1,by omega,by go_num,rfl,rfl,cur3,0,hL3.out,ho3,hr3,hb3,by omega,rfl,by omega,by rw[Nat.pow_zero,Nat.mul_one,Nat.add_zero];exact hv5.out,fun _=>rfl⟩
       case measure=>simp[intOf];omega
    · have hj8:j+1<=8:=(by omega);have c1:((wq:Int)*10==1000000000)=false:=(by simp;omega);have c2:((k:Int)==(s.size:Int)-1)=false:=(by simp;omega);have hk1:k+1≠s.size:=(by omega);clear hlast hten;go_wp2_with fail;go_roundw
      case rel=>exact ⟨k+1,gq*10+(bt-48),wq*10,by omega,by go_num,by rw[e6],by rw[e5],cur,j+1,hcl.out,ho,hr,hb,hj8,by rw[Nat.pow_succ,<-HW.out],by rw[Nat.pow_succ,<-HW.out];omega,by rw[Nat.pow_succ,<-HW.out,hnum.out];exact hstep.out,fun h=>absurd h hk1⟩
      case measure=>simp[intOf];omega
  · obtain rfl:k=s.size:=(by omega);obtain ⟨cur,j,hl,ho,hr,hb,hj,hw,hq,hv,hj0⟩:=R.out;have hj1:=hj0 rfl;subst hj1;rw[Nat.pow_zero]at hq hv hw;have hval:=Aa (show Limb.val cur=numOf s s.size by omega);have hcl:=Aa hl;clear hl hv R;go_wp2_with fail;refine (Ck g n n (numOf s s.size) w.heap.size cur wr hr ho (by rw[hcl.out];exact Nat.le_refl _) (Nat.le_refl _) (by omega) hg (by rw[List.take_of_length_le (by rw[hcl.out];exact Nat.le_refl _)];exact hval.out)).mono ?_
    rintro e w' ⟨A',m,rfl,how,rfl⟩;go_wp2_with fail;go_ret2
    exact ⟨A',m,rfl,how,hb⟩
end
section
open Go.RowKit
open Limb (limb AK upto upto_succ Az AA)
theorem Nh (s:ByteArray) (w:World) (h:4000<s.size) (hs:s.size<=9223372036854775807):Calls Tryz.prog 116 #[.string s] w (Vd 2 w):=by
 go_enter Tryz.func116,Tryz.ntmps116;go_wp2_with fail;go_ret2
 exact ⟨rfl,Below.refl _ _⟩
def To (s:ByteArray) (w:World) (e:Ending) (w':World):Prop:=
 (CW s/\s.size≠0->Ox (numOf s s.size) w e w')/\(¬(CW s/\s.size≠0)->Vd 20 w e w')
def Xy (s:ByteArray) (w:World) (k:Nat) (v:Value) (wr:World):Prop:=
 ∃(B:Option Addr) (m c:Nat) (ys:List Nat),v=.slice B m c/\Nums wr B m ys/\m<=c/\c<=9223372036854775807/\m<=446/\Hid (Limb.val ys=numOf s k)/\Below w.heap.size w wr/\Hid (∀j,j<k->48<=Ad s j/\Ad s j<=57)
theorem Ve {w:World} {A:Option Addr} {n N k:Nat} (h:Nums w A n (Limb.canon N)) (hN:N<10^k) (hk:k<=4005):n<=446:=by obtain ⟨M,hM⟩:∃M:Nat,M=4005:=⟨_,rfl⟩;have h1:n<=M/9+1:=Bj h (Nat.lt_of_lt_of_le hN (Nat.le_of_lt (Nat.lt_of_le_of_lt (Nat.pow_le_pow_right (by omega) (show k<=M by omega)) (Dec.limbs_room M))));omega
theorem O0 (s:ByteArray) (w:World) (hs:s.size<=4000):Calls Tryz.prog 116 #[.string s] w (To s w):=by
 go_enter Tryz.func116,Tryz.ntmps116;go_wp2_with fail;go_loopw [4,5] (fun v i wr=>∃k:Nat,k<=s.size/\i=.int .i64 (k:Int)/\Xy s w k v wr) (fun _ i _=>s.size-(intOf i).toNat)
 case atStart=>exact ⟨0,Nat.zero_le _,rfl,_,0,0,[],rfl,Nums.nil _ _,by omega,by omega,by omega,rfl,Ae w _,fun j hj=>absurd hj (by omega)⟩
 case round=>
  obtain ⟨k,hk,rfl,B,m,c,ys,rfl,oB,lc,lc9,lm,HV,tr,HD⟩:=hrel;by_cases hkn:k<s.size
  · have hbe:=Bp s k hkn;by_cases hd:48<=Ad s k/\Ad s k<=57
    · have hD2:Hid (∀j,j<k+1->48<=Ad s j/\Ad s j<=57):=fun j hj=>by
        rcases Nat.eq_or_lt_of_le (Nat.le_of_lt_succ hj) with h|h
        · subst h;exact hd
        · exact HD.out j h
      have hnum:=Aa (show numOf s (k+1)=numOf s k*10+((s[k]'hkn).toNat-48) by show Dec.upto _ (k+1)=_;rw[Dec.upto,hbe];rfl)
      have hlt:=Aa (show numOf s (k+1)<10^(k+1) from Dec.upto_lt _ (k+1) (fun j hj=>by have:=hD2.out j hj;omega));rw[hbe]at hd;obtain ⟨bt,hB⟩:∃bt,(s[k]'hkn).toNat=bt:=⟨_,rfl⟩;rw[hB]at hd hnum;clear hbe;have eus:(#[.int .u32 ((bt:Int)-48)]:Array Value)=(Ch [bt-48]).toArray:=by simp[Ch];omega
      have hok:Limb.Ok [bt-48]:=Limb.Ok.cons (by omega) Limb.Ok.nil;have EUS:=Aa eus;have hw1:IntKind.u8.wrap ((bt:Int)-48)=(bt:Int)-48:=(by simp[IntKind.wrap,IntKind.bits,IntKind.signed];omega);have hw2:IntKind.u32.wrap ((bt:Int)-48)=(bt:Int)-48:=(by simp[IntKind.wrap,IntKind.bits,IntKind.signed];omega);have hm10:=Aa (show Limb.val ys*10<4294967296^(m+1) by have:=oB.lt;rw[Nat.pow_succ];omega);clear eus;go_wp2_with fail;go_region_with (first
        |(go_at_call 150;refine (Lf B m c ys 10 _ ?_ (by omega) (by omega)).mono ?_;(first|exact oB.drew|exact (oB.drew).alloc _);rintro e w1 ⟨A1,n1,c1,rfl,o1,l1,m1,b1⟩;have ln1:n1<=m+1:=Bj o1 hm10.out)
        |(go_at_call 115;refine (Gb A1 _ n1 c1 1 1 (Limb.canon (Limb.val ys*10)) [bt-48] _ ?_ ?_ (by omega) (by omega)).mono ?_;(first|exact o1|exact o1.alloc _);(first|exact Nums.new _ _ _ EUS.out hok 1 rfl|exact (Nums.new wr [bt-48] _ EUS.out hok 1 rfl).drew.below b1|exact (Nums.new wr.drew [bt-48] _ EUS.out hok 1 rfl).below b1);rintro e w2 ⟨A2,n2,c2,rfl,o2,l2,m2,b2⟩))
      all_goals
        rw[Limb.val_canon,HV.out,show Limb.val [bt-48]=bt-48 by simp[Limb.val],<-hnum.out]at o2;have ln2:n2<=446:=Ve o2 hlt.out (by omega);have t2:Below w.heap.size w w2:=(by first|exact ((tr.drew.next b1).next (Ae w1 _)).next b2|exact ((tr.next (Ae wr _)).drew.next b1).next b2|exact ((tr.drew.next (Ae wr.drew _)).next b1).next b2);go_wp2_with fail;go_roundw
        case rel=>exact ⟨k+1,by omega,by go_num,A2,n2,c2,_,rfl,o2,l2,m2,ln2,by show _=_;rw[Limb.val_canon],t2,hD2⟩
        case measure=>simp[intOf];omega
    · have hno:Hid (¬(CW s/\s.size≠0)):=fun h=>hd (h.1 k hkn)
      rw[hbe]at hd;by_cases g1:(48:Int)<=((s[k]'hkn).toNat:Int)
      · have g2:¬((s[k]'hkn).toNat:Int)<=57:=(by omega);clear hd hbe;go_wp2_with fail;go_ret2
        exact ⟨fun h=>absurd h hno.out,fun _=>⟨rfl,tr⟩⟩
      · clear hd hbe;go_wp2_with fail;go_ret2
        exact ⟨fun h=>absurd h hno.out,fun _=>⟨rfl,tr⟩⟩
  · obtain rfl:k=s.size:=(by omega);have hall:=Aa (show CW s from fun i hi=>HD.out i hi);by_cases h0:s.size=0
    · have hno:Hid (¬(CW s/\s.size≠0)):=fun h=>h.2 h0
      have c1:((s.size:Int)==0)=true:=(by rw[h0];rfl);clear h0;go_wp2_with fail;go_ret2
      exact ⟨fun h=>absurd h hno.out,fun _=>⟨rfl,tr⟩⟩
    · have hyes:Hid (CW s/\s.size≠0):=⟨hall.out,h0⟩;have c1:((s.size:Int)==0)=false:=beq_eq_false_iff_ne.2 (by omega);clear h0;go_wp2_with fail;refine (D8 B m c ys wr oB (by omega)).mono ?_;rintro e w2 ⟨A2,n2,c2,rfl,o2,l2,m2,b2⟩;rw[HV.out]at o2;go_wp2_with fail;go_ret2
      exact ⟨fun _=>⟨A2,n2,c2,rfl,o2,l2,m2,tr.next b2⟩,fun h=>absurd hyes.out h⟩
end
section
open Go.RowKit
def CE (w:World) (g:Nat) (cs:Array Value):Prop:=w.heap[g]?=some (.cells cs 54 (0,0))
theorem CE.lt {w:World} {g:Nat} {cs:Array Value} (h:CE w g cs):g<w.heap.size:=by
 rcases Nat.lt_or_ge g w.heap.size with hlt|hge
 · exact hlt
 · unfold CE at h;rw[Array.getElem?_eq_none hge]at h;cases h
theorem CE.c0 {w:World} {g:Nat} {x y:Value} (h:CE w g #[x,y]):w.cell? ⟨g,0,none⟩=some x:=by rw[cell_of_row w g 0 _ _ _ h];rfl
theorem CE.c1 {w:World} {g:Nat} {x y:Value} (h:CE w g #[x,y]):w.cell? ⟨g,1,none⟩=some y:=by rw[cell_of_row w g 1 _ _ _ h];rfl
theorem CE.fr {w:World} {g:Nat} {cs:Array Value} (h:CE w g cs) (i:Nat):w.frozen? ⟨g,i,none⟩=false:=by unfold CE at h;simp[World.frozen?,h]
theorem CE.below {w w':World} {g B:Nat} {cs:Array Value} (h:CE w g cs) (hb:Below B w w') (hg:g<B):CE w' g cs:=(hb.block g hg).trans h
theorem CE.next {w w':World} {g:Nat} {cs:Array Value} (h:CE w g cs) (hb:Below w.heap.size w w'):CE w' g cs:=h.below hb h.lt
theorem CE.new (w:World) (cs:Array Value):CE (w.alloc (.cells cs 54)) w.heap.size cs:=heap_alloc_new w _
theorem CE.alloc {w:World} {g:Nat} {cs:Array Value} (h:CE w g cs) (o:Obj):CE (w.alloc o) g cs:=h.next (Ae w o)
theorem CE.drew {w:World} {g:Nat} {cs:Array Value} (h:CE w g cs):CE w.drew g cs:=h
theorem CE.other {w w':World} {g r:Nat} {cs:Array Value} (h:CE w g cs) (ho:Ai r w w') (hne:g≠r):CE w' g cs:=
 (ho.block g h.lt (fun hh=>hne (by injection hh))).trans h
theorem size_alloc (w:World) (o:Obj):(w.alloc o).heap.size=w.heap.size+1:=by show (w.heap.push o).size=_;simp
theorem Dn (w:World) (X:Array Value):CE (w.alloc (.cells X 54)) w.heap.size X/\Below w.heap.size w (w.alloc (.cells X 54))/\(w.alloc (.cells X 54)).heap.size=w.heap.size+1:=
 ⟨CE.new w X,Ae w _,size_alloc w _⟩
theorem Fz (w:World) (X Y:Array Value):CE ((w.alloc (.cells X 54)).alloc (.cells Y 54)) w.heap.size X/\CE ((w.alloc (.cells X 54)).alloc (.cells Y 54)) (w.heap.size+1) Y /\
  Below w.heap.size w ((w.alloc (.cells X 54)).alloc (.cells Y 54))/\((w.alloc (.cells X 54)).alloc (.cells Y 54)).heap.size=w.heap.size+2:=by
 obtain ⟨h1,h2,h3⟩:=Dn w X;obtain ⟨k1,k2,k3⟩:=Dn (w.alloc (.cells X 54)) Y;rw[h3]at k1 k3;exact ⟨h1.alloc _,k1,h2.next (Ae _ _),by omega⟩
theorem Gp (w:World) (X Y Z:Array Value):CE (((w.alloc (.cells X 54)).alloc (.cells Y 54)).alloc (.cells Z 54)) w.heap.size X/\CE (((w.alloc (.cells X 54)).alloc (.cells Y 54)).alloc (.cells Z 54)) (w.heap.size+1) Y /\
  CE (((w.alloc (.cells X 54)).alloc (.cells Y 54)).alloc (.cells Z 54)) (w.heap.size+1+1) Z /\
  Below w.heap.size w (((w.alloc (.cells X 54)).alloc (.cells Y 54)).alloc (.cells Z 54))/\(((w.alloc (.cells X 54)).alloc (.cells Y 54)).alloc (.cells Z 54)).heap.size=w.heap.size+3:=by
 obtain ⟨h1,h2,h3,h4⟩:=Fz w X Y;obtain ⟨k1,k2,k3⟩:=Dn ((w.alloc (.cells X 54)).alloc (.cells Y 54)) Z;rw[h4]at k1 k3;have e2:w.heap.size+2=w.heap.size+1+1:=rfl;rw[e2]at k1;exact ⟨h1.alloc _,h2.alloc _,k1,h3.next (Ae _ _),by omega⟩
theorem Aj {w:World} {ops:Array Oper} {rest:List Oper} {o:Oper} {a:Act} {Q:Exit->Act->World->Prop} (hgd:o.guard=none) (x y:Operand) (ho:o.op=.store 54 x y)
  (g:Nat) (s:Bool) (A:Option Addr) (n c:Nat) (hx:a.eval x=.pointer (some ⟨g,0,none⟩)) (hy:a.eval y=.agg #[.bool s,.slice A n c]) (u v:Value) (hb:CE w g #[u,v])
  (h:∀w',CE w' g #[.bool s,.slice A n c]->Ai g w w'->wpList Tryz.prog ops Q rest (a.put o.dst undef) w'):wpList Tryz.prog ops Q (o::rest) a w:=by
 refine wpList_store_row hgd 54 x y ho g #[.bool s,.slice A n c] hx hy 54 #[u,v] hb (by kernel_rfl) rfl (by simp[Value.oneCell']) ?_;refine h _ ?_ (DO w g _);have:=setRow_heap w g #[u,v] #[.bool s,.slice A n c] _ _ hb;exact this
theorem CE.set2 {w:World} {g:Nat} {u v:Value} (h:CE w g #[u,v]) (x y:Value):CE ((w.setCell ⟨g,0,none⟩ x).setCell ⟨g,1,none⟩ y) g #[x,y]:=by unfold CE at h ⊢;simp[World.setCell,Array.getElem?_modify,h]
theorem AM (w:World) (g:Nat) (x y:Value):Ai g w ((w.setCell ⟨g,0,none⟩ x).setCell ⟨g,1,none⟩ y):=((Ai.refl g w).setCell 0 x).setCell 1 y
theorem Au {fn:Func} {R:Ending->World->Prop} {a:Act} {w:World} {g p:Nat} {x y:Value} (hres:fn.results=#[.cell p 54]) (hp:a.tmps.getD p undef=.pointer (some ⟨g,0,none⟩))
  (hb:CE w g #[x,y]) (hd:a.defers=[]) (hR:R (.returned (.agg #[x,y])) w):bodyPost Tryz.prog fn R .ret a w:=
 bodyPost_ret (results_cell_row hres _ _ g _ #[x,y] _ _ hp hb Tryz.underlying54 rfl (by kernel_rfl)) hd hR
theorem _root_.Go.Proofs.YtgohmojcopajoaaGreatDoor.Nums.offBlk {w:World} {A:Option Addr} {n g:Nat} {xs:List Nat} {s:Bool} {B:Option Addr} {m d:Nat} (h:Nums w A n xs) (hb:CE w g #[.bool s,.slice B m d]):0<n->Apart A g:=by
 intro hn ad had he;obtain ⟨b,o,e,hc⟩:=h.2.2 hn;have h0:=hc 0 hn;rw[had]at e;injection e with e
 subst e;have he':b=g:=he;subst he';rw[cell_of_row w b _ _ _ _ hb]at h0;match o,h0 with
 |0,h0=>simp at h0
 |1,h0=>simp at h0
 |o+2,h0=>simp at h0
theorem _root_.Go.Proofs.YtgohmojcopajoaaGreatDoor.Nums.keepBlk {w w':World} {A:Option Addr} {n g:Nat} {xs:List Nat} {s:Bool} {B:Option Addr} {m d:Nat} (h:Nums w A n xs) (hb:CE w g #[.bool s,.slice B m d]) (ho:Ai g w w'):Nums w' A n xs:=h.grown' ho (h.offBlk hb)
theorem _root_.Go.Proofs.YtgohmojcopajoaaGreatDoor.Nums.only {w w':World} {A:Option Addr} {n g:Nat} {xs:List Nat} (h:Nums w A n xs) (ho:Ai g w w') (ha:0<n->Apart A g):Nums w' A n xs:=h.grown' ho ha
end
section
open Go.RowKit
open Limb (limb AK upto upto_succ Az AA)
def sg (s:Bool) (n:Nat):Int:=if s then -(n:Int) else (n:Int)
theorem Gq (n:Nat):sg true n=-(n:Int):=rfl
theorem EV (n:Nat):sg false n=(n:Int):=rfl
theorem Ek (s:Bool) (n:Nat):(sg s n).natAbs=n:=by cases s<;>simp[sg]
theorem Gr (s:Bool):sg s 0=0:=by cases s<;>rfl
theorem Ni (Z:Int):sg (decide (Z<0)) Z.natAbs=Z:=by
 by_cases h:Z<0
 · simp[h,sg];omega
 · simp[h,sg];omega
theorem Tq (s:Bool) (n:Nat) (h:0<n):decide (sg s n<0)=s:=by cases s<;>simp[sg]<;>omega
def Cy (w:World) (v:Value) (Z:Int) (k:Nat):Prop:=∃s A n c xs,v=.agg #[.bool s,.slice A n c]/\Nums w A n xs/\n<=c/\c<=9223372036854775807/\n<=k/\Z=sg s (Limb.val xs)
def AL (w:World) (v:Value) (Z:Int) (k:Nat):Prop:=∃A n c,v=.agg #[.bool (decide (Z<0)),.slice A n c]/\Nums w A n (Limb.canon Z.natAbs)/\n<=c/\c<=9223372036854775807/\n<=k
theorem AL.form {w:World} {v:Value} {Z:Int} {k:Nat} (h:AL w v Z k):∃s A n c,v=.agg #[.bool s,.slice A n c]:=by obtain ⟨A,n,c,rfl,_⟩:=h;exact ⟨_,A,n,c,rfl⟩
theorem AL.in_ {w:World} {v:Value} {Z:Int} {k:Nat} (h:AL w v Z k):Cy w v Z k:=by obtain ⟨A,n,c,rfl,h1,h2,h3,h4⟩:=h;exact ⟨_,A,n,c,_,rfl,h1,h2,h3,h4,by rw[Limb.val_canon,Ni]⟩
theorem Cy.below {w w':World} {v:Value} {Z:Int} {k:Nat} (h:Cy w v Z k) (hb:Below w.heap.size w w'):Cy w' v Z k:=by obtain ⟨s,A,n,c,xs,rfl,h1,h2,h3,h4,h5⟩:=h;exact ⟨s,A,n,c,xs,rfl,h1.below hb,h2,h3,h4,h5⟩
theorem AL.below {w w':World} {v:Value} {Z:Int} {k:Nat} (h:AL w v Z k) (hb:Below w.heap.size w w'):AL w' v Z k:=by obtain ⟨A,n,c,rfl,h1,h2,h3,h4⟩:=h;exact ⟨A,n,c,rfl,h1.below hb,h2,h3,h4⟩
theorem Cy.mono {w:World} {v:Value} {Z:Int} {k j:Nat} (h:Cy w v Z k) (hj:k<=j):Cy w v Z j:=by obtain ⟨s,A,n,c,xs,rfl,h1,h2,h3,h4,h5⟩:=h;exact ⟨s,A,n,c,xs,rfl,h1,h2,h3,by omega,h5⟩
theorem Cy.lt {w:World} {v:Value} {Z:Int} {k:Nat} (h:Cy w v Z k):Z.natAbs<4294967296^k:=by obtain ⟨s,A,n,c,xs,rfl,h1,h2,h3,h4,rfl⟩:=h;rw[Ek];exact Nat.lt_of_lt_of_le h1.lt (Limb.pow_mono h4)
theorem AL.only {w w':World} {v:Value} {Z:Int} {k g:Nat} {s:Bool} {B:Option Addr} {m d:Nat} (h:AL w v Z k) (hb:CE w g #[.bool s,.slice B m d]) (ho:Ai g w w'):AL w' v Z k:=by obtain ⟨A,n,c,rfl,h1,h2,h3,h4⟩:=h;exact ⟨A,n,c,rfl,h1.keepBlk hb ho,h2,h3,h4⟩
theorem AL.zero (w:World) (k:Nat):AL w (.agg #[.bool false,.slice none 0 0]) 0 k:=⟨none,0,0,rfl,Nums.nil _ _,by omega,by omega,by omega⟩
theorem AL.ofEq {w:World} {v:Value} {Z Y:Int} {k:Nat} (h:AL w v Z k) (e:Z=Y):AL w v Y k:=e▸h
def Do (Z:Int) (k:Nat) (w:World) (e:Ending) (w':World):Prop:=∃v,e=.returned v/\AL w' v Z k/\Below w.heap.size w w'
def O1 (s:Bool) (A:Option Addr) (n c N:Nat) (w:World) (e:Ending) (w':World):Prop:=e=.returned (.agg #[.bool (decide (sg s N<0)),.slice A n c])/\Below w.heap.size w w'
theorem CF (s:Bool) (A:Option Addr) (n c N:Nat) (w:World) (hn:n=(Limb.canon N).length) (hm:n<=9223372036854775807) :
   Calls Tryz.prog 119 #[.bool s,.slice A n c] w (O1 s A n c N w):=by
 by_cases h0:N=0
 · subst h0;obtain rfl:n=0:=hn;cases s with
   |true=>
    go_enter Tryz.func119,Tryz.ntmps119;go_wp2_with fail;refine Au rfl rfl (CE.new _ _) rfl ?_;exact ⟨rfl,Ae _ _⟩
   |false=>
    go_enter Tryz.func119,Tryz.ntmps119;go_wp2_with fail;refine Au rfl rfl (CE.new _ _) rfl ?_;exact ⟨rfl,Ae _ _⟩
 · have hp:0<n:=by
    rcases Nat.eq_zero_or_pos n with h|h
    · exact absurd ((Limb.canon_len_zero N).1 (by omega)) h0
    · exact h
   have hs:=Aa (Tq s N (Nat.pos_of_ne_zero h0));clear hn h0;cases s with
   |true=>
    go_enter Tryz.func119,Tryz.ntmps119;go_wp2_with fail;refine Au rfl rfl (CE.new _ _) rfl ?_;exact ⟨by rw[hs.out],Ae _ _⟩
   |false=> go_enter Tryz.func119,Tryz.ntmps119;go_wp2_with fail;refine Au rfl rfl (CE.new _ _) rfl ?_;exact ⟨by rw[hs.out],Ae _ _⟩
theorem Bg {w w1 w2:World} {g:Nat} (h1:Below w.heap.size w w1) (hg:w.heap.size<=g) (ho:Ai g w1 w2):Below w.heap.size w w2:=h1.trans (ho.below h1.size hg)
theorem DR {w:World} {base:Nat} {A:Option Addr} {n c N k:Nat} {s:Bool} (o:Own w base A n c N) (hN:N<4294967296^k):AL w (.agg #[.bool (decide (sg s N<0)),.slice A n c]) (sg s N) k:=by have:=o.2.2.1;exact ⟨A,n,c,rfl,by rw[Ek];exact o.nums,o.2.1,by omega,Bj o.nums hN⟩
theorem Nj (s:Bool) (A:Option Addr) (n c k:Nat) (xs:List Nat) (w:World) (hx:Nums w A n xs) (hc:n<=c) (hm:c<=9223372036854775807) (hk:n<=k) (hb:k<=1099511627776) :
  Calls Tryz.prog 123 #[.bool s,.slice A n c] w (Do (sg s (Limb.val xs)) k w):=by
 obtain ⟨z1,z2,z3⟩:=Dn w #[.bool false,.slice none 0 0];have hlt:=Aa (Nat.lt_of_lt_of_le hx.lt (Limb.pow_mono hk));go_enter Tryz.func123,Tryz.ntmps123;go_wp2_with fail;refine (MQ A n c xs _ (hx.below z2) hc hm (by omega)).mono ?_;rintro e w1 ⟨A1,n1,rfl,o1,b1⟩;have l1:=I7 o1;have k1:=z1.next b1;go_wp2_with fail;refine (CF s A1 n1 n1 (Limb.val xs) w1 o1.len (by omega)).mono ?_;rintro e w2 ⟨rfl,b2⟩;have k2:=k1.next b2;have r2:=(DR (s:=s) o1 hlt.out).below b2
 go_wp2_with (with_reducible refine Aj rfl _ _ rfl w.heap.size _ _ _ _ rfl rfl _ _ k2 ?_;intro w3 k3 ho3);refine Au rfl rfl k3 rfl ?_;exact ⟨_,rfl,r2.only k2 ho3,Bg ((z2.next b1).next b2) (Nat.le_refl _) ho3⟩
def Hq (Z:Int) (w:World) (e:Ending) (w':World):Prop:=e=.returned (.int .i64 Z.sign)/\Below w.heap.size w w'
theorem O2 (v:Value) (Z:Int) (k:Nat) (w:World) (hv:Cy w v Z k) (hk:k<=1099511627776):Calls Tryz.prog 125 #[v] w (Hq Z w):=by
 obtain ⟨s,A,n,c,xs,rfl,hx,hc,hm,hn,rfl⟩:=hv;obtain ⟨z1,z2,z3⟩:=Dn w #[.bool s,.slice A n c];have hbits:=Tj A n c xs _ (hx.below z2) hc hm (by omega);unfold Nf at hbits;generalize Limb.val xs=N at *;by_cases h0:N=0
 · subst h0;rw[show Limb.bl 0=0 from rfl]at hbits;rw[Gr];go_enter Tryz.func125,Tryz.ntmps125;go_wp2_with fail;refine hbits.mono ?_;rintro e w' ⟨rfl,rfl⟩;go_wp2_with fail;go_ret
   exact ⟨rfl,z2⟩
 · have h1:((Limb.bl N:Int)==0)=false:=by
    have:=mt (Limb.bl_eq_zero N).1 h0;simp;omega
   generalize Limb.bl N=q at *;cases s with
   |true=>
    have hs:Hid (Int.sign (sg true N)=-1):=(by show _=_;rw[Gq];exact Int.sign_eq_neg_one_of_neg (by omega));go_enter Tryz.func125,Tryz.ntmps125;go_wp2_with fail;refine hbits.mono ?_;rintro e w' ⟨rfl,rfl⟩;go_wp2_with fail;go_ret
    exact ⟨by rw[hs.out];rfl,z2⟩
   |false=>
    have hs:Hid (Int.sign (sg false N)=1):=(by show _=_;rw[EV];exact Int.sign_eq_one_of_pos (by omega));go_enter Tryz.func125,Tryz.ntmps125;go_wp2_with fail;refine hbits.mono ?_;rintro e w' ⟨rfl,rfl⟩;go_wp2_with fail;go_ret
    exact ⟨by rw[hs.out];rfl,z2⟩
theorem Ts (s:Bool) (n:Nat):sg (!s) n=-sg s n:=by cases s<;>simp[sg]
theorem Nk (v:Value) (Z:Int) (k:Nat) (w:World) (hv:Cy w v Z k) (hk:k<=1099511627776):Calls Tryz.prog 86 #[v] w (Do (-Z) k w):=by
 obtain ⟨s,A,n,c,xs,rfl,hx,hc,hm,hn,rfl⟩:=hv;obtain ⟨z0,z1,z2,z3⟩:=Fz w #[.bool s,.slice A n c] #[.bool false,.slice none 0 0];have hf:=Nj (!s) A n c k xs _ (hx.below z2) hc hm hn hk;rw[Ts]at hf;go_enter Tryz.func86,Tryz.ntmps86;go_wp2_with fail;refine hf.mono ?_;rintro e w1 ⟨v1,rfl,r1,b1⟩;obtain ⟨s1,A1,n1,c1,rfl⟩:=r1.form;have k1:=z1.next b1;go_wp2_with (with_reducible refine Aj rfl _ _ rfl (w.heap.size+1) _ _ _ _ rfl rfl _ _ k1 ?_;intro w3 k3 ho3)
 refine Au rfl rfl k3 rfl ?_;exact ⟨_,rfl,r1.only k1 ho3,Bg (z2.next b1) (by omega) ho3⟩
end
section
open Go.RowKit
open Limb (limb AK upto upto_succ Az AA)
def Tt (Z Y:Int) (w:World) (e:Ending) (w':World):Prop:=e=.returned (.int .i64 (Cn Z Y))/\Below w.heap.size w w'
theorem Vf {a b:Int} (h:a<b):Cn a b=-1:=by unfold Cn;rw[if_pos h]
theorem Vg {a b:Int} (h:b<a):Cn a b=1:=by unfold Cn;rw[if_neg (by omega),if_pos h]
theorem O4 (Z:Int):-1<=Z.sign/\Z.sign<=1:=by
 rcases Int.lt_trichotomy Z 0 with h1|h1|h1
 · rw[Int.sign_eq_neg_one_of_neg h1];omega
 · subst h1;rw[Int.sign_zero];omega
 · rw[Int.sign_eq_one_of_pos h1];omega
end
end Go.Proofs.YtgohmojcopajoaaGreatDoor.Nu
