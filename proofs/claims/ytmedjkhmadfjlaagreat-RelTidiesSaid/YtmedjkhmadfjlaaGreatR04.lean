/- Texts of one seat, put together: RefA Of Alive1 Mul MulB. -/
import Derived.Test.YtmedjkhmadfjlaaGreatR03
import Derived.Deep.RegionHeld3
import Derived.BigRegion
set_option linter.unusedVariables false
set_option linter.unusedSimpArgs false
set_option maxRecDepth 100000
set_option maxHeartbeats 16000000
namespace Go.Proofs.YtmedjkhmadfjlaaGreat
section
open Go.RowKit
open Limb (limb AQ upto upto_succ Az AC)
def Ld (xs ys os:List Nat) (k z:Nat):Prop:=os.length=k/\Limb.val os+4294967296^k*z=upto xs k+upto ys k
theorem Ld.step {xs ys os:List Nat} {k z:Nat} (h:Ld xs ys os k z):Ld xs ys (os++[(limb xs k+limb ys k+z)%4294967296]) (k+1) ((limb xs k+limb ys k+z)/4294967296):=by
 obtain ⟨hl,hv⟩:=h;refine ⟨by simp[hl],?_⟩;rw[Limb.val_append,hl,upto_succ,upto_succ];have e:Limb.val [(limb xs k+limb ys k+z)%4294967296]=(limb xs k+limb ys k+z)%4294967296:=by simp[Limb.val]
 rw[e,Nat.pow_succ,Nat.mul_assoc];have e2:4294967296^k*((limb xs k+limb ys k+z)%4294967296)+4294967296^k*(4294967296*((limb xs k+limb ys k+z)/4294967296))=4294967296^k*limb xs k+4294967296^k*limb ys k+4294967296^k*z:=by
  rw[<-Nat.mul_add,<-Nat.mul_add,<-Nat.mul_add];congr 1
  omega
 omega
theorem Ld.done {xs ys os:List Nat} {k z:Nat} (h:Ld xs ys os k z) (hx:Limb.Ok xs) (hy:Limb.Ok ys) (h1:xs.length+1<=k) (h2:ys.length+1<=k):Limb.val os=Limb.val xs+Limb.val ys:=by obtain ⟨hl,hv⟩:=h;rw[Az xs k (by omega),Az ys k (by omega)]at hv;obtain ⟨j,rfl⟩:∃j,k=j+1:=⟨k-1,by omega⟩;have b1:=Nat.lt_of_lt_of_le (Limb.val_lt xs hx) (Limb.pow_mono (show xs.length<=j by omega));have b2:=Nat.lt_of_lt_of_le (Limb.val_lt ys hy) (Limb.pow_mono (show ys.length<=j by omega));refine Limb.carry_zero _ _ _ _ hv ?_;rw[Nat.pow_succ];exact Limb.sum_lt _ _ _ b1 b2
theorem FM (A B:Option Addr) (n c m d:Nat) (xs ys:List Nat) (w:World) (hx:Av w A n xs) (hy:Av w B m ys) (hn:n<=549755813888) (hm:m<=549755813888) :
  Calls Tryz.prog 95 #[.slice A n c,.slice B m d] w (Ge (Limb.val xs+Limb.val ys) w):=by
 obtain ⟨hm1,hm2,hm3⟩:=Rf n m;have hle:mx n m<=549755813888:=by omega
 clear hm3;go_enter Tryz.func95,Tryz.ntmps95;go_wp2_with fail;go_loopw [5,6,7] (fun v cz i wr=>∃k z:Nat,∃os:List Nat,k<=mx n m+1/\z<=1/\i=.int .i64 (k:Int)/\cz=.int .u64 (z:Int)/\KE wr w.heap.size v os/\Below w.heap.size w wr/\Hid (Ld xs ys os k z)) (fun _ _ i _=>mx n m+1-(intOf i).toNat)
 case atStart=>exact ⟨0,0,[],Nat.zero_le _,Nat.zero_le _,rfl,rfl,KE.empty w _ (Nat.le_refl _),(Below.refl _ _).alloc (Nat.le_refl _) _,⟨rfl,by simp[Limb.val,upto]⟩⟩
 case round=>
  obtain ⟨k,z,os,hk,hz,rfl,rfl,hL,hB,HA⟩:=hrel;have hol:os.length<=4398046511104:=by rw[HA.out.1];omega
  have hxk:=AQ hx.ok k;have hyk:=AQ hy.ok k;by_cases hkn:k<=mx n m
  · go_wp2_with fail;refine (Et A B n c m d wr (by omega) (by omega)).mono ?_;rintro e w' ⟨rfl,rfl⟩;go_wp2_with fail;refine (De A n c xs k wr (hx.below hB) (by omega)).mono ?_;rintro e w' ⟨rfl,rfl⟩;go_wp2_with fail;refine (De B m d ys k wr (hy.below hB) (by omega)).mono ?_;rintro e w' ⟨rfl,rfl⟩
    go_wp2_with (at_builtin;refine BP _ rfl _ _ rfl w.heap.size _ _ rfl (hL.alloc _) _ ((limb xs k+limb ys k+z)%4294967296) rfl (Gd _ _ _ _ (by omega)) (by omega) hol (by have:=hB.size;simp;omega) ?_;intro v' w1 hL1 hB1);go_roundw
    case rel=>exact ⟨k+1,(limb xs k+limb ys k+z)/4294967296,_,by omega,by omega,by go_num,by go_num,hL1,(hB.alloc hB.size _).trans hB1,HA.out.step⟩
    case measure=>simp[intOf]<;>omega
  · go_wp2_with fail;refine (Et A B n c m d wr (by omega) (by omega)).mono ?_;rintro e w' ⟨rfl,rfl⟩;obtain ⟨A1,c1,rfl,hN,hc1,hc2⟩:=hL.form;have hv:=HA.out.done hx.ok hy.ok (by rw[hx.len];omega) (by rw[hy.len];omega);have HV:=Lib.hid hv;have hol2:os.length<=1099511627776:=(by rw[HA.out.1];omega);clear hL hv;go_wp2_with fail;refine (Cf A1 _ c1 os wr hN hol2).mono ?_;rintro e w2 ⟨A2,n2,c2,rfl,hN2,h1,h2,hB2⟩;rw[HV.out]at hN2;go_wp2_with fail;go_ret
    exact ⟨A2,n2,c2,rfl,hN2,h1,h2,hB.trans (hB2.mono hB.size)⟩
def Le (xs ys os:List Nat) (k z:Nat):Prop:=os.length=k/\Limb.val os+upto ys k=upto xs k+4294967296^k*z
theorem To (v U X p s y z x c:Nat) (h:v+U=X+p*z) (hs:s+y+z=x+4294967296*c):v+p*s+(U+p*y)=X+p*x+p*(4294967296*c):=by
 have e:p*(s+y+z)=p*(x+4294967296*c):=by rw[hs]
 rw[Nat.mul_add,Nat.mul_add,Nat.mul_add]at e;omega
theorem Rl (x y z:Nat) (hx:x<4294967296) (hy:y<4294967296) (hz:z<=1):(x+4294967296-y-z)%4294967296+y+z=x+4294967296*(1-(x+4294967296-y-z)/4294967296):=by omega
theorem Le.step {xs ys os:List Nat} {k z:Nat} (h:Le xs ys os k z) (s c:Nat) (hs:s+limb ys k+z=limb xs k+4294967296*c):Le xs ys (os++[s]) (k+1) c:=by
 obtain ⟨hl,hv⟩:=h;refine ⟨by simp[hl],?_⟩;have e:Limb.val [s]=s:=by simp[Limb.val]
 rw[Limb.val_append,hl,upto_succ,upto_succ,e,Nat.pow_succ,Nat.mul_assoc];exact To _ _ _ _ _ _ _ _ _ hv hs
theorem Le.done {xs ys os:List Nat} {k z:Nat} (h:Le xs ys os k z) (ho:Limb.Ok os) (h1:xs.length<=k) (h2:ys.length<=k) (hle:Limb.val ys<=Limb.val xs):Limb.val os=Limb.val xs-Limb.val ys:=by obtain ⟨hl,hv⟩:=h;rw[Az xs k (by omega),Az ys k (by omega)]at hv;have b1:=Limb.val_lt os ho;rw[hl]at b1;exact Limb.borrow_zero _ _ _ _ _ hv b1 hle
def LI (w:World) (e:Ending) (w':World):Prop:=e=.returned (.tuple #[.slice none 0 0,.bool false])/\w=w'
def KF (N:Nat) (w:World) (e:Ending) (w':World):Prop:=∃A n c,e=.returned (.tuple #[.slice A n c,.bool true])/\Av w' A n (Limb.canon N)/\n<=c/\c<=9223372036854775807/\Below w.heap.size w w'
theorem Pg (A B:Option Addr) (n c m d:Nat) (xs ys:List Nat) (w:World) (hx:Av w A n xs) (hy:Av w B m ys) (hn:n<=9223372036854775807) (hm:m<=9223372036854775807) (hlt:Limb.val xs<Limb.val ys) :
  Calls Tryz.prog 144 #[.slice A n c,.slice B m d] w (LI w):=by
 have h0:=OZ hlt;clear hlt;go_enter Tryz.func144,Tryz.ntmps144;go_wp2_with fail;refine (M6 A B n c m d xs ys w hx hy hn hm).mono ?_;rintro e w' ⟨rfl,rfl⟩;go_wp2_with fail;go_ret2
 exact ⟨rfl,rfl⟩
theorem Jv (A B:Option Addr) (n c m d:Nat) (xs ys:List Nat) (w:World) (hx:Av w A n xs) (hy:Av w B m ys) (hn:n<=549755813888) (hm:m<=549755813888) (hle:Limb.val ys<=Limb.val xs) :
  Calls Tryz.prog 144 #[.slice A n c,.slice B m d] w (KF (Limb.val xs-Limb.val ys) w):=by
 obtain ⟨hm1,hm2,hm3⟩:=Rf n m;have hlm:mx n m<=549755813888:=by omega
 clear hm3;have h0:=Pa hle;have HLE:=Ac hle;clear hle;go_enter Tryz.func144,Tryz.ntmps144;go_wp2_with fail;refine (M6 A B n c m d xs ys w hx hy (by omega) (by omega)).mono ?_;rintro e w' ⟨rfl,rfl⟩;go_wp2_with fail;go_loopw [6,7,8] (fun v cz i wr=>∃k z:Nat,∃os:List Nat,k<=mx n m/\z<=1/\i=.int .i64 (k:Int)/\cz=.int .u64 (z:Int)/\KE wr w.heap.size v os/\Below w.heap.size w wr/\Hid (Le xs ys os k z)) (fun _ _ i _=>mx n m-(intOf i).toNat)
 case atStart=>exact ⟨0,0,[],Nat.zero_le _,Nat.zero_le _,rfl,rfl,KE.empty w _ (Nat.le_refl _),(Below.refl _ _).alloc (Nat.le_refl _) _,⟨rfl,by simp[Limb.val,upto]⟩⟩
 case round=>
  obtain ⟨k,z,os,hk,hz,rfl,rfl,hL,hB,HA⟩:=hrel;have hol:os.length<=4398046511104:=by rw[HA.out.1];omega
  have hxk:=AQ hx.ok k;have hyk:=AQ hy.ok k;by_cases hkn:k<mx n m
  · go_wp2_with fail;refine (Et A B n c m d wr (by omega) (by omega)).mono ?_;rintro e w' ⟨rfl,rfl⟩;go_wp2_with fail;refine (De A n c xs k wr (hx.below hB) (by omega)).mono ?_;rintro e w' ⟨rfl,rfl⟩;go_wp2_with fail;refine (De B m d ys k wr (hy.below hB) (by omega)).mono ?_;rintro e w' ⟨rfl,rfl⟩
    go_wp2_with (at_builtin;refine BP _ rfl _ _ rfl w.heap.size _ _ rfl (hL.alloc _) _ ((limb xs k+4294967296-limb ys k-z)%4294967296) rfl (Gd _ _ _ _ (by omega)) (by omega) hol (by have:=hB.size;simp;omega) ?_;intro v' w1 hL1 hB1);go_roundw
    case rel=>exact ⟨k+1,1-(limb xs k+4294967296-limb ys k-z)/4294967296,_,by omega,by omega,by go_num,by go_num,hL1,(hB.alloc hB.size _).trans hB1,HA.out.step _ _ (Rl _ _ _ hxk hyk hz)⟩
    case measure=>simp[intOf]<;>omega
  · go_wp2_with fail;refine (Et A B n c m d wr (by omega) (by omega)).mono ?_;rintro e w' ⟨rfl,rfl⟩;obtain ⟨A1,c1,rfl,hN,hc1,hc2⟩:=hL.form;have hv:=HA.out.done hL.ok (by rw[hx.len];omega) (by rw[hy.len];omega) HLE.out;have HV:=Lib.hid hv;have hol2:os.length<=1099511627776:=(by rw[HA.out.1];omega);clear hL hv;go_wp2_with fail;refine (Cf A1 _ c1 os wr hN hol2).mono ?_;rintro e w2 ⟨A2,n2,c2,rfl,hN2,h1,h2,hB2⟩;rw[HV.out]at hN2;go_wp2_with fail;go_ret2
    exact ⟨A2,n2,c2,rfl,hN2,h1,h2,hB.trans (hB2.mono hB.size)⟩
def Lf (xs os:List Nat) (m k z:Nat):Prop:=os.length=k/\Limb.val os+4294967296^k*z=upto xs k*m
theorem Lf.step {xs os:List Nat} {m k z:Nat} (h:Lf xs os m k z):Lf xs (os++[(limb xs k*m+z)%4294967296]) m (k+1) ((limb xs k*m+z)/4294967296):=by
 obtain ⟨hl,hv⟩:=h;refine ⟨by simp[hl],?_⟩;rw[Limb.val_append,hl,upto_succ,Nat.add_mul,<-hv];have e:Limb.val [(limb xs k*m+z)%4294967296]=(limb xs k*m+z)%4294967296:=by simp[Limb.val]
 rw[e,Nat.pow_succ,Nat.mul_assoc,Nat.mul_assoc];have e2:4294967296^k*((limb xs k*m+z)%4294967296)+4294967296^k*(4294967296*((limb xs k*m+z)/4294967296))=4294967296^k*(limb xs k*m)+4294967296^k*z:=by
  rw[<-Nat.mul_add,<-Nat.mul_add];congr 1
  omega
 omega
theorem Lf.done {xs os:List Nat} {m k z:Nat} (h:Lf xs os m k z) (h1:xs.length<=k):Limb.val (os++[z])=Limb.val xs*m:=by
 obtain ⟨hl,hv⟩:=h;rw[Az xs k h1]at hv;rw[Limb.val_append,hl];have e:Limb.val [z]=z:=by simp[Limb.val]
 rw[e];exact hv
theorem IY (x m:Nat) (hx:x<4294967296) (hm:m<4294967296):x*m<=18446744065119617025:=by have:=Nat.mul_le_mul (show x<=4294967295 by omega) (show m<=4294967295 by omega);omega
theorem GY (x m:Nat) (hx:x<4294967296) (hm:m<4294967296):(x:Int)*(m:Int)<=18446744065119617025/\0<=(x:Int)*(m:Int)/\(x:Int)*(m:Int)=((x*m:Nat):Int):=by have h:=IY x m hx hm;rw[<-Int.natCast_mul];omega
theorem Ia (A:Option Addr) (n c:Nat) (xs:List Nat) (m:Nat) (w:World) (hx:Av w A n xs) (hn:n<=549755813888) (hm:m<4294967296) :
  Calls Tryz.prog 145 #[.slice A n c,.int .u64 (m:Int)] w (Ge (Limb.val xs*m) w):=by
 go_enter Tryz.func145,Tryz.ntmps145;go_wp2_with fail;go_loopw [5,6,7] (fun v cz i wr=>∃k z:Nat,∃os:List Nat,k<=n/\z<4294967296/\i=.int .i64 (k:Int)/\cz=.int .u64 (z:Int)/\KE wr w.heap.size v os/\Below w.heap.size w wr/\Hid (Lf xs os m k z)) (fun _ _ i _=>n-(intOf i).toNat)
 case atStart=>exact ⟨0,0,[],Nat.zero_le _,by omega,rfl,rfl,KE.empty w _ (Nat.le_refl _),(Below.refl _ _).alloc (Nat.le_refl _) _,⟨rfl,by simp[Limb.val,upto]⟩⟩
 case round=>
  obtain ⟨k,z,os,hk,hz,rfl,rfl,hL,hB,HA⟩:=hrel;have hol:os.length<=4398046511104:=by rw[HA.out.1];omega
  have hxk:=AQ hx.ok k;by_cases hkn:k<n
  · have hpn:=IY _ _ hxk hm;obtain ⟨hp1,hp2,hp3⟩:=GY _ _ hxk hm;have HP:=Lib.hid hp3;clear hp3;go_wp2_with fail;refine (De A n c xs k wr (hx.below hB) (by omega)).mono ?_;rintro e w' ⟨rfl,rfl⟩;go_wp2_with (at_builtin;refine BP _ rfl _ _ rfl w.heap.size _ _ rfl (hL.alloc _) _ ((limb xs k*m+z)%4294967296) rfl (Gd _ _ _ _ (by have:=HP.out;omega)) (by omega) hol (by have:=hB.size;simp;omega) ?_;intro v' w1 hL1 hB1);go_roundw
    case rel=>exact ⟨k+1,(limb xs k*m+z)/4294967296,_,by omega,by omega,by go_num,by have:=HP.out;congr 1<;>omega,hL1,(hB.alloc hB.size _).trans hB1,HA.out.step⟩
    case measure=>simp[intOf]<;>omega
  · have hv:=HA.out.done (by rw[hx.len];omega);have HV:=Lib.hid hv;have hol2:os.length+1<=1099511627776:=(by rw[HA.out.1];omega);clear hv;go_wp2_with (at_builtin;refine BP _ rfl _ _ rfl w.heap.size _ _ rfl (hL.alloc _) _ z rfl (Gd _ _ _ _ (by omega)) hz hol (by have:=hB.size;simp;omega) ?_;intro v' w1 hL1 hB1;obtain ⟨A1,c1,rfl,hN,hc1,hc2⟩:=hL1.form);refine (Cf A1 (os.length+1) c1 _ w1 (by simpa using hN) hol2).mono ?_;rintro e w2 ⟨A2,n2,c2,rfl,hN2,h1,h2,hB2⟩
    rw[HV.out]at hN2;go_wp2_with fail;go_ret
    have hB3:Below w.heap.size w w1:=(hB.alloc hB.size _).trans hB1;exact ⟨A2,n2,c2,rfl,hN2,h1,h2,hB3.trans (hB2.mono hB3.size)⟩
end
section
open Go.RowKit
theorem Row.new (w:World) (zs:List Nat) (us:Array Value) (h:us=(Cy zs).toArray):Row (w.alloc (.cells us 122)) w.heap.size zs:=by unfold Row;rw[h];exact heap_alloc_new w _
theorem Rm (N:Nat) (w:World) (h:N/4294967296<4294967296) :
  Calls Tryz.prog 101 #[.int .u64 (N:Int)] w (CO N w):=by
 go_enter Tryz.func101,Tryz.ntmps101;go_wp2_with fail;have hr:=Row.new w [N%4294967296,N/4294967296] #[.int .u32 ((N:Int)%4294967296),.int .u32 ((N:Int)/4294967296)] (by simp[Cy]);refine (BU w.heap.size 2 2 N w.heap.size _ _ hr (Limb.Ok.cons (by omega) (Limb.Ok.cons h Limb.Ok.nil)) (by simp) (by omega) (by omega) (Nat.le_refl _) (by simp[Limb.val];omega)).mono ?_;rintro e w' ⟨A',m,rfl,how,rfl⟩;go_wp2_with fail;go_ret
 exact ⟨A',m,rfl,how,(Below.refl _ _).alloc (Nat.le_refl _) _⟩
theorem of_int (v:Int) (N:Nat) (w:World) (hv:v=(N:Int)) (h:N/4294967296<4294967296):Calls Tryz.prog 101 #[.int .u64 v] w (CO N w):=by subst hv;exact Rm N w h
theorem Av.new (w:World) (xs:List Nat) (us:Array Value) (h:us=(Cy xs).toArray) (ho:Limb.Ok xs) (n:Nat) (hn:n=xs.length):Av (w.alloc (.cells us 122)) (some ⟨w.heap.size,0,none⟩) n xs:=by subst hn;have:=(Row.new w xs us h).nums ho (o:=0) (n:=xs.length) (by omega);simpa using this
def Ek (w:World) (e:Ending) (w':World):Prop:=e=.returned (.bool true)/\Below w.heap.size w w'
def UB (b:Bool) (w:World) (e:Ending) (w':World):Prop:=e=.returned (.bool b)/\w=w'
end
section
open Go.RowKit
theorem PK (x:Nat) (h0:x≠0) (h:x<4294967296):Limb.canon x=[x]:=by
 rw[Limb.canon_pos x h0];have e1:x%4294967296=x:=by omega
 have e2:x/4294967296=0:=by omega
 rw[e1,e2,Limb.canon_zero]
theorem Vw (w:World) (x N:Nat) (us:Array Value) (hus:us=(Cy [x]).toArray) (h0:x≠0) (h:x<4294967296) (hN:x=N):Av (w.alloc (.cells us 122)) (some ⟨w.heap.size,0,none⟩) 1 (Limb.canon N):=by subst hN;rw[PK x h0 h];exact Av.new w [x] us hus (Limb.Ok.cons h Limb.Ok.nil) 1 rfl
theorem AS {w:World} {A:Option Addr} {n N k:Nat} (h:Av w A n (Limb.canon N)) (hN:N<4294967296^k):n<=k:=by rw[<-h.len];exact Limb.canon_len_le N k hN
end
section
open Go.RowKit
open Limb (limb AQ upto upto_succ Az AC)
theorem IZ (zs:List Nat) (o:Nat) (ws:List Nat) (h:o+ws.length<=zs.length) :
  Limb.val (put zs o ws)+4294967296^o*Limb.val (win zs o ws.length)=Limb.val zs+4294967296^o*Limb.val ws:=by
 have hl:(zs.take o).length=o:=by rw[List.length_take];omega
 have e1:Limb.val (put zs o ws)=Limb.val (zs.take o)+4294967296^o*(Limb.val ws+4294967296^ws.length*Limb.val (zs.drop (o+ws.length))):=by unfold put;rw[Limb.val_append,hl,Limb.val_append]
 have e2:Limb.val zs=Limb.val (zs.take o)+4294967296^o*(Limb.val (win zs o ws.length)+4294967296^ws.length*Limb.val (zs.drop (o+ws.length))):=by rw[Limb.val_take_drop zs o (by omega),Limb.val_take_drop (zs.drop o) ws.length (by rw[List.length_drop];omega),List.drop_drop];rfl
 rw[e1,e2,Nat.mul_add,Nat.mul_add];omega
theorem Jw (A:Option Addr) (n c k:Nat) (xs:List Nat) (w:World) (hx:Av w A n xs) (hk:k<=n) (hc:n<=c) (hm:c<=9223372036854775807) :
  Calls Tryz.prog 209 #[.slice A n c,.int .i64 (k:Int)] w (E7 A (Limb.val (xs.take k)) w):=by
 go_enter Tryz.func209,Tryz.ntmps209;go_wp2_with fail;refine (BL A k k (xs.take k) w (hx.take hk) (Nat.le_refl _) (by omega)).mono ?_;rintro e w' ⟨rfl,rfl⟩;go_wp2_with fail;go_ret
 exact ⟨rfl,rfl⟩
def Ha (g o m f:Nat) (zs xs:List Nat) (w:World) (k c:Nat) (wr:World):Prop:=
 ∃cur:List Nat,cur.length=m/\Limb.Ok cur/\Row wr g (put zs o cur)/\AA g w wr/\Limb.val cur+4294967296^k*c=Limb.val (win zs o m)+upto xs k*f
theorem Ha.start (g o m f:Nat) (zs xs:List Nat) (w:World) (hz:Limb.Ok zs) (hr:Row w g zs) (hn:o+m<=zs.length):Ha g o m f zs xs w 0 0 w:=
 ⟨win zs o m,win_length zs o m hn,H9 hz o m,by unfold win;rw[FL zs o m hn];exact hr,AA.refl g w,by simp[AC]⟩
theorem Ha.only {g o m f:Nat} {zs xs:List Nat} {w:World} {k c:Nat} {wr:World} (h:Ha g o m f zs xs w k c wr):AA g w wr:=by obtain ⟨_,_,_,_,hon,_⟩:=h;exact hon
theorem Ha.at_ {g o m f:Nat} {zs xs:List Nat} {w:World} {k c:Nat} {wr:World} (h:Ha g o m f zs xs w k c wr) (hn:o+m<=zs.length) (hk:k<m) :
   ∃z:Nat,z<4294967296/\wr.cell? ⟨g,o+k,none⟩=some (.int .u32 (z:Int))/\wr.frozen? ⟨g,o+k,none⟩=false /\
     ∀s c':Nat,s<4294967296->s+4294967296*c'=z+limb xs k*f+c->Ha g o m f zs xs w (k+1) c' (wr.setCell ⟨g,o+k,none⟩ (.int .u32 (s:Int))):=by
 obtain ⟨cur,hl,ho,hr,hon,hv⟩:=h;have hfit:o+cur.length<=zs.length:=by omega
 refine ⟨cur.getD k 0,ho.getD k,?_,hr.frozen _,fun s c' hs he=>?_⟩
 · rw[hr.cell (i:=o+k) (by rw[AM _ _ _ hfit];omega),FK zs o cur hfit k (by omega)]
 · refine ⟨cur.set k s,by simp[hl],ho.set k s hs,?_,hon.setCell _ _,?_⟩
   · rw[<-GX zs o cur hfit k s (by omega)];exact hr.set_ _ _
   · rw[Limb.step_set cur k s (limb xs k*f) c c' (by omega) _ hv he,upto_succ,Nat.add_mul,Nat.mul_assoc,Nat.add_assoc]
def UC (g o m f:Nat) (zs xs:List Nat) (w:World) (e:Ending) (w':World):Prop:=
 ∃(cur:List Nat) (cy:Nat),e=.returned (.int .u32 (cy:Int))/\cy<4294967296/\cur.length=m/\Limb.Ok cur/\Row w' g (put zs o cur)/\AA g w w'/\Hid (Limb.val cur+4294967296^m*cy=Limb.val (win zs o m)+Limb.val xs*f)
theorem Jx (g o m c f:Nat) (zs:List Nat) (A:Option Addr) (d:Nat) (xs:List Nat) (w:World) (hr:Row w g zs) (hz:Limb.Ok zs) (hn:o+m<=zs.length) (hc:m<=4611686018427387904) (hcc:m<=c)
  (hx:Av w A m xs) (hap:0<m->Apart A g) (hf:f<4294967296) :
  Calls Tryz.prog 208 #[.slice (some ⟨g,o,none⟩) m c,.slice A m d,.int .u32 (f:Int)] w (UC g o m f zs xs w):=by
 have R:=Ac (Ha.start g o m f zs xs w hz hr hn);clear hr hz;go_enter Tryz.func208,Tryz.ntmps208;go_wp2_with fail;go_loopw [7,12] (fun c i wr=>∃k z:Nat,k<=m/\z<4294967296/\i=.int .i64 (k:Int)/\c=.int .u64 (z:Int)/\Hid (Ha g o m f zs xs w k z wr)) (fun _ i _=>m-(intOf i).toNat)
 case atStart=>exact ⟨0,0,Nat.zero_le _,by omega,rfl,rfl,R.out⟩
 case round=>
  clear R;obtain ⟨k,z,hk,hz1,rfl,rfl,R⟩:=hrel;by_cases hkm:k<m
  · have hxr:=hx.grown R.out.only (hap (by omega));obtain ⟨b1,o1,y,rfl,hyb,hye,hyc⟩:=hxr.at_ hkm;obtain ⟨zz,hzz,hcell,hfroz,hstep⟩:=R.out.at_ hn hkm;have hpn:=IY _ _ hyb hf;obtain ⟨hp1,hp2,hp3⟩:=GY _ _ hyb hf;have HP:=Lib.hid hp3;have HY:=Lib.hid hye;have HS:=Ac hstep;clear hye hstep hp3 hxr;go_wp2_with fail;have es:((z:Int)+((y:Int)*(f:Int)+(zz:Int)))%4294967296=(((z+(y*f+zz))%4294967296:Nat):Int):=(by have:=HP.out;omega)
    have ec:((z:Int)+((y:Int)*(f:Int)+(zz:Int)))/4294967296=(((z+(y*f+zz))/4294967296:Nat):Int):=(by have:=HP.out;omega);rw[es,ec];clear es ec;go_roundw
    case rel=>exact ⟨k+1,_,by omega,by omega,by go_num,rfl,HS.out _ _ (by omega) (by have e:=HY.out;unfold limb;rw[<-e];omega)⟩
    case measure=>simp[intOf];omega
  · obtain rfl:k=m:=(by omega);clear hkm;go_wp2_with fail;go_ret
    obtain ⟨cur,hl,ho,hr,hon,hv⟩:=R.out;exact ⟨cur,z,rfl,hz1,hl,ho,hr,hon,by show _=_;rw[hv,Az xs k (by rw[hx.len];omega)]⟩
theorem CI (a b n m:Nat) (ha:a<4294967296^n) (hb:b<4294967296^m):a*b<4294967296^(n+m):=by rw[Nat.pow_add];exact Nat.mul_lt_mul'' ha hb
theorem E8 (ys:List Nat) (h:Limb.Ok ys) (k:Nat):upto ys k<4294967296^k:=by unfold upto;have h1:=Limb.val_lt (ys.take k) (h.take k);exact Nat.lt_of_lt_of_le h1 (Limb.pow_mono (by rw[List.length_take];omega))
theorem UD (V P Q W C2 c cy ay T new old:Nat) (h1:new+Q*old=P+Q*cy) (h0:old=0) (h2:P+c*W=V+c*C2) (h3:C2+T*cy=W+ay) (h4:Q=c*T):new=V+c*ay:=by
 subst h0;subst h4;have e:c*(C2+T*cy)=c*(W+ay):=by rw[h3]
 rw[Nat.mul_add,Nat.mul_add,<-Nat.mul_assoc]at e;rw[Nat.mul_zero]at h1;omega
def Uw (g n m:Nat) (xs ys:List Nat) (w:World) (k:Nat) (wr:World):Prop:=
 ∃cur:List Nat,cur.length=n+m/\Limb.Ok cur/\Row wr g cur/\Below w.heap.size w wr/\Limb.val cur=Limb.val xs*upto ys k
theorem Tp (cur cur2 xs ys:List Nat) (n m k cy:Nat) (hl:cur.length=n+m) (hx:Limb.val xs<4294967296^n) (hy:Limb.Ok ys) (hk:k<m) (hv:Limb.val cur=Limb.val xs*upto ys k) (hl2:cur2.length=n)
  (h:Limb.val cur2+4294967296^n*cy=Limb.val (win cur k n)+Limb.val xs*limb ys k):Limb.val ((put cur k cur2).set (k+n) cy)=Limb.val xs*upto ys (k+1):=by
 have hfit:k+cur2.length<=cur.length:=by omega
 have e1:=IZ cur k cur2 hfit;rw[hl2]at e1;have hlt:Limb.val cur<4294967296^(k+n):=by rw[hv,Nat.add_comm k n];exact CI _ _ _ _ hx (E8 ys hy k)
 have e2:=Limb.val_set (put cur k cur2) (k+n) cy (by rw[AM _ _ _ hfit];omega);have e3:(put cur k cur2).getD (k+n) 0=0:=by
  have h0:=Limb.limb_zero_of_lt cur (k+n) hlt;unfold limb at h0;unfold put;have hl3:(cur.take k).length=k:=by rw[List.length_take];omega
  rw[List.getD_eq_getElem?_getD,List.getElem?_append_right (by omega),hl3,List.getElem?_append_right (by omega),List.getElem?_drop,<-List.getD_eq_getElem?_getD,<-h0];congr 1
  omega
 have:=UD _ _ _ _ _ _ _ _ _ _ _ e2 e3 e1 h (Nat.pow_add 4294967296 k n);rw[this,hv,upto_succ,Nat.mul_add,Nat.mul_left_comm]
theorem Av.lt {w:World} {A:Option Addr} {n:Nat} {xs:List Nat} (h:Av w A n xs):Limb.val xs<4294967296^n:=by have:=Limb.val_lt xs h.ok;rwa [h.len]at this
theorem Eu (A B:Option Addr) (n c m d:Nat) (xs ys:List Nat) (w:World) (hx:Av w A n xs) (hcn:n<=c) (hc9:c<=9223372036854775807) (hn40:n<=1099511627776) (hy:Av w B m ys) (hdm:m<=d) (hd9:d<=9223372036854775807) (hmn:m<=n) :
  Calls Tryz.prog 189 #[.slice A n c,.slice B m d] w (CO (Limb.val xs*Limb.val ys) w):=by
 go_enter Tryz.func189,Tryz.ntmps189;go_wp2_with (at_make;refine Bl _ rfl _ _ rfl _ (n+m) rfl rfl (by omega) (by omega) ?_;intro w1 hr1 hb1 hs1);have R:Hid (Uw w.heap.size n m xs ys w 0 w1):=⟨List.replicate (n+m) 0,by simp,Limb.Ok.replicate _,hr1,hb1,by rw[Limb.val_replicate,AC,Nat.mul_zero]⟩;clear hr1;go_loopw [16] (fun i wr=>∃k:Nat,k<=m/\i=.int .i64 (k:Int)/\w.heap.size<wr.heap.size/\Hid (Uw w.heap.size n m xs ys w k wr)) (fun i _=>m-(intOf i).toNat)
 case atStart=>exact ⟨0,Nat.zero_le _,rfl,hs1,R.out⟩
 case round=>
  clear R hb1 hs1;obtain ⟨k,hk,rfl,hsz,R⟩:=hrel;obtain ⟨cur,hl,ho,hr,hb,hv⟩:=R.out;have HL:=Lib.hid hl;have HV:=Lib.hid hv;clear hv R;by_cases hkm:k<m
  · obtain ⟨b1,o1,y,rfl,hyb,hye,hyc⟩:=(hy.below hb).at_ hkm;have HY:=Lib.hid hye;clear hye hl;go_wp2_with fail;refine (Jx w.heap.size k n _ y cur A c xs wr hr ho (by rw[HL.out];omega) (by omega) (by omega) (hx.below hb) (fun h=>hx.apart h (Nat.le_refl _)) hyb).mono ?_;rintro e w2 ⟨cur2,cy,rfl,hcy,hl2,ho2,hr2,hon2,HE⟩;have HL2:=Lib.hid hl2;clear hl2;have hfit:k+cur2.length<=cur.length:=(by rw[HL.out,HL2.out];omega)
    have hc2:=hr2.cell (i:=k+n) (by rw[AM _ _ _ hfit,HL.out];omega);have hf2:=hr2.frozen (k+n);go_wp2_with fail;go_roundw
    case rel=>
     refine ⟨k+1,by omega,by go_num,by have:=hon2.size;simp[World.setCell];omega,_,?_,(DD ho k ho2).set (k+n) cy hcy,hr2.set_ _ _,(hb.trans (hon2.below (by omega) (Nat.le_refl _))).setCell (Nat.le_refl _) _,?_⟩
     · rw[List.length_set,AM _ _ _ hfit];exact HL.out
     · exact Tp cur cur2 xs ys n m k cy HL.out hx.lt hy.ok hkm HV.out HL2.out (by have e:=HY.out;unfold limb;rw[<-e];exact HE.out)
    case measure=>simp[intOf];omega
  · obtain rfl:k=m:=(by omega);clear hkm;go_wp2_with fail;refine (BU w.heap.size (n+k) _ (Limb.val xs*Limb.val ys) w.heap.size cur wr hr ho (by rw[hl];omega) (by omega) (by omega) (Nat.le_refl _) (by rw[List.take_of_length_le (by omega),HV.out,Az ys k (by rw[hy.len];omega)])).mono ?_;rintro e w4 ⟨A',j,rfl,how,rfl⟩;go_wp2_with fail;go_ret
    exact ⟨A',j,rfl,how,hb⟩
end
section
open Go.RowKit
open Limb (limb AQ upto upto_succ Az AC)
theorem GC (a:Nat):a<4294967296^L a:=Limb.canon_lt a
theorem LJ {a k:Nat} (h:a<4294967296^k):L a<=k:=Limb.canon_len_le a k h
theorem LK {a b:Nat} (h:a<=b):L a<=L b:=Limb.canon_len_mono h
theorem Rn:L 0=0:=rfl
theorem M7 (a b:Nat):L (a*b)<=L a+L b:=LJ (CI a b _ _ (GC a) (GC b))
theorem Ev (a k:Nat):(Limb.canon a).drop k=Limb.canon (a/4294967296^k):=by
 induction k generalizing a with
 |zero=>simp
 |succ k ih=>
  by_cases h:a=0
  · subst h;simp[Limb.canon_zero]
  · rw[Limb.canon_pos a h,List.drop_succ_cons,ih,Nat.pow_succ,Nat.mul_comm (4294967296^k),Nat.div_div_eq_div_mul]
theorem Dt (a k:Nat):Limb.val ((Limb.canon a).take k)=a%4294967296^k:=by
 by_cases h:k<=(Limb.canon a).length
 · have e:=Limb.val_take_drop (Limb.canon a) k h;rw[Limb.val_canon,Ev,Limb.val_canon]at e;have e2:=Nat.mod_add_div a (4294967296^k);omega
 · rw[List.take_of_length_le (by omega),Limb.val_canon,Nat.mod_eq_of_lt];exact Nat.lt_of_lt_of_le (Limb.canon_lt a) (Limb.pow_mono (by omega))
theorem Ro (a k:Nat):L (a/4294967296^k)=L a-k:=by unfold L;rw[<-Ev,List.length_drop]
theorem win_zero (zs:List Nat) (o n:Nat) (h:Limb.val zs<4294967296^o):Limb.val (win zs o n)=0:=by
 have e:∀i,limb (win zs o n) i=limb ([]:List Nat) i:=by
  intro i;have e0:limb ([]:List Nat) i=0:=Limb.limb_beyond (Nat.zero_le _);rw[e0];unfold win;by_cases hi:i<n
  · have h1:limb ((zs.drop o).take n) i=limb zs (o+i):=by
     unfold limb;rw[List.getD_eq_getElem?_getD,List.getD_eq_getElem?_getD,List.getElem?_take_of_lt hi,List.getElem?_drop]
    rw[h1];exact Limb.limb_zero_of_lt zs (o+i) (Nat.lt_of_lt_of_le h (Limb.pow_mono (by omega)))
  · exact Limb.limb_beyond (by rw[List.length_take];omega)
 rw[Limb.val_eq_of_limbs _ _ e];rfl
theorem Hb (zs:List Nat) (o:Nat) (ws:List Nat) (h:o+ws.length<=zs.length) (hz:Limb.val zs<4294967296^o):Limb.val (put zs o ws)=Limb.val zs+4294967296^o*Limb.val ws:=by have e:=IZ zs o ws h;rw[win_zero zs o ws.length hz,Nat.mul_zero]at e;omega
theorem Ph (zs:List Nat) (o n x:Nat) (hl:o+n=zs.length) (hlt:Limb.val zs+4294967296^o*x<4294967296^zs.length):Limb.val (put zs o (Limb.fixed n (Limb.val (win zs o n)+x)))=Limb.val zs+4294967296^o*x:=by
 have hf:(Limb.fixed n (Limb.val (win zs o n)+x)).length=n:=Limb.fixed_length _ _;have e:=IZ zs o (Limb.fixed n (Limb.val (win zs o n)+x)) (by omega);rw[hf,Limb.fixed_val]at e;have hw:4294967296^o*Limb.val (win zs o n)<=Limb.val zs:=by
  have e2:=Limb.val_take_drop zs o (by omega);have e3:win zs o n=zs.drop o:=by unfold win;rw[List.take_of_length_le (by rw[List.length_drop];omega)]
  rw[e3];omega
 have hs:Limb.val (win zs o n)+x<4294967296^n:=by
  have h1:4294967296^o*(Limb.val (win zs o n)+x)<4294967296^o*4294967296^n:=by rw[<-Nat.pow_add,hl,Nat.mul_add];omega
  exact Nat.lt_of_mul_lt_mul_left h1
 rw[Nat.mod_eq_of_lt hs,Nat.mul_add]at e;omega
theorem Rp (a b half n m:Nat) (hn:n=L a) (hm:m=L b) (h:half<=n) :
   (a%4294967296^half*b)+4294967296^half*(a/4294967296^half*b)=a*b/\a*b<4294967296^(n+m)/\L (a%4294967296^half*b)<=half+m/\L (a/4294967296^half*b)<=n-half+m:=by
 refine ⟨?_,?_,?_,?_⟩
 · rw[<-Nat.mul_assoc,<-Nat.add_mul,Nat.mod_add_div]
 · subst hn hm;exact CI a b _ _ (GC a) (GC b)
 · have h1:=M7 (a%4294967296^half) b;have h2:L (a%4294967296^half)<=half:=LJ (Nat.mod_lt _ (Nat.pow_pos (by omega)));omega
 · have h1:=M7 (a/4294967296^half) b;rw[Ro]at h1;omega
theorem Hc (A:Option Addr) (n c k a:Nat) (w:World) (hx:Av w A n (Limb.canon a)) (hk:k<=n) (hc:n<=c) (hm:c<=9223372036854775807) :
  Calls Tryz.prog 209 #[.slice A n c,.int .i64 (k:Int)] w (E7 A (a%4294967296^k) w):=by
 have h:=Jw A n c k _ w hx hk hc hm;rw[Dt]at h;exact h
theorem Lg (A:Option Addr) (n k a:Nat) (w:World) (hx:Av w A n (Limb.canon a)) (hk:k<=n):Av w (IF A (a%4294967296^k)) (L (a%4294967296^k)) (Limb.canon (a%4294967296^k)):=by have h:=(BX w A _ k (hx.take (k:=k) hk)).2.2.1;rw[Dt]at h;exact h
theorem Jy (A:Option Addr) (n c k a:Nat) (w:World) (hx:Av w A n (Limb.canon a)) (hk:k<n) (hc:n<=c):Av w (A.map (·.add k)) (n-k) (Limb.canon (a/4294967296^k)):=by have h:=hx.cut (k:=k) (cap:=c) (by omega) hc;rw[Ev,if_neg (by omega)]at h;exact h
def Eo (K:Nat):Prop:=∀(A B:Option Addr) (n c m d a b:Nat) (w:World),n+m<K->Av w A n (Limb.canon a)->n<=c->c<=9223372036854775807->Av w B m (Limb.canon b)->m<=d->d<=9223372036854775807->n+m<=549755813888 ->
 Calls Tryz.prog 147 #[.slice A n c,.slice B m d] w (CO (a*b) w)
theorem M8 (n m n2 low:Nat) (h:n2=(Limb.canon low).length) (hle:n2<=n+m) :
  Limb.Ok (put (List.replicate (n+m) 0) 0 (Limb.canon low))/\(put (List.replicate (n+m) 0) 0 (Limb.canon low)).length=n+m/\Limb.val (put (List.replicate (n+m) 0) 0 (Limb.canon low))=low:=by
 refine ⟨DD (Limb.Ok.replicate _) _ (Limb.ok_canon _),by rw[AM _ _ _ (by simp;omega)];simp,?_⟩;rw[Hb _ _ _ (by simp;omega) (by rw[Limb.val_replicate];exact Nat.pow_pos (by omega)),Limb.val_replicate,Limb.val_canon];simp
theorem E9 (A B:Option Addr) (n c m d a b half:Nat) (w:World) (IH:Eo (n+m)) (hx:Av w A n (Limb.canon a)) (hc:n<=c) (hm:c<=9223372036854775807) (hy:Av w B m (Limb.canon b)) (hd:m<=d) (hmd:d<=9223372036854775807) (h39:n+m<=549755813888)
  (hh:half<n) (hh0:0<half) :
  Calls Tryz.prog 190 #[.slice A n c,.slice B m d,.int .i64 (half:Int)] w (CO (a*b) w):=by
 have HT:=Ac (Rp a b half n m hx.len.symm hy.len.symm (by omega));have IHH:=Ac IH;clear IH;have ll:L (a%4294967296^half)<=half:=LJ (Nat.mod_lt _ (Nat.pow_pos (by omega)));go_enter Tryz.func190,Tryz.ntmps190;go_wp2_with (at_make;refine Bl _ rfl _ _ rfl _ (n+m) rfl rfl (by omega) (by omega) ?_;intro w1 hr1 hb1 hs1);refine (Jw A n c half _ w1 (hx.below hb1) (by omega) hc hm).mono ?_;rintro e w' ⟨rfl,rfl⟩;rw[Dt];go_wp2_with fail
 have hx1:=BX w1 A _ half ((hx.below hb1).take (k:=half) (by omega));rw[Dt]at hx1;refine (IHH.out (IF A (a%4294967296^half)) B _ _ m d (a%4294967296^half) b w1 (by omega) hx1.2.2.1 (Nat.le_refl _) (by omega) (hy.below hb1) hd hmd (by omega)).mono ?_;rintro e w2 ⟨A2,n2,rfl,o2,b2⟩;have l2:n2<=half+m:=by rw[o2.len];exact HT.out.2.2.1
 clear hx1;go_wp2_with (with_reducible refine Bw rfl _ _ rfl w.heap.size 0 _ _ _ _ n2 n2 rfl (fun _=>rfl) rfl _ _ (hr1.below b2 hs1) o2.nums (by omega) (by simp;omega) ?_;intro w3 hr3 ho3);have b3:Below w.heap.size w w3:=(hb1.next b2).trans (ho3.below (by have:=b2.size;omega) (Nat.le_refl _));have hx3:=(hx.below b3).cut (k:=half) (cap:=c) (by omega) hc;rw[Ev]at hx3;have hsz3:w.heap.size<w3.heap.size:=by have:=ho3.size;have:=b2.size;omega
 have f1:(half:Int)<=(n:Int)+(m:Int):=by omega
 have f2:(half:Int)<=(n:Int):=by omega
 have f3:(n+m=half)=False:=by simp;omega
 have f4:(c=half)=False:=by simp;omega
 rw[if_neg (by omega)]at hx3;have hr3:Row w3 w.heap.size (put (List.replicate (n+m) 0) 0 (Limb.canon (a%4294967296^half*b))):=hr3;have l3:n2<=n+m:=by omega
 have HN2:=Lib.hid o2.len;have HP:=Ac (M8 n m n2 (a%4294967296^half*b) HN2.out l3);generalize put (List.replicate (n+m) 0) 0 (Limb.canon (a%4294967296^half*b))=zs at hr3 HP;go_region_with (first
  |(go_at_call 147;refine (IHH.out _ B _ _ m d (a/4294967296^half) b _ (by omega) hx3.drew (by omega) (by omega) (hy.below b3).drew hd hmd (by omega)).mono ?_;rintro e w4 ⟨A4,n4,rfl,o4,b4⟩)
  |(go_at_call 192;(refine (Ds w.heap.size half (n+m-half) _ zs A4 n4 n4 _ _ (hr3.drew.below b4 hsz3) HP.out.1 (by rw[HP.out.2.1];omega) (by omega) o4.nums (by rw[o4.len];exact Nat.le_trans HT.out.2.2.2 (by omega)) (fun h=>o4.apart h hsz3)).mono ?_);rintro e w5 ⟨rfl,hr5,ho5⟩))
 go_wp2_with fail;have hv:Limb.val (put zs half (Limb.fixed (n+m-half) (Limb.val (win zs half (n+m-half))+Limb.val (Limb.canon (a/4294967296^half*b)))))=a*b:=by rw[Ph zs half _ _ (by rw[HP.out.2.1];omega) (by rw[HP.out.2.1,HP.out.2.2,Limb.val_canon,HT.out.1];exact HT.out.2.1),HP.out.2.2,Limb.val_canon,HT.out.1]
 have hlen:(put zs half (Limb.fixed (n+m-half) (Limb.val (win zs half (n+m-half))+Limb.val (Limb.canon (a/4294967296^half*b))))).length=n+m:=by rw[AM _ _ _ (by rw[Limb.fixed_length,HP.out.2.1];omega)];exact HP.out.2.1
 have hok:=DD HP.out.1 half (Limb.fixed_ok (n+m-half) (Limb.val (win zs half (n+m-half))+Limb.val (Limb.canon (a/4294967296^half*b))));refine (BU w.heap.size (n+m) _ (a*b) w.heap.size _ _ hr5 hok (by rw[hlen];exact Nat.le_refl _) (by omega) (by omega) (Nat.le_refl _) (by rw[List.take_of_length_le (by rw[hlen];exact Nat.le_refl _)];exact hv)).mono ?_;rintro e w6 ⟨A',j,rfl,how,rfl⟩;clear hv hlen hok;go_wp2_with fail;go_ret
 exact ⟨A',j,rfl,how,(b3.drew.next b4).trans (ho5.below (by have:=b4.size;simp at this;omega) (Nat.le_refl _))⟩
end
end Go.Proofs.YtmedjkhmadfjlaaGreat
