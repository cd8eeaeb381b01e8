/- Texts of one seat, put together: MulB Right Bits DivL Of Div DecMath Scale Cut BitMath MoveMath Alive1. -/
import Derived.Test.YtgohmojcopajoaaGreatDoorP09
import Derived.Deep.RegionHeld3
import Derived.BigRegion
import Derived.Shelf.Small.Bits
import Derived.Lib.ItoaNum
import Derived.Test.YtgohmojcopajoaaGreatDoorP01
import Derived.Lib.Strings
import Derived.Laws.BitsLemmas
import Derived.Laws.BitsAllLaws
set_option linter.unusedVariables false
set_option linter.unusedSimpArgs false
set_option maxRecDepth 100000
set_option maxHeartbeats 16000000
namespace Go.Proofs.YtgohmojcopajoaaGreatDoor.Nu
section
open Go.RowKit
open Limb (limb Bf upto Az AF AA)
theorem JV (a:Nat):a<4294967296^L a:=Limb.canon_lt a
theorem Mt {a k:Nat} (h:a<4294967296^k):L a<=k:=Limb.canon_len_le a k h
theorem Rq {a b:Nat} (h:a<=b):L a<=L b:=Limb.canon_len_mono h
theorem Rr:L 0=0:=rfl
theorem Mu (a b:Nat):L (a*b)<=L a+L b:=Mt (Ev a b _ _ (JV a) (JV b))
theorem F8 (a k:Nat):(Limb.canon a).drop k=Limb.canon (a/4294967296^k):=by
 induction k generalizing a with
 |zero=>simp
 |succ k ih=>
  by_cases h:a=0
  · subst h;simp[Limb.canon_zero]
  · rw[Limb.canon_pos a h,List.drop_succ_cons,ih,Nat.pow_succ,Nat.mul_comm (4294967296^k),Nat.div_div_eq_div_mul]
theorem Du (a k:Nat):Limb.val ((Limb.canon a).take k)=a%4294967296^k:=by
 by_cases h:k<=(Limb.canon a).length
 · have e:=Limb.val_take_drop (Limb.canon a) k h;rw[Limb.val_canon,F8,Limb.val_canon]at e;have e2:=Nat.mod_add_div a (4294967296^k);omega
 · rw[List.take_of_length_le (by omega),Limb.val_canon,Nat.mod_eq_of_lt];exact Nat.lt_of_lt_of_le (Limb.canon_lt a) (Limb.pow_mono (by omega))
theorem Rs (a k:Nat):L (a/4294967296^k)=L a-k:=by unfold L;rw[<-F8,List.length_drop]
theorem win_zero (zs:List Nat) (o n:Nat) (h:Limb.val zs<4294967296^o):Limb.val (win zs o n)=0:=by
 have e:∀i,limb (win zs o n) i=limb ([]:List Nat) i:=by
  intro i;have e0:limb ([]:List Nat) i=0:=Limb.limb_beyond (Nat.zero_le _);rw[e0];unfold win;by_cases hi:i<n
  · have h1:limb ((zs.drop o).take n) i=limb zs (o+i):=by
     unfold limb;rw[List.getD_eq_getElem?_getD,List.getD_eq_getElem?_getD,List.getElem?_take_of_lt hi,List.getElem?_drop]
    rw[h1];exact Limb.limb_zero_of_lt zs (o+i) (Nat.lt_of_lt_of_le h (Limb.pow_mono (by omega)))
  · exact Limb.limb_beyond (by rw[List.length_take];omega)
 rw[Limb.val_eq_of_limbs _ _ e];rfl
theorem Hn (zs:List Nat) (o:Nat) (ws:List Nat) (h:o+ws.length<=zs.length) (hz:Limb.val zs<4294967296^o):Limb.val (put zs o ws)=Limb.val zs+4294967296^o*Limb.val ws:=by have e:=Lk zs o ws h;rw[win_zero zs o ws.length hz,Nat.mul_zero]at e;omega
theorem Pe (zs:List Nat) (o n x:Nat) (hl:o+n=zs.length) (hlt:Limb.val zs+4294967296^o*x<4294967296^zs.length):Limb.val (put zs o (Limb.fixed n (Limb.val (win zs o n)+x)))=Limb.val zs+4294967296^o*x:=by
 have hf:(Limb.fixed n (Limb.val (win zs o n)+x)).length=n:=Limb.fixed_length _ _;have e:=Lk zs o (Limb.fixed n (Limb.val (win zs o n)+x)) (by omega);rw[hf,Limb.fixed_val]at e;have hw:4294967296^o*Limb.val (win zs o n)<=Limb.val zs:=by
  have e2:=Limb.val_take_drop zs o (by omega);have e3:win zs o n=zs.drop o:=by unfold win;rw[List.take_of_length_le (by rw[List.length_drop];omega)]
  rw[e3];omega
 have hs:Limb.val (win zs o n)+x<4294967296^n:=by
  have h1:4294967296^o*(Limb.val (win zs o n)+x)<4294967296^o*4294967296^n:=by rw[<-Nat.pow_add,hl,Nat.mul_add];omega
  exact Nat.lt_of_mul_lt_mul_left h1
 rw[Nat.mod_eq_of_lt hs,Nat.mul_add]at e;omega
theorem Rt (a b half n m:Nat) (hn:n=L a) (hm:m=L b) (h:half<=n) :
   (a%4294967296^half*b)+4294967296^half*(a/4294967296^half*b)=a*b/\a*b<4294967296^(n+m)/\L (a%4294967296^half*b)<=half+m/\L (a/4294967296^half*b)<=n-half+m:=by
 refine ⟨?_,?_,?_,?_⟩
 · rw[<-Nat.mul_assoc,<-Nat.add_mul,Nat.mod_add_div]
 · subst hn hm;exact Ev a b _ _ (JV a) (JV b)
 · have h1:=Mu (a%4294967296^half) b;have h2:L (a%4294967296^half)<=half:=Mt (Nat.mod_lt _ (Nat.pow_pos (by omega)));omega
 · have h1:=Mu (a/4294967296^half) b;rw[Rs]at h1;omega
theorem Ho (A:Option Addr) (n c k a:Nat) (w:World) (hx:Nums w A n (Limb.canon a)) (hk:k<=n) (hc:n<=c) (hm:c<=9223372036854775807) :
  Calls Tryz.prog 207 #[.slice A n c,.int .i64 (k:Int)] w (EN A (a%4294967296^k) w):=by
 have h:=Js A n c k _ w hx hk hc hm;rw[Du]at h;exact h
theorem KA (A:Option Addr) (n k a:Nat) (w:World) (hx:Nums w A n (Limb.canon a)) (hk:k<=n):Nums w (IJ A (a%4294967296^k)) (L (a%4294967296^k)) (Limb.canon (a%4294967296^k)):=by have h:=(DG w A _ k (hx.take (k:=k) hk)).2.2.1;rw[Du]at h;exact h
theorem Ju (A:Option Addr) (n c k a:Nat) (w:World) (hx:Nums w A n (Limb.canon a)) (hk:k<n) (hc:n<=c):Nums w (A.map (·.add k)) (n-k) (Limb.canon (a/4294967296^k)):=by have h:=hx.cut (k:=k) (cap:=c) (by omega) hc;rw[F8,if_neg (by omega)]at h;exact h
def Ej (K:Nat):Prop:=∀(A B:Option Addr) (n c m d a b:Nat) (w:World),n+m<K->Nums w A n (Limb.canon a)->n<=c->c<=9223372036854775807->Nums w B m (Limb.canon b)->m<=d->d<=9223372036854775807->n+m<=549755813888 ->
 Calls Tryz.prog 180 #[.slice A n c,.slice B m d] w (DN (a*b) w)
theorem Mv (n m n2 low:Nat) (h:n2=(Limb.canon low).length) (hle:n2<=n+m) :
  Limb.Ok (put (List.replicate (n+m) 0) 0 (Limb.canon low))/\(put (List.replicate (n+m) 0) 0 (Limb.canon low)).length=n+m/\Limb.val (put (List.replicate (n+m) 0) 0 (Limb.canon low))=low:=by
 refine ⟨F6 (Limb.Ok.replicate _) _ (Limb.ok_canon _),by rw[Bw _ _ _ (by simp;omega)];simp,?_⟩;rw[Hn _ _ _ (by simp;omega) (by rw[Limb.val_replicate];exact Nat.pow_pos (by omega)),Limb.val_replicate,Limb.val_canon];simp
theorem EO (A B:Option Addr) (n c m d a b half:Nat) (w:World) (IH:Ej (n+m)) (hx:Nums w A n (Limb.canon a)) (hc:n<=c) (hm:c<=9223372036854775807) (hy:Nums w B m (Limb.canon b)) (hd:m<=d) (hmd:d<=9223372036854775807) (h39:n+m<=549755813888)
  (hh:half<n) (hh0:0<half) :
  Calls Tryz.prog 193 #[.slice A n c,.slice B m d,.int .i64 (half:Int)] w (DN (a*b) w):=by
 have HT:=Aa (Rt a b half n m hx.len.symm hy.len.symm (by omega));have IHH:=Aa IH;clear IH;have ll:L (a%4294967296^half)<=half:=Mt (Nat.mod_lt _ (Nat.pow_pos (by omega)));go_enter Tryz.func193,Tryz.ntmps193;go_wp2_with (at_make;refine BL _ rfl _ _ rfl _ (n+m) rfl rfl (by omega) (by omega) ?_;intro w1 hr1 hb1 hs1);refine (Js A n c half _ w1 (hx.below hb1) (by omega) hc hm).mono ?_;rintro e w' ⟨rfl,rfl⟩;rw[Du];go_wp2_with fail
 have hx1:=DG w1 A _ half ((hx.below hb1).take (k:=half) (by omega));rw[Du]at hx1;refine (IHH.out (IJ A (a%4294967296^half)) B _ _ m d (a%4294967296^half) b w1 (by omega) hx1.2.2.1 (Nat.le_refl _) (by omega) (hy.below hb1) hd hmd (by omega)).mono ?_;rintro e w2 ⟨A2,n2,rfl,o2,b2⟩;have l2:n2<=half+m:=by rw[o2.len];exact HT.out.2.2.1
 clear hx1;go_wp2_with (with_reducible refine BX rfl _ _ rfl w.heap.size 0 _ _ _ _ n2 n2 rfl (fun _=>rfl) rfl _ _ (hr1.below b2 hs1) o2.nums (by omega) (by simp;omega) ?_;intro w3 hr3 ho3);have b3:Below w.heap.size w w3:=(hb1.next b2).trans (ho3.below (by have:=b2.size;omega) (Nat.le_refl _));have hx3:=(hx.below b3).cut (k:=half) (cap:=c) (by omega) hc;rw[F8]at hx3;have hsz3:w.heap.size<w3.heap.size:=by have:=ho3.size;have:=b2.size;omega
 have f1:(half:Int)<=(n:Int)+(m:Int):=by omega
 have f2:(half:Int)<=(n:Int):=by omega
 have f3:(n+m=half)=False:=by simp;omega
 have f4:(c=half)=False:=by simp;omega
 rw[if_neg (by omega)]at hx3;have hr3:Row w3 w.heap.size (put (List.replicate (n+m) 0) 0 (Limb.canon (a%4294967296^half*b))):=hr3;have l3:n2<=n+m:=by omega
 have HN2:=Lib.hid o2.len;have HP:=Aa (Mv n m n2 (a%4294967296^half*b) HN2.out l3);generalize put (List.replicate (n+m) 0) 0 (Limb.canon (a%4294967296^half*b))=zs at hr3 HP;go_region_with (first
  |(go_at_call 180;refine (IHH.out _ B _ _ m d (a/4294967296^half) b _ (by omega) hx3.drew (by omega) (by omega) (hy.below b3).drew hd hmd (by omega)).mono ?_;rintro e w4 ⟨A4,n4,rfl,o4,b4⟩)
  |(go_at_call 160;(refine (Ec w.heap.size half (n+m-half) _ zs A4 n4 n4 _ _ (hr3.drew.below b4 hsz3) HP.out.1 (by rw[HP.out.2.1];omega) (by omega) o4.nums (by rw[o4.len];exact Nat.le_trans HT.out.2.2.2 (by omega)) (fun h=>o4.apart h hsz3)).mono ?_);rintro e w5 ⟨rfl,hr5,ho5⟩))
 go_wp2_with fail;have hv:Limb.val (put zs half (Limb.fixed (n+m-half) (Limb.val (win zs half (n+m-half))+Limb.val (Limb.canon (a/4294967296^half*b)))))=a*b:=by rw[Pe zs half _ _ (by rw[HP.out.2.1];omega) (by rw[HP.out.2.1,HP.out.2.2,Limb.val_canon,HT.out.1];exact HT.out.2.1),HP.out.2.2,Limb.val_canon,HT.out.1]
 have hlen:(put zs half (Limb.fixed (n+m-half) (Limb.val (win zs half (n+m-half))+Limb.val (Limb.canon (a/4294967296^half*b))))).length=n+m:=by rw[Bw _ _ _ (by rw[Limb.fixed_length,HP.out.2.1];omega)];exact HP.out.2.1
 have hok:=F6 HP.out.1 half (Limb.fixed_ok (n+m-half) (Limb.val (win zs half (n+m-half))+Limb.val (Limb.canon (a/4294967296^half*b))));refine (Cl w.heap.size (n+m) _ (a*b) w.heap.size _ _ hr5 hok (by rw[hlen];exact Nat.le_refl _) (by omega) (by omega) (Nat.le_refl _) (by rw[List.take_of_length_le (by rw[hlen];exact Nat.le_refl _)];exact hv)).mono ?_;rintro e w6 ⟨A',j,rfl,how,rfl⟩;clear hv hlen hok;go_wp2_with fail;go_ret
 exact ⟨A',j,rfl,how,(b3.drew.next b4).trans (ho5.below (by have:=b4.size;simp at this;omega) (Nat.le_refl _))⟩
end
section
open Go.RowKit
open Limb (limb Bf upto Az AF AA)
def Xo (g N s:Nat) (old:List Nat) (w:World) (i:Nat) (wr:World):Prop:=
 ∃cur:List Nat,cur.length=N/\Limb.Ok cur/\Row wr g cur/\Below w.heap.size w wr/\w.heap.size<=g/\(∀t,i<=t->limb cur t=limb old t)/\2^s*upto cur i+limb old 0%2^s=upto old i+4294967296^i*(limb old i%2^s)
theorem Ru (cur:List Nat) (i v:Nat):upto (cur.set i v) i=upto cur i:=by unfold upto;rw[List.take_set_of_le (Nat.le_refl i)]
end
section
open Go.Shelf
def Tryz.lays128_ren:Go.Shelf.Ren:=⟨fun|128=>172|n=>n,fun|51=>173|3=>3|4=>4|46=>201|5=>5|9=>9|n=>n,fun|n=>n⟩
theorem Tryz.lays128:Go.Proofs.Lays.n128 Tryz.prog Tryz.lays128_ren:={
 mixed:=by kernel_rfl
 f128:=Tryz.func172.trans (congrArg some (by kernel_rfl))
 t3:=Tryz.underlying3
 a3:=Tryz.isAgg3
 z3:=Tryz.sizeOf3
 v3:=Tryz.zeroValue3
 t4:=Tryz.underlying4
 a4:=Tryz.isAgg4
 z4:=Tryz.sizeOf4
 v4:=Tryz.zeroValue4
 t5:=Tryz.underlying5
 a5:=Tryz.isAgg5
 z5:=Tryz.sizeOf5
 v5:=Tryz.zeroValue5
 t9:=Tryz.underlying9
 a9:=Tryz.isAgg9
 z9:=Tryz.sizeOf9
 v9:=Tryz.zeroValue9
 t46:=Tryz.underlying201
 a46:=Tryz.isAgg201
 z46:=Tryz.sizeOf201
 v46:=Tryz.zeroValue201
 t51:=Tryz.underlying173
 a51:=Tryz.isAgg173
 z51:=Tryz.sizeOf173
 v51:=Tryz.zeroValue173 }
theorem Tryz.bits_Len32 (x:Int) (w:World) (h0:0<=x) (h1:x<=4294967295) :
 Calls Tryz.prog 172 #[.int .u32 x] w fun e w'=>e=.returned (.int .i64 (Lib.bitLen x.toNat))/\w'=w:=Any.bits_Len32 Tryz.lays128 x w h0 h1
end
section
open Go.RowKit
open Limb (limb Bf upto Az AF AA)
def WM (x:Nat) (w:World) (e:Ending) (w':World):Prop:=∃z:Nat,e=.returned (.int .i64 (z:Int))/\z<32/\Hid (2147483648<=x*2^z/\x*2^z<4294967296)/\w=w'
theorem PG (x:Nat) (h0:x≠0) (h:x<4294967296):1<=Lib.bitLen x/\Lib.bitLen x<=32/\2^(Lib.bitLen x-1)<=x/\x<2^Lib.bitLen x:=by have h1:=Lib.bitLenAux_bounds 64 x (by omega) h0;have h2:=Lib.bitLen_le x 32 (by omega) (by omega);exact ⟨h1.1,h2,h1.2.1,h1.2.2⟩
def Xp (g1 gq n m a' b':Nat) (w:World) (k:Nat) (wr:World):Prop:=
 ∃curR curQ:List Nat,curR.length=n+1/\curQ.length=n-m+1/\Limb.Ok curR/\Limb.Ok curQ/\Row wr g1 curR/\Row wr gq curQ/\Below w.heap.size w wr /\
  Limb.val curR+4294967296^k*(Limb.val (curQ.drop k)*b')=a'/\Limb.val (curR.drop k)<b'
def Wy (N M:Nat) (w:World) (e:Ending) (w':World):Prop:=
 ∃A n c B m d,e=.returned (.tuple #[.slice A n c,.slice B m d])/\Own w' w.heap.size A n c N/\Own w' w.heap.size B m d M/\Below w.heap.size w w'
end
section
open Go.RowKit
theorem _root_.Go.Proofs.YtgohmojcopajoaaGreatDoor.Row.new (w:World) (zs:List Nat) (us:Array Value) (h:us=(CP zs).toArray):Row (w.alloc (.cells us 173)) w.heap.size zs:=by unfold Row;rw[h];exact heap_alloc_new w _
theorem UR (N:Nat) (w:World) (h:N/4294967296<4294967296) :
  Calls Tryz.prog 120 #[.int .u64 (N:Int)] w (DN N w):=by
 go_enter Tryz.func120,Tryz.ntmps120;go_wp2_with fail;have hr:=Row.new w [N%4294967296,N/4294967296] #[.int .u32 ((N:Int)%4294967296),.int .u32 ((N:Int)/4294967296)] (by simp[CP]);refine (Cl w.heap.size 2 2 N w.heap.size _ _ hr (Limb.Ok.cons (by omega) (Limb.Ok.cons h Limb.Ok.nil)) (by simp) (by omega) (by omega) (Nat.le_refl _) (by simp[Limb.val];omega)).mono ?_;rintro e w' ⟨A',m,rfl,how,rfl⟩;go_wp2_with fail;go_ret
 exact ⟨A',m,rfl,how,(Below.refl _ _).alloc (Nat.le_refl _) _⟩
theorem of_int (v:Int) (N:Nat) (w:World) (hv:v=(N:Int)) (h:N/4294967296<4294967296):Calls Tryz.prog 120 #[.int .u64 v] w (DN N w):=by subst hv;exact UR N w h
theorem _root_.Go.Proofs.YtgohmojcopajoaaGreatDoor.Nums.new (w:World) (xs:List Nat) (us:Array Value) (h:us=(CP xs).toArray) (ho:Limb.Ok xs) (n:Nat) (hn:n=xs.length):Nums (w.alloc (.cells us 173)) (some ⟨w.heap.size,0,none⟩) n xs:=by subst hn;have:=(Row.new w xs us h).nums ho (o:=0) (n:=xs.length) (by omega);simpa using this
def W8 (w:World) (e:Ending) (w':World):Prop:=e=.returned (.bool true)/\Below w.heap.size w w'
def US (b:Bool) (w:World) (e:Ending) (w':World):Prop:=e=.returned (.bool b)/\w=w'
end
section
open Go.RowKit
open Limb (limb Bf upto Az AF AA)
end
end Go.Proofs.YtgohmojcopajoaaGreatDoor.Nu
namespace Go.Proofs.YtgohmojcopajoaaGreatDoor.Dec
section
def low (N:Nat):Nat->List Nat
 |0=>[]
 |k+1=>(48+N/10^k%10)::low N k
def Xq (N k:Nat):Prop:=1<=k/\N<10^k/\(k=1\/10^(k-1)<=N)
def upto (d:Nat->Nat):Nat->Nat
 |0=>0
 |i+1=>upto d i*10+d i
theorem upto_lt (d:Nat->Nat) (i:Nat) (h:∀j,j<i->d j<=9):upto d i<10^i:=by
 induction i with
 |zero=>simp[upto]
 |succ i ih=> have h1:=ih (fun j hj=>h j (by omega));have h2:=h i (by omega);rw[upto,Nat.pow_succ];omega
theorem limbs_room (i:Nat):10^i<4294967296^(i/9+1):=by
 have h1:i<=9*(i/9+1):=by omega
 have h2:10^i<=10^(9*(i/9+1)):=Nat.pow_le_pow_right (by omega) h1;refine Nat.lt_of_le_of_lt h2 ?_;rw[Nat.pow_mul];exact Nat.pow_lt_pow_left (by omega) (by omega)
end
end Go.Proofs.YtgohmojcopajoaaGreatDoor.Dec
namespace Go.Proofs.YtgohmojcopajoaaGreatDoor.Nu
section
open Go.RowKit
open Limb (limb Bf upto Az AF AA)
def Jv (g f p:Nat) (zs:List Nat) (w:World) (k c:Nat) (wr:World):Prop:=
 ∃cur:List Nat,cur.length=zs.length/\Limb.Ok cur/\Row wr g cur/\An g w wr/\(∀t,k<=t->limb cur t=limb zs t)/\upto cur k+4294967296^k*c=upto zs k*f+p
theorem Jv.start (g f p:Nat) (zs:List Nat) (w:World) (hz:Limb.Ok zs) (hr:Row w g zs):Jv g f p zs w 0 p w:=
 ⟨zs,rfl,hz,hr,An.refl g w,fun _ _=>rfl,by rw[AA,Nat.pow_zero];omega⟩
theorem UT (U V B z f p s c c':Nat) (h:U+B*c=V*f+p) (hs:s+4294967296*c'=z*f+c):U+B*s+B*4294967296*c'=(V+B*z)*f+p:=by
 have e1:B*(s+4294967296*c')=B*(z*f+c):=by rw[hs]
 rw[Nat.mul_add,Nat.mul_add]at e1;rw[Nat.add_mul,Nat.mul_assoc B z f,Nat.mul_assoc B 4294967296 c'];omega
theorem Jv.at_ {g f p:Nat} {zs:List Nat} {w:World} {k c:Nat} {wr:World} (h:Jv g f p zs w k c wr) (hk:k<zs.length) (hok:Limb.Ok zs) :
   ∃z:Nat,z<4294967296/\wr.cell? ⟨g,k,none⟩=some (.int .u32 (z:Int))/\wr.frozen? ⟨g,k,none⟩=false /\
     ∀s c':Nat,s<4294967296->s+4294967296*c'=z*f+c->Jv g f p zs w (k+1) c' (wr.setCell ⟨g,k,none⟩ (.int .u32 (s:Int))):=by
 obtain ⟨cur,hl,ho,hr,hon,he,hv⟩:=h;refine ⟨limb zs k,Bf hok k,?_,hr.frozen _,fun s c' hs hsc=>?_⟩
 · rw[hr.cell (i:=k) (by omega),<-he k (Nat.le_refl _)];rfl
 · refine ⟨cur.set k s,by simp[hl],ho.set k s hs,hr.set_ _ _,hon.setCell _ _,fun t ht=>?_,?_⟩
   · rw[Ms _ _ _ _ (by omega)];exact he t (by omega)
   · rw[Az,Az,Ru,JU _ _ _ (by omega),Nat.pow_succ];exact UT _ _ _ _ _ _ _ _ _ hv hsc
def Rv (g f p:Nat) (zs:List Nat) (w:World) (e:Ending) (w':World):Prop:=
 ∃(cur:List Nat) (cy:Nat),e=.returned (.tuple #[])/\cur.length=zs.length/\Limb.Ok cur/\Row w' g cur/\An g w w'/\Hid (Limb.val cur+4294967296^zs.length*cy=Limb.val zs*f+p)
theorem PH (g c f p:Nat) (zs:List Nat) (w:World) (hr:Row w g zs) (hz:Limb.Ok zs) (hc:zs.length<=4611686018427387904) (hf:f<4294967296) (hp:p<4294967296) :
  Calls Tryz.prog 155 #[.slice (some ⟨g,0,none⟩) zs.length c,.int .u32 (f:Int),.int .u32 (p:Int)] w (Rv g f p zs w):=by
 have R:=Aa (Jv.start g f p zs w hz hr);obtain ⟨m,hm⟩:∃m,zs.length=m:=⟨_,rfl⟩;have HM:=Aa hm;rw[hm]at hc ⊢;clear hr hm;go_enter Tryz.func155,Tryz.ntmps155;go_wp2_with fail;go_loopw [6,13] (fun c i wr=>∃k z:Nat,k<=m/\z<4294967296/\i=.int .i64 (k:Int)/\c=.int .u64 (z:Int)/\Hid (Jv g f p zs w k z wr)) (fun _ i _=>m-(intOf i).toNat)
 case atStart=>exact ⟨0,p,Nat.zero_le _,hp,rfl,rfl,R⟩
 case round=>
  clear R;obtain ⟨k,z,hk,hz1,rfl,rfl,R⟩:=hrel;by_cases hkm:k<m
  · obtain ⟨zz,hzz,hcell,hfroz,hstep⟩:=R.out.at_ (by rw[HM.out];exact hkm) hz;have hpn:=Lj _ _ hzz hf;obtain ⟨hp1,hp2,hp3⟩:=Mr _ _ hzz hf;have HP:=Lib.hid hp3;have HS:=Aa hstep;clear hstep hp3;go_wp2_with fail;have es:((z:Int)+(zz:Int)*(f:Int))%4294967296=(((zz*f+z)%4294967296:Nat):Int):=(by have:=HP.out;omega);have ec:((z:Int)+(zz:Int)*(f:Int))/4294967296=(((zz*f+z)/4294967296:Nat):Int):=(by have:=HP.out;omega);rw[es,ec];clear es ec;go_roundw
    case rel=>exact ⟨k+1,_,by omega,by omega,by go_num,rfl,HS.out _ _ (by omega) (by omega)⟩
    case measure=>simp[intOf];omega
  · obtain rfl:k=m:=(by omega);clear hkm;go_wp2_with fail;go_end0
    obtain ⟨cur,hl,ho,hr,hon,-,hv⟩:=R.out;exact ⟨cur,z,rfl,hl,ho,hr,hon,by show _=_;rw[AF cur k (by rw[hl,HM.out];exact Nat.le_refl _),AF zs k (by rw[HM.out];exact Nat.le_refl _)]at hv;rw[HM.out];exact hv⟩
def Ad (s:ByteArray) (i:Nat):Nat:=if h:i<s.size then (s[i]'h).toNat else 0
theorem AE (s:ByteArray) (i:Nat) (h:i<s.size):Ad s i=(s[i]'h).toNat:=by unfold Ad;rw[dif_pos h]
theorem BN (s:ByteArray) (i:Nat):Ad s i<256:=by
 unfold Ad;split
 · exact UInt8.toNat_lt _
 · omega
def Fa (s:ByteArray):Prop:=∀i,i<s.size->48<=Ad s i/\Ad s i<=57
theorem Dl (s:ByteArray):s.toList.isEmpty=decide (s.size=0):=by
 rw[Lib.toList_data];have h:s.data.toList.length=s.size:=by simp
 cases hl:s.data.toList with
 |nil=>rw[hl]at h;simp at h;simp[<-h]
 |cons x xs=>rw[hl]at h;simp at h;rw[decide_eq_false (by omega)];rfl
theorem GB (s:ByteArray) (b:Bool) (w:World) (hs:s.size<=4611686018427387904) (hb:b=true↔Fa s/\s.size≠0) :
  Calls Tryz.prog 154 #[.string s] w (Rp b w):=by
 have HB:=Aa hb;clear hb;go_enter Tryz.func154,Tryz.ntmps154;go_wp2_with fail;go_loop [3,6] (fun _ i=>∃k:Nat,k<=s.size/\i=.int .i64 (k:Int)/\Hid (∀j,j<k->48<=Ad s j/\Ad s j<=57)) (fun _ i=>s.size-(intOf i).toNat)
 case atStart=>exact ⟨0,Nat.zero_le _,rfl,fun j hj=>absurd hj (by omega)⟩
 case round=>
  obtain ⟨k,hk,rfl,HD⟩:=hrel;by_cases hkn:k<s.size
  · have hbe:=AE s k hkn;by_cases hd:48<=Ad s k/\Ad s k<=57
    · have hd2:=Aa hd;rw[hbe]at hd;have g1:(48:Int)<=((s[k]'hkn).toNat:Int):=(by omega);have g2:((s[k]'hkn).toNat:Int)<=57:=(by omega);clear hd hbe;go_wp2_with fail;go_round
      case rel=>exact ⟨k+1,by omega,by go_num,fun j hj=>by
        rcases Nat.eq_or_lt_of_le (Nat.le_of_lt_succ hj) with h|h
        · subst h;exact hd2.out
        · exact HD.out j h⟩
      case measure=>simp[intOf];omega
    · have hb0:b=false:=by
        cases b with
        |false=>rfl
        |true=>exact absurd ((HB.out.1 rfl).1 k hkn) hd
      subst hb0;rw[hbe]at hd;by_cases g1:(48:Int)<=((s[k]'hkn).toNat:Int)
      · have g2:¬((s[k]'hkn).toNat:Int)<=57:=(by omega);clear hd hbe;go_wp2_with fail;go_ret
        exact ⟨rfl,0,rfl⟩
      · clear hd hbe;go_wp2_with fail;go_ret
        exact ⟨rfl,0,rfl⟩
  · obtain rfl:k=s.size:=(by omega);go_wp2_with fail;go_ret
    refine ⟨?_,0,rfl⟩;show Ending.returned (.bool (!s.toList.isEmpty))=_;rw[Dl];by_cases h0:s.size=0
    · have hb0:b=false:=by
        cases b with
        |false=>rfl
        |true=>exact absurd h0 (HB.out.1 rfl).2
      rw[hb0,decide_eq_true h0];rfl
    · rw[HB.out.2 ⟨fun i hi=>HD.out i hi,h0⟩,decide_eq_false h0];rfl
end
section
open Go.RowKit
def NF (s:ByteArray):Prop:=0<s.size/\Ad s 0=45
instance (s:ByteArray):Decidable (NF s):=by unfold NF;infer_instance
theorem head_eq (s:ByteArray) (h:0<s.size):((s.extract 0 1).toList==[45])=decide (Ad s 0=45):=by
 rw[Lib.toList_data,AE s 0 h];have hl:0<s.data.toList.length:=by simpa using h
 obtain ⟨x,xs,hx⟩:∃x xs,s.data.toList=x::xs:=by
   cases hd:s.data.toList with
   |nil=>rw[hd]at hl;simp at hl
   |cons x xs=>exact ⟨x,xs,rfl⟩
 have e1:(s.extract 0 1).data.toList=[x]:=by simp[hx]
 have e2:s[0]=x:=by
   have:s[0]=s.data.toList[0]:=by simp[ByteArray.getElem_eq_getElem_data]
   rw[this];simp[hx]
 rw[e1,e2,Bool.eq_iff_iff];simp only[beq_iff_eq,decide_eq_true_eq,List.cons.injEq,and_true];constructor
 · rintro rfl;rfl
 · intro h;rw[<-UInt8.toNat_inj];exact h
def Pf (b:Bool) (w:World) (e:Ending) (w':World):Prop:=e=.returned (.bool b)/\w=w'
theorem Mw (s:ByteArray) (w:World) (h:NF s):Calls Tryz.prog 171 #[.string s,.string ⟨#[45]⟩] w (Pf true w):=by
 have he:=Aa (head_eq s h.1);rw[decide_eq_true h.2]at he;have h0:=h.1;go_enter Tryz.func171,Tryz.ntmps171;go_wp2_with fail;go_ret
 refine ⟨?_,rfl⟩;show Ending.returned (.bool ((s.extract 0 1).toList==[45]))=_;rw[he.out]
theorem NG (s:ByteArray) (w:World) (h:¬NF s):Calls Tryz.prog 171 #[.string s,.string ⟨#[45]⟩] w (Pf false w):=by
 rcases Nat.eq_zero_or_pos s.size with h0|h0
 · clear h;go_enter Tryz.func171,Tryz.ntmps171;go_wp2_with fail;go_ret
   exact ⟨rfl,rfl⟩
 · have he:=Aa (head_eq s h0);rw[decide_eq_false (fun h1=>h ⟨h0,h1⟩)]at he;clear h;go_enter Tryz.func171,Tryz.ntmps171;go_wp2_with fail;go_ret
   refine ⟨?_,rfl⟩;show Ending.returned (.bool ((s.extract 0 1).toList==[45]))=_;rw[he.out]
def body (s:ByteArray):ByteArray:=if NF s then s.extract 1 s.size else s
def PI (s:ByteArray):Bool:=decide (NF s)
def Ll (s:ByteArray) (w:World) (e:Ending) (w':World):Prop:=e=.returned (.tuple #[.string (body s),.bool (PI s)])/\w=w'
theorem Mx (s:ByteArray) (w:World) (hs:s.size<=9223372036854775807):Calls Tryz.prog 153 #[.string s,.string ⟨#[45]⟩] w (Ll s w):=by
 by_cases h:NF s
 · have H:=Aa h;have h0:=h.1;clear h;go_enter Tryz.func153,Tryz.ntmps153;go_wp2_with fail;refine (Mw s w H.out).mono ?_;rintro e w' ⟨rfl,rfl⟩;go_wp2_with fail;go_ret2
   refine ⟨?_,rfl⟩;unfold body PI;rw[if_pos H.out,decide_eq_true H.out];rfl
 · have H:=Aa h;clear h;go_enter Tryz.func153,Tryz.ntmps153;go_wp2_with fail;refine (NG s w H.out).mono ?_;rintro e w' ⟨rfl,rfl⟩;go_wp2_with fail;go_ret2
   refine ⟨?_,rfl⟩;unfold body PI;rw[if_neg H.out,decide_eq_false H.out];rfl
theorem Tu (s:ByteArray) (w:World) (hs:s.size<=9223372036854775807):Calls Tryz.prog 121 #[.string s,.string ⟨#[45]⟩] w (Ll s w):=by
 go_enter Tryz.func121,Tryz.ntmps121;go_wp2_with fail;refine (Mx s w hs).mono ?_;rintro e w' ⟨rfl,rfl⟩;go_wp2_with fail;go_ret2
 exact ⟨rfl,rfl⟩
end
end Go.Proofs.YtgohmojcopajoaaGreatDoor.Nu
namespace Go.Proofs.YtgohmojcopajoaaGreatDoor.Limb
section
def bl (n:Nat):Nat:=if n=0 then 0 else Nat.log2 n+1
theorem Lm (n:Nat) (h:0<n):bl n=bl (n/2)+1:=by
 unfold bl;rw[if_neg (by omega)];by_cases h1:n=1
 · subst h1;rfl
 · rw[if_neg (by omega),Nat.log2_def n,if_pos (by omega)]
theorem VP (n:Nat):n<2^bl n:=by
 induction n using Nat.strongRecOn with
 |_ n ih=>
  rcases Nat.eq_zero_or_pos n with h|h
  · subst h;decide
  · rw[Lm n h,Nat.pow_succ];have:=ih (n/2) (by omega);omega
theorem bl_spec (n k:Nat) (h1:2^k<=n) (h2:n<2^(k+1)):bl n=k+1:=by
 induction k generalizing n with
 |zero=>
  have:n=1:=by simp at h1 h2;omega
  subst this;rfl
 |succ k ih=> rw[Nat.pow_succ]at h1 h2;have hp:0<2^k:=Nat.two_pow_pos k;have h3:2^(k+1)=2^k*2:=Nat.pow_succ ..;rw[Lm n (by omega),ih (n/2) (by omega) (by omega)]
theorem Uy (n:Nat) (h:0<n):∃k,bl n=k+1/\2^k<=n:=by
 induction n using Nat.strongRecOn with
 |_ n ih=>
  by_cases h1:n=1
  · subst h1;exact ⟨0,rfl,by decide⟩
  · obtain ⟨k,hk,hle⟩:=ih (n/2) (by omega) (by omega);refine ⟨k+1,by rw[Lm n h,hk],?_⟩;rw[Nat.pow_succ];omega
theorem UU (x t j:Nat) (hx:x<2^j) (ht:0<t):bl (x+2^j*t)=j+bl t:=by
 obtain ⟨k,hk,hle⟩:=Uy t ht;have hlt:=VP t;rw[hk]at hlt;rw[hk,<-Nat.add_assoc];apply bl_spec
 · rw[Nat.pow_add];have:=Nat.mul_le_mul_left (2^j) hle;omega
 · rw[Nat.add_assoc,Nat.pow_add];have h1:2^j*(t+1)<=2^j*2^(k+1):=Nat.mul_le_mul_left _ hlt;rw[Nat.mul_add]at h1;omega
theorem bl_le (n k:Nat) (h:n<2^k):bl n<=k:=by
 rcases Nat.eq_zero_or_pos n with h0|h0
 · subst h0;exact Nat.zero_le _
 · obtain ⟨j,hj,hle⟩:=Uy n h0;rw[hj];exact (Nat.pow_lt_pow_iff_right (by omega)).1 (Nat.lt_of_le_of_lt hle h)
theorem Rw (xs:List Nat) (h:Ok xs) (k:Nat):val xs/4294967296^k%4294967296=limb xs k:=by
 induction xs generalizing k with
 |nil=>simp[val,limb]
 |cons x xs ih=>
  have hx:x<4294967296:=h x (by simp);have hxs:Ok xs:=fun y hy=>h y (by simp[hy])
  cases k with
  |zero=>simp[val,limb];omega
  |succ k=> have h1:val (x::xs)/4294967296=val xs:=(by simp only[val];omega);have h2:limb (x::xs) (k+1)=limb xs k:=(by simp[limb]);rw[Nat.pow_succ,Nat.mul_comm,<-Nat.div_div_eq_div_mul,h1,h2];exact ih hxs k
theorem PK (u s:Nat) (hs:s<32):u%4294967296/2^s%2=u/2^s%2:=by
 have h:=Nat.testBit_mod_two_pow u 32 s;rw[Nat.testBit_eq_decide_div_mod_eq,Nat.testBit_eq_decide_div_mod_eq]at h;have e:(2:Nat)^32=4294967296:=by decide
 rw[e]at h;simp only[hs,decide_true,Bool.true_and,decide_eq_decide]at h;have h1:=Nat.mod_two_eq_zero_or_one (u%4294967296/2^s);have h2:=Nat.mod_two_eq_zero_or_one (u/2^s);omega
theorem It (j:Nat):(4294967296:Nat)^j=2^(32*j):=by rw[Nat.pow_mul]
theorem digit (xs:List Nat) (h:Ok xs) (i:Nat):limb xs (i/32)/2^(i%32)%2=val xs/2^i%2:=by rw[<-Rw xs h (i/32),PK _ _ (Nat.mod_lt _ (by decide)),It,Nat.div_div_eq_div_mul,<-Nat.pow_add,Nat.div_add_mod]
theorem bl_limbs (xs:List Nat) (k:Nat) (h:Ok xs) (hk:xs.length=k+1) (ht:0<limb xs k):bl (val xs)=32*k+bl (limb xs k):=by
 have h1:val xs=upto xs k+4294967296^k*limb xs k:=by rw[<-Az,AF xs (k+1) (by omega)]
 have h2:upto xs k<2^(32*k):=by have:=val_lt (xs.take k) (h.take k);rw[List.length_take,Nat.min_eq_left (by omega)]at this;rw[<-It];exact this
 rw[h1,It];exact UU _ _ _ h2 ht
end
end Go.Proofs.YtgohmojcopajoaaGreatDoor.Limb
namespace Go.Proofs.YtgohmojcopajoaaGreatDoor.Limb
def WN (a r:Nat):Prop:=∀s,s*s<=a->s<=r
def VQ (n r p:Nat):Prop:=r*r<=n/\n<(r+p)*(r+p)/\r%p=0/\r+p<=4294967296
theorem bl_eq_zero (n:Nat):bl n=0↔n=0:=by unfold bl;split<;>simp_all
def Uz (B:Nat):List Nat->List Nat
 |[]=>[]
 |x::xs=>(x/2+xs.headD 0%2*B)::Uz B xs
def half (xs:List Nat):List Nat:=Uz 2147483648 xs
end Go.Proofs.YtgohmojcopajoaaGreatDoor.Limb
namespace Go.Proofs.YtgohmojcopajoaaGreatDoor.Nu
end Go.Proofs.YtgohmojcopajoaaGreatDoor.Nu
namespace Go.Proofs.YtgohmojcopajoaaGreatDoor.Nu
section
open Go.RowKit
theorem My {w:World} {A:Option Addr} {n N k:Nat} (h:Nums w A n (Limb.canon N)) (hN:N<4294967296^k):n<=k:=by rw[<-h.len];exact Limb.canon_len_le N k hN
end
end Go.Proofs.YtgohmojcopajoaaGreatDoor.Nu
