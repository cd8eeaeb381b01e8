/- Texts of one seat, put together: Mul MulB MulC. -/
import Derived.Test.YtemfjdedjcjegaaGreatDoorL03
import Derived.Deep.RegionHeld3
import Derived.BigRegion
set_option linter.unusedVariables false
set_option linter.unusedSimpArgs false
set_option maxRecDepth 100000
set_option maxHeartbeats 16000000
namespace Go.Proofs.YtemfjdedjcjegaaGreatDoor
section
open Go.RowKit
open Limb (limb AE upto upto_succ Ap Aq)
theorem Hu (zs:List Nat) (o:Nat) (ws:List Nat) (h:o+ws.length<=zs.length) :
  Limb.val (put zs o ws)+4294967296^o*Limb.val (win zs o ws.length)=Limb.val zs+4294967296^o*Limb.val ws:=by
 have hl:(zs.take o).length=o:=by rw[List.length_take];omega
 have e1:Limb.val (put zs o ws)=Limb.val (zs.take o)+4294967296^o*(Limb.val ws+4294967296^ws.length*Limb.val (zs.drop (o+ws.length))):=by unfold put;rw[Limb.val_append,hl,Limb.val_append]
 have e2:Limb.val zs=Limb.val (zs.take o)+4294967296^o*(Limb.val (win zs o ws.length)+4294967296^ws.length*Limb.val (zs.drop (o+ws.length))):=by rw[Limb.val_take_drop zs o (by omega),Limb.val_take_drop (zs.drop o) ws.length (by rw[List.length_drop];omega),List.drop_drop];rfl
 rw[e1,e2,Nat.mul_add,Nat.mul_add];omega
theorem Ih (A:Option Addr) (n c k:Nat) (xs:List Nat) (w:World) (hx:Am w A n xs) (hk:k<=n) (hc:n<=c) (hm:c<=9223372036854775807) :
  Calls Tryz.prog 175 #[.slice A n c,.int .i64 (k:Int)] w (Ed A (Limb.val (xs.take k)) w):=by
 go_enter Tryz.func175,Tryz.ntmps175;go_wp2_with fail;refine (Bo A k k (xs.take k) w (hx.take hk) (Nat.le_refl _) (by omega)).mono ?_;rintro e w' ⟨rfl,rfl⟩;go_wp2_with fail;go_ret
 exact ⟨rfl,rfl⟩
def Ga (g o m f:Nat) (zs xs:List Nat) (w:World) (k c:Nat) (wr:World):Prop:=
 ∃cur:List Nat,cur.length=m/\Limb.Ok cur/\Row wr g (put zs o cur)/\Ao g w wr/\Limb.val cur+4294967296^k*c=Limb.val (win zs o m)+upto xs k*f
theorem Ga.start (g o m f:Nat) (zs xs:List Nat) (w:World) (hz:Limb.Ok zs) (hr:Row w g zs) (hn:o+m<=zs.length):Ga g o m f zs xs w 0 0 w:=
 ⟨win zs o m,win_length zs o m hn,GC hz o m,by unfold win;rw[Fe zs o m hn];exact hr,Ao.refl g w,by simp[Aq]⟩
theorem Ga.only {g o m f:Nat} {zs xs:List Nat} {w:World} {k c:Nat} {wr:World} (h:Ga g o m f zs xs w k c wr):Ao g w wr:=by obtain ⟨_,_,_,_,hon,_⟩:=h;exact hon
theorem Ga.at_ {g o m f:Nat} {zs xs:List Nat} {w:World} {k c:Nat} {wr:World} (h:Ga g o m f zs xs w k c wr) (hn:o+m<=zs.length) (hk:k<m) :
   ∃z:Nat,z<4294967296/\wr.cell? ⟨g,o+k,none⟩=some (.int .u32 (z:Int))/\wr.frozen? ⟨g,o+k,none⟩=false /\
     ∀s c':Nat,s<4294967296->s+4294967296*c'=z+limb xs k*f+c->Ga g o m f zs xs w (k+1) c' (wr.setCell ⟨g,o+k,none⟩ (.int .u32 (s:Int))):=by
 obtain ⟨cur,hl,ho,hr,hon,hv⟩:=h;have hfit:o+cur.length<=zs.length:=by omega
 refine ⟨cur.getD k 0,ho.getD k,?_,hr.frozen _,fun s c' hs he=>?_⟩
 · rw[hr.cell (i:=o+k) (by rw[AA _ _ _ hfit];omega),Fc zs o cur hfit k (by omega)]
 · refine ⟨cur.set k s,by simp[hl],ho.set k s hs,?_,hon.setCell _ _,?_⟩
   · rw[<-FZ zs o cur hfit k s (by omega)];exact hr.set_ _ _
   · rw[Limb.step_set cur k s (limb xs k*f) c c' (by omega) _ hv he,upto_succ,Nat.add_mul,Nat.mul_assoc,Nat.add_assoc]
def SE (g o m f:Nat) (zs xs:List Nat) (w:World) (e:Ending) (w':World):Prop:=
 ∃(cur:List Nat) (cy:Nat),e=.returned (.int .u32 (cy:Int))/\cy<4294967296/\cur.length=m/\Limb.Ok cur/\Row w' g (put zs o cur)/\Ao g w w'/\Hid (Limb.val cur+4294967296^m*cy=Limb.val (win zs o m)+Limb.val xs*f)
theorem Ii (g o m c f:Nat) (zs:List Nat) (A:Option Addr) (d:Nat) (xs:List Nat) (w:World) (hr:Row w g zs) (hz:Limb.Ok zs) (hn:o+m<=zs.length) (hc:m<=4611686018427387904) (hcc:m<=c)
  (hx:Am w A m xs) (hap:0<m->Apart A g) (hf:f<4294967296) :
  Calls Tryz.prog 174 #[.slice (some ⟨g,o,none⟩) m c,.slice A m d,.int .u32 (f:Int)] w (SE g o m f zs xs w):=by
 have R:=Ad (Ga.start g o m f zs xs w hz hr hn);clear hr hz;go_enter Tryz.func174,Tryz.ntmps174;go_wp2_with fail;go_loopw [7,12] (fun c i wr=>∃k z:Nat,k<=m/\z<4294967296/\i=.int .i64 (k:Int)/\c=.int .u64 (z:Int)/\Hid (Ga g o m f zs xs w k z wr)) (fun _ i _=>m-(intOf i).toNat)
 case atStart=>exact ⟨0,0,Nat.zero_le _,by omega,rfl,rfl,R.out⟩
 case round=>
  clear R;obtain ⟨k,z,hk,hz1,rfl,rfl,R⟩:=hrel;by_cases hkm:k<m
  · have hxr:=hx.grown R.out.only (hap (by omega));obtain ⟨b1,o1,y,rfl,hyb,hye,hyc⟩:=hxr.at_ hkm;obtain ⟨zz,hzz,hcell,hfroz,hstep⟩:=R.out.at_ hn hkm;have hpn:=Kx _ _ hyb hf;obtain ⟨hp1,hp2,hp3⟩:=Ig _ _ hyb hf;have HP:=Lib.hid hp3;have HY:=Lib.hid hye;have HS:=Ad hstep;clear hye hstep hp3 hxr;go_wp2_with fail;have es:((z:Int)+((y:Int)*(f:Int)+(zz:Int)))%4294967296=(((z+(y*f+zz))%4294967296:Nat):Int):=(by have:=HP.out;omega)
    have ec:((z:Int)+((y:Int)*(f:Int)+(zz:Int)))/4294967296=(((z+(y*f+zz))/4294967296:Nat):Int):=(by have:=HP.out;omega);rw[es,ec];clear es ec;go_roundw
    case rel=>exact ⟨k+1,_,by omega,by omega,by go_num,rfl,HS.out _ _ (by omega) (by have e:=HY.out;unfold limb;rw[<-e];omega)⟩
    case measure=>simp[intOf];omega
  · obtain rfl:k=m:=(by omega);clear hkm;go_wp2_with fail;go_ret
    obtain ⟨cur,hl,ho,hr,hon,hv⟩:=R.out;exact ⟨cur,z,rfl,hz1,hl,ho,hr,hon,by show _=_;rw[hv,Ap xs k (by rw[hx.len];omega)]⟩
theorem DO (a b n m:Nat) (ha:a<4294967296^n) (hb:b<4294967296^m):a*b<4294967296^(n+m):=by rw[Nat.pow_add];exact Nat.mul_lt_mul'' ha hb
theorem Eg (ys:List Nat) (h:Limb.Ok ys) (k:Nat):upto ys k<4294967296^k:=by unfold upto;have h1:=Limb.val_lt (ys.take k) (h.take k);exact Nat.lt_of_lt_of_le h1 (Limb.pow_mono (by rw[List.length_take];omega))
theorem SF (V P Q W C2 c cy ay T new old:Nat) (h1:new+Q*old=P+Q*cy) (h0:old=0) (h2:P+c*W=V+c*C2) (h3:C2+T*cy=W+ay) (h4:Q=c*T):new=V+c*ay:=by
 subst h0;subst h4;have e:c*(C2+T*cy)=c*(W+ay):=by rw[h3]
 rw[Nat.mul_add,Nat.mul_add,<-Nat.mul_assoc]at e;rw[Nat.mul_zero]at h1;omega
def Sv (g n m:Nat) (xs ys:List Nat) (w:World) (k:Nat) (wr:World):Prop:=
 ∃cur:List Nat,cur.length=n+m/\Limb.Ok cur/\Row wr g cur/\Below w.heap.size w wr/\Limb.val cur=Limb.val xs*upto ys k
theorem R7 (cur cur2 xs ys:List Nat) (n m k cy:Nat) (hl:cur.length=n+m) (hx:Limb.val xs<4294967296^n) (hy:Limb.Ok ys) (hk:k<m) (hv:Limb.val cur=Limb.val xs*upto ys k) (hl2:cur2.length=n)
  (h:Limb.val cur2+4294967296^n*cy=Limb.val (win cur k n)+Limb.val xs*limb ys k):Limb.val ((put cur k cur2).set (k+n) cy)=Limb.val xs*upto ys (k+1):=by
 have hfit:k+cur2.length<=cur.length:=by omega
 have e1:=Hu cur k cur2 hfit;rw[hl2]at e1;have hlt:Limb.val cur<4294967296^(k+n):=by rw[hv,Nat.add_comm k n];exact DO _ _ _ _ hx (Eg ys hy k)
 have e2:=Limb.val_set (put cur k cur2) (k+n) cy (by rw[AA _ _ _ hfit];omega);have e3:(put cur k cur2).getD (k+n) 0=0:=by
  have h0:=Limb.limb_zero_of_lt cur (k+n) hlt;unfold limb at h0;unfold put;have hl3:(cur.take k).length=k:=by rw[List.length_take];omega
  rw[List.getD_eq_getElem?_getD,List.getElem?_append_right (by omega),hl3,List.getElem?_append_right (by omega),List.getElem?_drop,<-List.getD_eq_getElem?_getD,<-h0];congr 1
  omega
 have:=SF _ _ _ _ _ _ _ _ _ _ _ e2 e3 e1 h (Nat.pow_add 4294967296 k n);rw[this,hv,upto_succ,Nat.mul_add,Nat.mul_left_comm]
theorem Am.lt {w:World} {A:Option Addr} {n:Nat} {xs:List Nat} (h:Am w A n xs):Limb.val xs<4294967296^n:=by have:=Limb.val_lt xs h.ok;rwa [h.len]at this
theorem DR (A B:Option Addr) (n c m d:Nat) (xs ys:List Nat) (w:World) (hx:Am w A n xs) (hcn:n<=c) (hc9:c<=9223372036854775807) (hn40:n<=1099511627776) (hy:Am w B m ys) (hdm:m<=d) (hd9:d<=9223372036854775807) (hmn:m<=n) :
  Calls Tryz.prog 155 #[.slice A n c,.slice B m d] w (Ck (Limb.val xs*Limb.val ys) w):=by
 go_enter Tryz.func155,Tryz.ntmps155;go_wp2_with (at_make;refine AU _ rfl _ _ rfl _ (n+m) rfl rfl (by omega) (by omega) ?_;intro w1 hr1 hb1 hs1);have R:Hid (Sv w.heap.size n m xs ys w 0 w1):=⟨List.replicate (n+m) 0,by simp,Limb.Ok.replicate _,hr1,hb1,by rw[Limb.val_replicate,Aq,Nat.mul_zero]⟩;clear hr1;go_loopw [16] (fun i wr=>∃k:Nat,k<=m/\i=.int .i64 (k:Int)/\w.heap.size<wr.heap.size/\Hid (Sv w.heap.size n m xs ys w k wr)) (fun i _=>m-(intOf i).toNat)
 case atStart=>exact ⟨0,Nat.zero_le _,rfl,hs1,R.out⟩
 case round=>
  clear R hb1 hs1;obtain ⟨k,hk,rfl,hsz,R⟩:=hrel;obtain ⟨cur,hl,ho,hr,hb,hv⟩:=R.out;have HL:=Lib.hid hl;have HV:=Lib.hid hv;clear hv R;by_cases hkm:k<m
  · obtain ⟨b1,o1,y,rfl,hyb,hye,hyc⟩:=(hy.below hb).at_ hkm;have HY:=Lib.hid hye;clear hye hl;go_wp2_with fail;refine (Ii w.heap.size k n _ y cur A c xs wr hr ho (by rw[HL.out];omega) (by omega) (by omega) (hx.below hb) (fun h=>hx.apart h (Nat.le_refl _)) hyb).mono ?_;rintro e w2 ⟨cur2,cy,rfl,hcy,hl2,ho2,hr2,hon2,HE⟩;have HL2:=Lib.hid hl2;clear hl2;have hfit:k+cur2.length<=cur.length:=(by rw[HL.out,HL2.out];omega)
    have hc2:=hr2.cell (i:=k+n) (by rw[AA _ _ _ hfit,HL.out];omega);have hf2:=hr2.frozen (k+n);go_wp2_with fail;go_roundw
    case rel=>
     refine ⟨k+1,by omega,by go_num,by have:=hon2.size;simp[World.setCell];omega,_,?_,(CQ ho k ho2).set (k+n) cy hcy,hr2.set_ _ _,(hb.trans (hon2.below (by omega) (Nat.le_refl _))).setCell (Nat.le_refl _) _,?_⟩
     · rw[List.length_set,AA _ _ _ hfit];exact HL.out
     · exact R7 cur cur2 xs ys n m k cy HL.out hx.lt hy.ok hkm HV.out HL2.out (by have e:=HY.out;unfold limb;rw[<-e];exact HE.out)
    case measure=>simp[intOf];omega
  · obtain rfl:k=m:=(by omega);clear hkm;go_wp2_with fail;refine (Bp w.heap.size (n+k) _ (Limb.val xs*Limb.val ys) w.heap.size cur wr hr ho (by rw[hl];omega) (by omega) (by omega) (Nat.le_refl _) (by rw[List.take_of_length_le (by omega),HV.out,Ap ys k (by rw[hy.len];omega)])).mono ?_;rintro e w4 ⟨A',j,rfl,how,rfl⟩;go_wp2_with fail;go_ret
    exact ⟨A',j,rfl,how,hb⟩
end
section
open Go.RowKit
open Limb (limb AE upto upto_succ Ap Aq)
theorem FL (a:Nat):a<4294967296^L a:=Limb.canon_lt a
theorem Ky {a k:Nat} (h:a<4294967296^k):L a<=k:=Limb.canon_len_le a k h
theorem Kz {a b:Nat} (h:a<=b):L a<=L b:=Limb.canon_len_mono h
theorem PZ:L 0=0:=rfl
theorem Lp (a b:Nat):L (a*b)<=L a+L b:=Ky (DO a b _ _ (FL a) (FL b))
theorem DT (a k:Nat):(Limb.canon a).drop k=Limb.canon (a/4294967296^k):=by
 induction k generalizing a with
 |zero=>simp
 |succ k ih=>
  by_cases h:a=0
  · subst h;simp[Limb.canon_zero]
  · rw[Limb.canon_pos a h,List.drop_succ_cons,ih,Nat.pow_succ,Nat.mul_comm (4294967296^k),Nat.div_div_eq_div_mul]
theorem CS (a k:Nat):Limb.val ((Limb.canon a).take k)=a%4294967296^k:=by
 by_cases h:k<=(Limb.canon a).length
 · have e:=Limb.val_take_drop (Limb.canon a) k h;rw[Limb.val_canon,DT,Limb.val_canon]at e;have e2:=Nat.mod_add_div a (4294967296^k);omega
 · rw[List.take_of_length_le (by omega),Limb.val_canon,Nat.mod_eq_of_lt];exact Nat.lt_of_lt_of_le (Limb.canon_lt a) (Limb.pow_mono (by omega))
theorem Qa (a k:Nat):L (a/4294967296^k)=L a-k:=by unfold L;rw[<-DT,List.length_drop]
theorem win_zero (zs:List Nat) (o n:Nat) (h:Limb.val zs<4294967296^o):Limb.val (win zs o n)=0:=by
 have e:∀i,limb (win zs o n) i=limb ([]:List Nat) i:=by
  intro i;have e0:limb ([]:List Nat) i=0:=Limb.limb_beyond (Nat.zero_le _);rw[e0];unfold win;by_cases hi:i<n
  · have h1:limb ((zs.drop o).take n) i=limb zs (o+i):=by
     unfold limb;rw[List.getD_eq_getElem?_getD,List.getD_eq_getElem?_getD,List.getElem?_take_of_lt hi,List.getElem?_drop]
    rw[h1];exact Limb.limb_zero_of_lt zs (o+i) (Nat.lt_of_lt_of_le h (Limb.pow_mono (by omega)))
  · exact Limb.limb_beyond (by rw[List.length_take];omega)
 rw[Limb.val_eq_of_limbs _ _ e];rfl
theorem Gb (zs:List Nat) (o:Nat) (ws:List Nat) (h:o+ws.length<=zs.length) (hz:Limb.val zs<4294967296^o):Limb.val (put zs o ws)=Limb.val zs+4294967296^o*Limb.val ws:=by have e:=Hu zs o ws h;rw[win_zero zs o ws.length hz,Nat.mul_zero]at e;omega
theorem NW (zs:List Nat) (o n x:Nat) (hl:o+n=zs.length) (hlt:Limb.val zs+4294967296^o*x<4294967296^zs.length):Limb.val (put zs o (Limb.fixed n (Limb.val (win zs o n)+x)))=Limb.val zs+4294967296^o*x:=by
 have hf:(Limb.fixed n (Limb.val (win zs o n)+x)).length=n:=Limb.fixed_length _ _;have e:=Hu zs o (Limb.fixed n (Limb.val (win zs o n)+x)) (by omega);rw[hf,Limb.fixed_val]at e;have hw:4294967296^o*Limb.val (win zs o n)<=Limb.val zs:=by
  have e2:=Limb.val_take_drop zs o (by omega);have e3:win zs o n=zs.drop o:=by unfold win;rw[List.take_of_length_le (by rw[List.length_drop];omega)]
  rw[e3];omega
 have hs:Limb.val (win zs o n)+x<4294967296^n:=by
  have h1:4294967296^o*(Limb.val (win zs o n)+x)<4294967296^o*4294967296^n:=by rw[<-Nat.pow_add,hl,Nat.mul_add];omega
  exact Nat.lt_of_mul_lt_mul_left h1
 rw[Nat.mod_eq_of_lt hs,Nat.mul_add]at e;omega
theorem Qb (a b half n m:Nat) (hn:n=L a) (hm:m=L b) (h:half<=n) :
   (a%4294967296^half*b)+4294967296^half*(a/4294967296^half*b)=a*b/\a*b<4294967296^(n+m)/\L (a%4294967296^half*b)<=half+m/\L (a/4294967296^half*b)<=n-half+m:=by
 refine ⟨?_,?_,?_,?_⟩
 · rw[<-Nat.mul_assoc,<-Nat.add_mul,Nat.mod_add_div]
 · subst hn hm;exact DO a b _ _ (FL a) (FL b)
 · have h1:=Lp (a%4294967296^half) b;have h2:L (a%4294967296^half)<=half:=Ky (Nat.mod_lt _ (Nat.pow_pos (by omega)));omega
 · have h1:=Lp (a/4294967296^half) b;rw[Qa]at h1;omega
theorem Gc (A:Option Addr) (n c k a:Nat) (w:World) (hx:Am w A n (Limb.canon a)) (hk:k<=n) (hc:n<=c) (hm:c<=9223372036854775807) :
  Calls Tryz.prog 175 #[.slice A n c,.int .i64 (k:Int)] w (Ed A (a%4294967296^k) w):=by
 have h:=Ih A n c k _ w hx hk hc hm;rw[CS]at h;exact h
theorem JI (A:Option Addr) (n k a:Nat) (w:World) (hx:Am w A n (Limb.canon a)) (hk:k<=n):Am w (Hh A (a%4294967296^k)) (L (a%4294967296^k)) (Limb.canon (a%4294967296^k)):=by have h:=(Bz w A _ k (hx.take (k:=k) hk)).2.2.1;rw[CS]at h;exact h
theorem Ij (A:Option Addr) (n c k a:Nat) (w:World) (hx:Am w A n (Limb.canon a)) (hk:k<n) (hc:n<=c):Am w (A.map (·.add k)) (n-k) (Limb.canon (a/4294967296^k)):=by have h:=hx.cut (k:=k) (cap:=c) (by omega) hc;rw[DT,if_neg (by omega)]at h;exact h
def DD (K:Nat):Prop:=∀(A B:Option Addr) (n c m d a b:Nat) (w:World),n+m<K->Am w A n (Limb.canon a)->n<=c->c<=9223372036854775807->Am w B m (Limb.canon b)->m<=d->d<=9223372036854775807->n+m<=549755813888 ->
 Calls Tryz.prog 130 #[.slice A n c,.slice B m d] w (Ck (a*b) w)
theorem Lq (n m n2 low:Nat) (h:n2=(Limb.canon low).length) (hle:n2<=n+m) :
  Limb.Ok (put (List.replicate (n+m) 0) 0 (Limb.canon low))/\(put (List.replicate (n+m) 0) 0 (Limb.canon low)).length=n+m/\Limb.val (put (List.replicate (n+m) 0) 0 (Limb.canon low))=low:=by
 refine ⟨CQ (Limb.Ok.replicate _) _ (Limb.ok_canon _),by rw[AA _ _ _ (by simp;omega)];simp,?_⟩;rw[Gb _ _ _ (by simp;omega) (by rw[Limb.val_replicate];exact Nat.pow_pos (by omega)),Limb.val_replicate,Limb.val_canon];simp
theorem Eh (A B:Option Addr) (n c m d a b half:Nat) (w:World) (IH:DD (n+m)) (hx:Am w A n (Limb.canon a)) (hc:n<=c) (hm:c<=9223372036854775807) (hy:Am w B m (Limb.canon b)) (hd:m<=d) (hmd:d<=9223372036854775807) (h39:n+m<=549755813888)
  (hh:half<n) (hh0:0<half) :
  Calls Tryz.prog 156 #[.slice A n c,.slice B m d,.int .i64 (half:Int)] w (Ck (a*b) w):=by
 have HT:=Ad (Qb a b half n m hx.len.symm hy.len.symm (by omega));have IHH:=Ad IH;clear IH;have ll:L (a%4294967296^half)<=half:=Ky (Nat.mod_lt _ (Nat.pow_pos (by omega)));go_enter Tryz.func156,Tryz.ntmps156;go_wp2_with (at_make;refine AU _ rfl _ _ rfl _ (n+m) rfl rfl (by omega) (by omega) ?_;intro w1 hr1 hb1 hs1);refine (Ih A n c half _ w1 (hx.below hb1) (by omega) hc hm).mono ?_;rintro e w' ⟨rfl,rfl⟩;rw[CS];go_wp2_with fail
 have hx1:=Bz w1 A _ half ((hx.below hb1).take (k:=half) (by omega));rw[CS]at hx1;refine (IHH.out (Hh A (a%4294967296^half)) B _ _ m d (a%4294967296^half) b w1 (by omega) hx1.2.2.1 (Nat.le_refl _) (by omega) (hy.below hb1) hd hmd (by omega)).mono ?_;rintro e w2 ⟨A2,n2,rfl,o2,b2⟩;have l2:n2<=half+m:=by rw[o2.len];exact HT.out.2.2.1
 clear hx1;go_wp2_with (with_reducible refine AZ rfl _ _ rfl w.heap.size 0 _ _ _ _ n2 n2 rfl (fun _=>rfl) rfl _ _ (hr1.below b2 hs1) o2.nums (by omega) (by simp;omega) ?_;intro w3 hr3 ho3);have b3:Below w.heap.size w w3:=(hb1.next b2).trans (ho3.below (by have:=b2.size;omega) (Nat.le_refl _));have hx3:=(hx.below b3).cut (k:=half) (cap:=c) (by omega) hc;rw[DT]at hx3;have hsz3:w.heap.size<w3.heap.size:=by have:=ho3.size;have:=b2.size;omega
 have f1:(half:Int)<=(n:Int)+(m:Int):=by omega
 have f2:(half:Int)<=(n:Int):=by omega
 have f3:(n+m=half)=False:=by simp;omega
 have f4:(c=half)=False:=by simp;omega
 rw[if_neg (by omega)]at hx3;have hr3:Row w3 w.heap.size (put (List.replicate (n+m) 0) 0 (Limb.canon (a%4294967296^half*b))):=hr3;have l3:n2<=n+m:=by omega
 have HN2:=Lib.hid o2.len;have HP:=Ad (Lq n m n2 (a%4294967296^half*b) HN2.out l3);generalize put (List.replicate (n+m) 0) 0 (Limb.canon (a%4294967296^half*b))=zs at hr3 HP;go_region_with (first
  |(go_at_call 130;refine (IHH.out _ B _ _ m d (a/4294967296^half) b _ (by omega) hx3.drew (by omega) (by omega) (hy.below b3).drew hd hmd (by omega)).mono ?_;rintro e w4 ⟨A4,n4,rfl,o4,b4⟩)
  |(go_at_call 128;(refine (CR w.heap.size half (n+m-half) _ zs A4 n4 n4 _ _ (hr3.drew.below b4 hsz3) HP.out.1 (by rw[HP.out.2.1];omega) (by omega) o4.nums (by rw[o4.len];exact Nat.le_trans HT.out.2.2.2 (by omega)) (fun h=>o4.apart h hsz3)).mono ?_);rintro e w5 ⟨rfl,hr5,ho5⟩))
 go_wp2_with fail;have hv:Limb.val (put zs half (Limb.fixed (n+m-half) (Limb.val (win zs half (n+m-half))+Limb.val (Limb.canon (a/4294967296^half*b)))))=a*b:=by rw[NW zs half _ _ (by rw[HP.out.2.1];omega) (by rw[HP.out.2.1,HP.out.2.2,Limb.val_canon,HT.out.1];exact HT.out.2.1),HP.out.2.2,Limb.val_canon,HT.out.1]
 have hlen:(put zs half (Limb.fixed (n+m-half) (Limb.val (win zs half (n+m-half))+Limb.val (Limb.canon (a/4294967296^half*b))))).length=n+m:=by rw[AA _ _ _ (by rw[Limb.fixed_length,HP.out.2.1];omega)];exact HP.out.2.1
 have hok:=CQ HP.out.1 half (Limb.fixed_ok (n+m-half) (Limb.val (win zs half (n+m-half))+Limb.val (Limb.canon (a/4294967296^half*b))));refine (Bp w.heap.size (n+m) _ (a*b) w.heap.size _ _ hr5 hok (by rw[hlen];exact Nat.le_refl _) (by omega) (by omega) (Nat.le_refl _) (by rw[List.take_of_length_le (by rw[hlen];exact Nat.le_refl _)];exact hv)).mono ?_;rintro e w6 ⟨A',j,rfl,how,rfl⟩;clear hv hlen hok;go_wp2_with fail;go_ret
 exact ⟨A',j,rfl,how,(b3.drew.next b4).trans (ho5.below (by have:=b4.size;simp at this;omega) (Nat.le_refl _))⟩
end
section
open Go.RowKit
open Limb (limb AE upto upto_succ Ap Aq)
structure SG (a b half n m:Nat):Prop where
 a0:L (a%4294967296^half)<=half
 b0:L (b%4294967296^half)<=half
 sa:L (a%4294967296^half+a/4294967296^half)<=half+1
 sb:L (b%4294967296^half+b/4294967296^half)<=half+1
 low:L (a%4294967296^half*(b%4294967296^half))<=2*half
 high:L (a/4294967296^half*(b/4294967296^half))<=n+m-2*half
 le1:a%4294967296^half*(b%4294967296^half)<=(a%4294967296^half+a/4294967296^half)*(b%4294967296^half+b/4294967296^half)
 le2:a/4294967296^half*(b/4294967296^half)<=(a%4294967296^half+a/4294967296^half)*(b%4294967296^half+b/4294967296^half)-a%4294967296^half*(b%4294967296^half)
 all:a%4294967296^half*(b%4294967296^half)+4294967296^(2*half)*(a/4294967296^half*(b/4294967296^half)) +
  4294967296^half*((a%4294967296^half+a/4294967296^half)*(b%4294967296^half+b/4294967296^half)-a%4294967296^half*(b%4294967296^half)-a/4294967296^half*(b/4294967296^half))=a*b
 lt:a*b<4294967296^(n+m)
 mid:(a%4294967296^half+a/4294967296^half)*(b%4294967296^half+b/4294967296^half)≠0
theorem Uq (p a0 a1 b0 b1:Nat):a0*b0+p*p*(a1*b1)+p*((a0+a1)*(b0+b1)-a0*b0-a1*b1)=(a0+p*a1)*(b0+p*b1):=by
 have e:(a0+a1)*(b0+b1)=a0*b0+a0*b1+(a1*b0+a1*b1):=by rw[Nat.add_mul,Nat.mul_add,Nat.mul_add]
 have e2:(a0+a1)*(b0+b1)-a0*b0-a1*b1=a0*b1+a1*b0:=by omega
 rw[e2,Nat.add_mul,Nat.mul_add,Nat.mul_add,Nat.mul_add];have e3:a0*(p*b1)=p*(a0*b1):=Nat.mul_left_comm _ _ _;have e4:p*a1*b0=p*(a1*b0):=Nat.mul_assoc _ _ _;have e5:p*a1*(p*b1)=p*p*(a1*b1):=by rw[Nat.mul_assoc,Nat.mul_left_comm a1 p b1,<-Nat.mul_assoc]
 rw[e3,e4,e5];omega
theorem SH (a b half n m:Nat) (hn:n=L a) (hm:m=L b) (hna:half<n) (hnb:half<m) (h2:n<=2*half) (hmn:m<=n):SG a b half n m:=by
 have ha0:a%4294967296^half<4294967296^half:=Nat.mod_lt _ (Nat.pow_pos (by omega));have hb0:b%4294967296^half<4294967296^half:=Nat.mod_lt _ (Nat.pow_pos (by omega));have la1:=Qa a half;have lb1:=Qa b half;have ha1:a/4294967296^half<4294967296^half:=Nat.lt_of_lt_of_le (FL _) (Limb.pow_mono (by omega));have hb1:b/4294967296^half<4294967296^half:=Nat.lt_of_lt_of_le (FL _) (Limb.pow_mono (by omega));have ea:=Nat.mod_add_div a (4294967296^half)
 have eb:=Nat.mod_add_div b (4294967296^half);have l0:=Lp (a%4294967296^half) (b%4294967296^half);have l1:=Lp (a/4294967296^half) (b/4294967296^half);have la0:L (a%4294967296^half)<=half:=Ky ha0;have lb0:L (b%4294967296^half)<=half:=Ky hb0;have hall:=Uq (4294967296^half) (a%4294967296^half) (a/4294967296^half) (b%4294967296^half) (b/4294967296^half);rw[ea,eb,<-Nat.pow_add]at hall;have e2:half+half=2*half:=by omega
 rw[e2]at hall;have hexp:∀x y z t:Nat,(x+y)*(z+t)=x*z+x*t+(y*z+y*t):=fun x y z t=>by rw[Nat.add_mul,Nat.mul_add,Nat.mul_add]
 have hle:=hexp (a%4294967296^half) (a/4294967296^half) (b%4294967296^half) (b/4294967296^half);refine ⟨la0,lb0,Ky (add_lt _ _ _ ha0 ha1),Ky (add_lt _ _ _ hb0 hb1),by omega,by omega,by rw[hle];omega,by rw[hle];omega,hall,by rw[hn,hm];exact DO a b _ _ (FL a) (FL b),?_⟩;intro h0;have ha:a≠0:=by intro h;subst h;rw[PZ]at hn;omega
 have hb:b≠0:=by intro h;subst h;rw[PZ]at hm;omega
 have hab:a*b≠0:=Nat.mul_ne_zero ha hb;rcases Nat.mul_eq_zero.1 h0 with h|h
 · obtain ⟨e1,e2⟩:=Nat.add_eq_zero_iff.1 h;rw[e1,e2,Nat.mul_zero]at ea;exact ha ea.symm
 · obtain ⟨e1,e2⟩:=Nat.add_eq_zero_iff.1 h;rw[e1,e2,Nat.mul_zero]at eb;exact hb eb.symm
theorem Ur (P Q X half k:Nat) (hk:half<=k) (h:P+4294967296^(2*half)*Q+4294967296^half*X<4294967296^k):X<4294967296^(k-half):=by
 have e:4294967296^k=4294967296^half*4294967296^(k-half):=by rw[<-Nat.pow_add];congr 1;omega
 rw[e]at h;refine Nat.lt_of_mul_lt_mul_left (a:=4294967296^half) ?_;exact Nat.lt_of_le_of_lt (Nat.le_add_left _ _) h
theorem NX (zs:List Nat) (ws:List Nat) (h:ws.length<=zs.length):win (put zs 0 ws) 0 ws.length=ws:=by unfold win put;simp
theorem R8 (zs:List Nat) (us ws:List Nat) (h:us.length=ws.length):put (put zs 0 us) 0 ws=put zs 0 ws:=by unfold put;simp[h]
theorem Dy (A B:Option Addr) (n c m d a b half:Nat) (w:World) (IH:DD (n+m)) (hx:Am w A n (Limb.canon a)) (hc:n<=c) (hm:c<=9223372036854775807) (hy:Am w B m (Limb.canon b)) (hd:m<=d) (hmd:d<=9223372036854775807) (h39:n+m<=549755813888)
  (hna:half<n) (hnb:half<m) (h2:n<=2*half) (h2':2*half<=n+1) (hmn:m<=n) (h48:48<=m) :
  Calls Tryz.prog 157 #[.slice A n c,.slice B m d,.int .i64 (half:Int)] w (Ck (a*b) w):=by
 have HH:=Ad (SH a b half n m hx.len.symm hy.len.symm hna hnb h2 hmn);have IHH:=Ad IH;clear IH;have f2:(half:Int)<=(n:Int):=by omega
 have f2b:(half:Int)<=(m:Int):=by omega
 have f4:(c=half)=False:=by simp;omega
 have f4b:(d=half)=False:=by simp;omega
 go_enter Tryz.func157,Tryz.ntmps157;go_wp2_with fail;go_quiet ((go_at_call 175;exact M8 (Gc A n c half a _ (hx.drewN _) (by omega) hc hm)))
 go_wp2_with fail;go_quiet ((go_at_call 175;exact Fa (Gc B m d half b _ (hy.drewN _) (by omega) hd hmd)))
 go_wp2_with fail;have hA0:=JI A n half a w hx (by omega);have hB0:=JI B m half b w hy (by omega);have hA1:=Ij A n c half a w hx hna hc;have hB1:=Ij B m d half b w hy hnb hd;have i1:=HH.out.a0;have i2:=HH.out.b0;have i3:=HH.out.sa;have i4:=HH.out.sb;have i5:=HH.out.low;have i6:=HH.out.high;have HLE1:=Ad HH.out.le1;have HLE2:=Ad HH.out.le2;have HALL:=Ad HH.out.all;have HLT:=Ad HH.out.lt;have HMID:=Ad HH.out.mid;generalize a%4294967296^half=a0 at *
 generalize a/4294967296^half=a1 at *;generalize b%4294967296^half=b0 at *;generalize b/4294967296^half=b1 at *;clear hx hy HH;have t0:=Ak w;refine (IHH.out (Hh A a0) (Hh B b0) (L a0) (L a0) (L b0) (L b0) a0 b0 (w.drewN _) (by omega) (hA0.below (t0 _)) (Nat.le_refl _) (by omega) (hB0.below (t0 _)) (Nat.le_refl _) (by omega) (by omega)).mono ?_;rintro e w1 ⟨A1,n1,rfl,o1,b1w⟩;have t1:=(t0 _).next b1w;clear t0;clear b1w;have l1:n1<=2*half:=by rw[o1.len];exact i5
 go_wp2_with fail;refine (IHH.out (A.map (·.add half)) (B.map (·.add half)) (n-half) (c-half) (m-half) (d-half) a1 b1 _ (by omega) (hA1.below t1) (by omega) (by omega) (hB1.below t1) (by omega) (by omega) (by omega)).mono ?_;rintro e w2 ⟨A2,n2,rfl,o2,b2⟩;have t2:=t1.next b2;have l2:n2<=n+m-2*half:=by rw[o2.len];exact i6
 go_wp2_with fail;refine (Kw (Hh A a0) (A.map (·.add half)) (L a0) (L a0) (n-half) (c-half) _ _ _ (hA0.below t2) (Nat.le_refl _) (by omega) (by omega) (hA1.below t2) (by omega) (by omega) (by omega)).mono ?_;rintro e w3 ⟨A3,n3,rfl,o3,b3⟩;rw[Limb.val_canon,Limb.val_canon]at o3;have t3:=t2.next b3;have l3:n3<=half+1:=by rw[o3.len];exact i3
 go_wp2_with fail;refine (Kw (Hh B b0) (B.map (·.add half)) (L b0) (L b0) (m-half) (d-half) _ _ _ (hB0.below t3) (Nat.le_refl _) (by omega) (by omega) (hB1.below t3) (by omega) (by omega) (by omega)).mono ?_;rintro e w4 ⟨A4,n4,rfl,o4,b4⟩;rw[Limb.val_canon,Limb.val_canon]at o4;have t4:=t3.next b4;have l4:n4<=half+1:=by rw[o4.len];exact i4
 go_wp2_with fail;refine (IHH.out A3 A4 n3 _ n4 _ (a0+a1) (b0+b1) _ (by omega) (o3.nums.below b4) (Nat.le_refl _) (by omega) o4.nums (Nat.le_refl _) (by omega) (by omega)).mono ?_;rintro e w5 ⟨A5,n5,rfl,o5,b5⟩;have t5:=t4.next b5;have l5:n5<=2*half+2:=by have h1:=Lp (a0+a1) (b0+b1);rw[o5.len];unfold L at h1 i3 i4;omega
 have low5:=o1.nums.below ((b2.next b3).next (b4.next b5));have high5:=o2.nums.below ((b3.next b4).next b5);have low4:=o1.nums.below ((b2.next b3).next b4);have high4:=o2.nums.below (b3.next b4);have hl15:n1<=n5:=by rw[o1.len,o5.len];exact Kz HLE1.out
 have hl25:n2<=n5:=by rw[o2.len,o5.len];exact Kz (Nat.le_trans HLE2.out (Nat.sub_le _ _))
 have hrow:=o5.trimRow.2 HMID.out;obtain ⟨g,zs,rfl,hg,hr5,hzok,hzl,hwin⟩:=hrow;have HW:=Lib.hid hwin;have hg5:w.heap.size<=g:=by have:=t4.size;omega
 clear hwin b2 b3 b4 b5 t1 t2 t3 t4 o3 o4 hA0 hB0 hA1 hB1;have hM:=FL ((a0+a1)*(b0+b1));have e5:L ((a0+a1)*(b0+b1))=n5:=o5.len.symm;rw[e5]at hM;have HM:=Ad hM;clear e5 hM o1 o2 o5 i1 i2 i3 i4 i5 i6 l3 l4;generalize a0*b0=P at *;generalize a1*b1=Q at *;generalize (a0+a1)*(b0+b1)=M at *;have HX:=Ad (Ur P Q (M-P-Q) half (n+m) (by omega) (by rw[HALL.out];exact HLT.out));go_wp2_with fail
 refine (EC g 0 n5 _ zs A1 n1 n1 (Limb.canon P) w5 hr5 hzok (by omega) (by omega) low5 hl15 (fun h=>low4.apart h hg) (by rw[HW.out,Limb.val_canon,Limb.val_canon];exact HLE1.out)).mono ?_;rintro e w6 ⟨rfl,hr6,ho6⟩;rw[HW.out,Limb.val_canon,Limb.val_canon]at hr6;have low6:=low5.grown' ho6 (fun h=>low4.apart h hg);have high6:=high5.grown' ho6 (fun h=>high4.apart h hg);have hf1:(Limb.fixed n5 (M-P)).length=n5:=Limb.fixed_length _ _
 have hw2:win (put zs 0 (Limb.fixed n5 (M-P))) 0 n5=Limb.fixed n5 (M-P):=by have:=NX zs (Limb.fixed n5 (M-P)) (by rw[hf1];exact hzl);rwa [hf1]at this
 have hv2:Limb.val (win (put zs 0 (Limb.fixed n5 (M-P))) 0 n5)=M-P:=by rw[hw2,Limb.fixed_val,Nat.mod_eq_of_lt (Nat.lt_of_le_of_lt (Nat.sub_le _ _) HM.out)]
 have HV2:=Lib.hid hv2;have hl2:(put zs 0 (Limb.fixed n5 (M-P))).length=zs.length:=AA _ _ _ (by rw[hf1];omega);have HL2:=Lib.hid hl2;have HF1:=Lib.hid hf1;clear hf1 hw2 hv2 hl2;have hf2:n5<=4611686018427387904:=by omega
 go_wp2_with fail;refine (EC g 0 n5 _ _ A2 n2 n2 (Limb.canon Q) w6 hr6 (CQ hzok _ (Limb.fixed_ok _ _)) (by rw[HL2.out];omega) hf2 high6 hl25 (fun h=>high4.apart h hg) (by rw[HV2.out,Limb.val_canon];exact HLE2.out)).mono ?_;rintro e w7 ⟨rfl,hr7,ho7⟩;rw[HV2.out,Limb.val_canon,R8 _ _ _ (by rw[Limb.fixed_length,Limb.fixed_length])]at hr7;have low7:=low6.grown' ho7 (fun h=>low4.apart h hg);have high7:=high6.grown' ho7 (fun h=>high4.apart h hg)
 have t7:Below w.heap.size w w7:=(t5.trans (ho6.below t5.size hg5)).trans (ho7.below (by have:=ho6.size;have:=t5.size;omega) hg5);clear ho6 ho7 hr5 hr6 low5 low6 high5 high6 low4 high4 t5 HV2 HL2 HF1 HW;have hlp:=low7.len;have HLP:=Lib.hid hlp;have hlq:=high7.len;have HLQ:=Lib.hid hlq;clear hlp hlq;have hr1:(put (List.replicate (n+m) 0) 0 (Limb.canon P)).length=n+m:=by rw[AA _ _ _ (by rw[List.length_replicate,HLP.out];omega),List.length_replicate]
 have HR1:=Lib.hid hr1;clear hr1;have f5:(n+m=2*half)=False:=by simp;omega
 have f6:(2*(half:Int))<=(n:Int)+(m:Int):=by omega
 go_wp2_with (first
  |(at_make;refine AU _ rfl _ _ rfl _ (n+m) rfl rfl (by omega) (by omega) ?_;intro w8 hr8 hb8 hs8)
  |(with_reducible refine AZ (o:=⟨some 54,_,_,_,_,_⟩) rfl _ _ rfl w7.heap.size 0 _ _ _ _ n1 n1 rfl (fun _=>rfl) rfl _ _ hr8 (low7.below hb8) (by omega) (by simp;omega) ?_;intro w9 hr9 ho9)
  |(with_reducible refine AZ (o:=⟨some 60,_,_,_,_,_⟩) rfl _ _ rfl w7.heap.size (2*half) _ _ _ _ n2 n2 rfl (fun _=>rfl) rfl _ _ hr9 ((high7.below hb8).grown' ho9.gb (fun h=>high7.apart h (Nat.le_refl _))) (by omega) (by rw[HR1.out];omega) ?_;intro w10 hr10 ho10))
 have hv9:Limb.val (put (List.replicate (n+m) 0) 0 (Limb.canon P))=P:=(Lq n m n1 P HLP.out.symm (by omega)).2.2;have hP2:P<4294967296^(2*half):=Nat.lt_of_lt_of_le (FL P) (Limb.pow_mono (by have:=HLP.out;unfold L;omega));have hv10:Limb.val (put (put (List.replicate (n+m) 0) 0 (Limb.canon P)) (2*half) (Limb.canon Q))=P+4294967296^(2*half)*Q:=by rw[Gb _ _ _ (by rw[HR1.out,HLQ.out];omega) (by rw[hv9];exact hP2),hv9,Limb.val_canon]
 have hl10:(put (put (List.replicate (n+m) 0) 0 (Limb.canon P)) (2*half) (Limb.canon Q)).length=n+m:=by rw[AA _ _ _ (by rw[HR1.out,HLQ.out];omega)];exact HR1.out
 have hk10:Limb.Ok (put (put (List.replicate (n+m) 0) 0 (Limb.canon P)) (2*half) (Limb.canon Q)):=CQ (CQ (Limb.Ok.replicate _) _ (Limb.ok_canon _)) _ (Limb.ok_canon _);have HV10:=Lib.hid hv10;have HL10:=Lib.hid hl10;clear hv9 hP2 hv10 hl10;generalize put (put (List.replicate (n+m) 0) 0 (Limb.canon P)) (2*half) (Limb.canon Q)=zr at *;have t8:Ao w7.heap.size w8 w10:=ho9.trans ho10;have hr7':=((hr7.below hb8 hr7.lt).grown t8.gb (by intro h;injection h with h;have:=hr7.lt;omega))
 have hap:Apart (some ⟨g,0,none⟩) w7.heap.size:=by
  intro ad h;injection h with h
  subst h;have:=hr7.lt;show g≠w7.heap.size;omega
 have hF2:(Limb.fixed n5 (M-P-Q)).length=n5:=Limb.fixed_length _ _;have hn7:Am w10 (some ⟨g,0,none⟩) n5 (Limb.fixed n5 (M-P-Q)):=by have h1:=hr7'.nums (CQ hzok 0 (Limb.fixed_ok _ _)) (o:=0) (n:=n5) (by rw[AA _ _ _ (by rw[hF2];omega)];omega);have h2:=NX zs (Limb.fixed n5 (M-P-Q)) (by rw[hF2];exact hzl);rw[hF2]at h2;unfold win at h2;rw[h2]at h1;exact h1
 have hv7:Limb.val (Limb.fixed n5 (M-P-Q))=M-P-Q:=by rw[Limb.fixed_val,Nat.mod_eq_of_lt];have:=HM.out;omega
 have hcut:=Bz w10 _ _ _ hn7;have hdet:=fun wz=>Bo (some ⟨g,0,none⟩) n5 n5 (Limb.fixed n5 (M-P-Q)) wz
 rw[hv7]at hcut hdet;have hd2:=hdet _ hn7.drew (Nat.le_refl _) (by omega);have HCUT:=Ad hcut.2.2.1;have hLX:L (M-P-Q)<=n+m-half:=Ky HX.out;have hap2:Apart (Hh (some ⟨g,0,none⟩) (M-P-Q)) w7.heap.size:=by
  unfold Hh;split
  · intro ad h;cases h
  · exact hap
 clear hdet hcut hF2 hv7 hr7 hap;have f7:(half:Int)<=(n:Int)+(m:Int):=by omega
 have f8:(n+m=half)=False:=by simp;omega
 generalize M-P-Q=X at *;go_region_with (first
  |(go_at_call 88;refine hd2.mono ?_;rintro e w' ⟨rfl,rfl⟩)
  |(go_at_call 128;refine (CR w7.heap.size half (n+m-half) _ zr _ _ _ _ _ hr10.drew hk10 (by rw[HL10.out];omega) (by omega) HCUT.out.drew hLX (fun _=>hap2)).mono ?_;rintro e w11 ⟨rfl,hr11,ho11⟩))
 go_wp2_with fail;have hfin:Limb.val (put zr half (Limb.fixed (n+m-half) (Limb.val (win zr half (n+m-half))+Limb.val (Limb.canon X))))=a*b:=by rw[NW zr half _ _ (by rw[HL10.out];omega) (by rw[HL10.out,HV10.out,Limb.val_canon,HALL.out];exact HLT.out),HV10.out,Limb.val_canon,HALL.out]
 have hlen:(put zr half (Limb.fixed (n+m-half) (Limb.val (win zr half (n+m-half))+Limb.val (Limb.canon X)))).length=n+m:=by rw[AA _ _ _ (by rw[Limb.fixed_length,HL10.out];omega)];exact HL10.out
 have hok:=CQ hk10 half (Limb.fixed_ok (n+m-half) (Limb.val (win zr half (n+m-half))+Limb.val (Limb.canon X)));refine (Bp w7.heap.size (n+m) _ (a*b) w.heap.size _ _ hr11 hok (by rw[hlen];exact Nat.le_refl _) (by omega) (by omega) t7.size (by rw[List.take_of_length_le (by rw[hlen];exact Nat.le_refl _)];exact hfin)).mono ?_;rintro e w12 ⟨A',j,rfl,how,rfl⟩;clear hfin hlen hok;go_wp2_with fail;go_ret
 exact ⟨A',j,rfl,how,((t7.next hb8).trans (t8.below (by have:=hb8.size;have:=t7.size;omega) t7.size)).drew.trans (ho11.below (by have:=hb8.size;have:=t7.size;have:=t8.size;show w.heap.size<=w10.heap.size;omega) t7.size)⟩
end
end Go.Proofs.YtemfjdedjcjegaaGreatDoor
