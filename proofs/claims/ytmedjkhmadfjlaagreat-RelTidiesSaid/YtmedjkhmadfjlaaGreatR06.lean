/- Texts of one seat, put together: DivA Take Shift. -/
import Derived.Test.YtmedjkhmadfjlaaGreatR05
import Derived.BigRegion
import Derived.StillTailTactics
set_option linter.unusedVariables false
set_option linter.unusedSimpArgs false
set_option maxRecDepth 100000
set_option maxHeartbeats 16000000
namespace Go.Proofs.YtmedjkhmadfjlaaGreat
section
open Go.RowKit
open Limb (limb AQ upto upto_succ Az AC)
def Hf (g o m f:Nat) (zs xs:List Nat) (w:World) (k c:Nat) (wr:World):Prop:=
 ∃cur:List Nat,cur.length=m/\Limb.Ok cur/\Row wr g (put zs o cur)/\AA g w wr/\Limb.val cur+upto xs k*f=Limb.val (win zs o m)+4294967296^k*c
theorem Hf.start (g o m f:Nat) (zs xs:List Nat) (w:World) (hz:Limb.Ok zs) (hr:Row w g zs) (hn:o+m<=zs.length):Hf g o m f zs xs w 0 0 w:=
 ⟨win zs o m,win_length zs o m hn,H9 hz o m,by unfold win;rw[FL zs o m hn];exact hr,AA.refl g w,by simp[AC]⟩
theorem Hf.only {g o m f:Nat} {zs xs:List Nat} {w:World} {k c:Nat} {wr:World} (h:Hf g o m f zs xs w k c wr):AA g w wr:=by obtain ⟨_,_,_,_,hon,_⟩:=h;exact hon
theorem Hf.at_ {g o m f:Nat} {zs xs:List Nat} {w:World} {k c:Nat} {wr:World} (h:Hf g o m f zs xs w k c wr) (hn:o+m<=zs.length) (hk:k<m) :
   ∃z:Nat,z<4294967296/\wr.cell? ⟨g,o+k,none⟩=some (.int .u32 (z:Int))/\wr.frozen? ⟨g,o+k,none⟩=false /\
     ∀s c':Nat,s<4294967296->s+limb xs k*f+c=z+4294967296*c'->Hf g o m f zs xs w (k+1) c' (wr.setCell ⟨g,o+k,none⟩ (.int .u32 (s:Int))):=by
 obtain ⟨cur,hl,ho,hr,hon,hv⟩:=h;have hfit:o+cur.length<=zs.length:=by omega
 refine ⟨cur.getD k 0,ho.getD k,?_,hr.frozen _,fun s c' hs he=>?_⟩
 · rw[hr.cell (i:=o+k) (by rw[AM _ _ _ hfit];omega),FK zs o cur hfit k (by omega)]
 · refine ⟨cur.set k s,by simp[hl],ho.set k s hs,?_,hon.setCell _ _,?_⟩
   · rw[<-GX zs o cur hfit k s (by omega)];exact hr.set_ _ _
   · rw[<-Limb.step_unset cur k s (limb xs k*f) c c' (by omega) _ _ hv he,upto_succ,Nat.add_mul,Nat.mul_assoc]
def UH (g o m f:Nat) (zs xs:List Nat) (w:World) (e:Ending) (w':World):Prop:=
 ∃(cur:List Nat) (cy:Nat),e=.returned (.int .u32 (cy:Int))/\cy<4294967296/\cur.length=m/\Limb.Ok cur/\Row w' g (put zs o cur)/\AA g w w'/\Hid (Limb.val cur+Limb.val xs*f=Limb.val (win zs o m)+4294967296^m*cy)
theorem Rq (z y f:Nat) (hz:z<4294967296) (hy:y<4294967296) (hf:f<4294967296):z+y*f<=18446744069414584320:=by have h:=Nat.mul_le_mul (show y<=4294967295 by omega) (show f<=4294967295 by omega);omega
theorem J1 (g o m c f:Nat) (zs:List Nat) (A:Option Addr) (d:Nat) (xs:List Nat) (w:World) (hr:Row w g zs) (hz:Limb.Ok zs) (hn:o+m<=zs.length) (hc:m<=4611686018427387904) (hcc:m<=c)
  (hx:Av w A m xs) (hap:0<m->Apart A g) (hf:f<4294967296) :
  Calls Tryz.prog 227 #[.slice (some ⟨g,o,none⟩) m c,.slice A m d,.int .u32 (f:Int)] w (UH g o m f zs xs w):=by
 have R:=Ac (Hf.start g o m f zs xs w hz hr hn);clear hr hz;go_enter Tryz.func227,Tryz.ntmps227;go_wp2_with fail;go_loopw [7,13] (fun c i wr=>∃k z:Nat,k<=m/\z<4294967296/\i=.int .i64 (k:Int)/\c=.int .u64 (z:Int)/\Hid (Hf g o m f zs xs w k z wr)) (fun _ i _=>m-(intOf i).toNat)
 case atStart=>exact ⟨0,0,Nat.zero_le _,by omega,rfl,rfl,R.out⟩
 case round=>
  clear R;obtain ⟨k,z,hk,hz1,rfl,rfl,R⟩:=hrel;by_cases hkm:k<m
  · have hxr:=hx.grown R.out.only (hap (by omega));obtain ⟨b1,o1,y,rfl,hyb,hye,hyc⟩:=hxr.at_ hkm;obtain ⟨zz,hzz,hcell,hfroz,hstep⟩:=R.out.at_ hn hkm;have hsc:=Rq z y f hz1 hyb hf;obtain ⟨hp1,hp2,hp3⟩:=GY _ _ hyb hf;have HP:=Lib.hid hp3;have HY:=Lib.hid hye;have HS:=Ac hstep;have HSC:=Ac hsc;clear hye hstep hp3 hxr hsc;by_cases hlt:zz<(z+y*f)%4294967296
    · have h1:(zz:Int)<((z:Int)+(y:Int)*(f:Int))%4294967296:=(by have:=HP.out;omega);go_wp2_with fail;have es:((zz:Int)-((z:Int)+(y:Int)*(f:Int)))%4294967296=((zz+4294967296-(z+y*f)%4294967296:Nat):Int):=(by have:=HP.out;omega);have ec:((z:Int)+(y:Int)*(f:Int))/4294967296+1=(((z+y*f)/4294967296+1:Nat):Int):=(by have:=HP.out;omega);rw[es,ec];clear es ec;go_roundw
      case rel=>exact ⟨k+1,_,by omega,by have:=HSC.out;omega,by go_num,rfl,HS.out _ _ (by omega) (by have e:=HY.out;unfold limb;rw[<-e];omega)⟩
      case measure=>simp[intOf];omega
    · have h1:¬(zz:Int)<((z:Int)+(y:Int)*(f:Int))%4294967296:=(by have:=HP.out;omega);go_wp2_with fail;have es:(zz:Int)-((z:Int)+(y:Int)*(f:Int))%4294967296=((zz-(z+y*f)%4294967296:Nat):Int):=(by have:=HP.out;omega);have ec:((z:Int)+(y:Int)*(f:Int))/4294967296=(((z+y*f)/4294967296:Nat):Int):=(by have:=HP.out;omega);rw[es,ec];clear es ec;go_roundw
      case rel=>exact ⟨k+1,_,by omega,by have:=HSC.out;omega,by go_num,rfl,HS.out _ _ (by omega) (by have e:=HY.out;unfold limb;rw[<-e];omega)⟩
      case measure=>simp[intOf];omega
  · obtain rfl:k=m:=(by omega);clear hkm;go_wp2_with fail;go_ret
    obtain ⟨cur,hl,ho,hr,hon,hv⟩:=R.out;exact ⟨cur,z,rfl,hz1,hl,ho,hr,hon,by show _=_;rw[<-Az xs k (by rw[hx.len];omega)];exact hv⟩
def J2 (g m f:Nat) (zs:List Nat) (w:World) (k z:Nat) (wr:World):Prop:=
 ∃cur:List Nat,cur.length=m/\Limb.Ok cur/\Row wr g (put zs 0 cur)/\AA g w wr/\(∀i,i<k->limb cur i=limb zs i)/\z<f/\Limb.val ((win zs 0 m).drop k)=f*Limb.val (cur.drop k)+z
theorem J2.start (g m f:Nat) (zs:List Nat) (w:World) (hz:Limb.Ok zs) (hr:Row w g zs) (hn:m<=zs.length) (hf:0<f):J2 g m f zs w m 0 w:=by
 refine ⟨win zs 0 m,win_length zs 0 m (by omega),H9 hz 0 m,by unfold win;rw[FL zs 0 m (by omega)];exact hr,AA.refl g w,fun i hi=>?_,hf,?_⟩
 · unfold limb win;rw[List.drop_zero,List.getD_eq_getElem?_getD,List.getD_eq_getElem?_getD,List.getElem?_take_of_lt hi]
 · rw[List.drop_of_length_le (by rw[win_length zs 0 m (by omega)];exact Nat.le_refl _)];simp[Limb.val]
theorem Rr (zs:List Nat) (m i:Nat) (hi:i<m):limb (win zs 0 m) i=limb zs i:=by unfold limb win;rw[List.drop_zero,List.getD_eq_getElem?_getD,List.getD_eq_getElem?_getD,List.getElem?_take_of_lt hi]
theorem DV (xs:List Nat) (j:Nat) (h:j<xs.length):Limb.val (xs.drop j)=limb xs j+4294967296*Limb.val (xs.drop (j+1)):=by rw[List.drop_eq_getElem_cons h];unfold limb;rw[List.getD_eq_getElem?_getD,List.getElem?_eq_getElem h];rfl
theorem Gz (xs:List Nat) (j v:Nat):(xs.set j v).drop (j+1)=xs.drop (j+1):=by rw[List.drop_set];rw[if_pos (by omega)]
theorem UI (f z x V Q q t:Nat) (h:V=f*Q+z) (h2:f*q+t=z*4294967296+x):x+4294967296*V=f*(q+4294967296*Q)+t:=by subst h;rw[Nat.mul_add,Nat.mul_add,Nat.mul_left_comm f 4294967296 Q];omega
theorem J2.at_ {g m f:Nat} {zs:List Nat} {w:World} {k z:Nat} {wr:World} (h:J2 g m f zs w (k+1) z wr) (hn:m<=zs.length) (hk:k<m) (hok:Limb.Ok zs) :
   ∃x:Nat,x<4294967296/\wr.cell? ⟨g,k,none⟩=some (.int .u32 (x:Int))/\wr.frozen? ⟨g,k,none⟩=false/\z<f /\
     ∀q t:Nat,q<4294967296->t<f->f*q+t=z*4294967296+x->J2 g m f zs w k t (wr.setCell ⟨g,k,none⟩ (.int .u32 (q:Int))):=by
 obtain ⟨cur,hl,ho,hr,hon,he,hzf,hv⟩:=h;have hfit:0+cur.length<=zs.length:=by omega
 have hwl:=win_length zs 0 m (by omega);refine ⟨cur.getD k 0,ho.getD k,?_,hr.frozen _,hzf,fun q t hq ht hqt=>?_⟩
 · have:=hr.cell (i:=k) (by rw[AM _ _ _ hfit];omega);have e2:=FK zs 0 cur hfit k (by omega);rw[Nat.zero_add]at e2;rw[this,e2]
 · refine ⟨cur.set k q,by simp[hl],ho.set k q hq,?_,hon.setCell _ _,fun i hi=>?_,ht,?_⟩
   · have e2:=GX zs 0 cur hfit k q (by omega);rw[Nat.zero_add]at e2;rw[<-e2];exact hr.set_ _ _
   · rw[<-he i (by omega)];unfold limb;rw[List.getD_eq_getElem?_getD,List.getElem?_set_ne (by omega),<-List.getD_eq_getElem?_getD]
   · rw[DV (win zs 0 m) k (by omega),Rr zs m k hk,<-he k (by omega),DV (cur.set k q) k (by simp;omega),Gz];have e3:limb (cur.set k q) k=q:=by
      unfold limb;rw[List.getD_eq_getElem?_getD,List.getElem?_set_self (by omega)];rfl
     rw[e3];exact UI f z _ _ _ q t hv hqt
def UJ (g m f:Nat) (zs:List Nat) (w:World) (e:Ending) (w':World):Prop:=
 e=.returned (.int .u32 ((Limb.val (win zs 0 m)%f:Nat):Int))/\Row w' g (put zs 0 (Limb.fixed m (Limb.val (win zs 0 m)/f)))/\AA g w w'
theorem LM (g m c f:Nat) (zs:List Nat) (w:World) (hr:Row w g zs) (hz:Limb.Ok zs) (hn:m<=zs.length) (hc:m<=4611686018427387904) (hf0:0<f) (hf:f<4294967296) :
  Calls Tryz.prog 196 #[.slice (some ⟨g,0,none⟩) m c,.int .u32 (f:Int)] w (UJ g m f zs w):=by
 have R:=Ac (J2.start g m f zs w hz hr hn hf0);clear hr;go_enter Tryz.func196,Tryz.ntmps196;go_wp2_with fail;go_loopw [5,6] (fun c i wr=>∃k z:Nat,k<=m/\z<f/\i=.int .i64 ((k:Int)-1)/\c=.int .u64 (z:Int)/\Hid (J2 g m f zs w k z wr)) (fun _ i _=>((intOf i)+1).toNat)
 case atStart=>exact ⟨m,0,Nat.le_refl _,hf0,rfl,rfl,R.out⟩
 case round=>
  clear R;obtain ⟨k,z,hk,hzf,rfl,rfl,R⟩:=hrel;rcases Nat.eq_zero_or_pos k with hk0|hk0
  · subst hk0;go_wp2_with fail;go_ret
    obtain ⟨cur,hl,ho,hr,hon,_,_,hv⟩:=R.out;rw[List.drop_zero,List.drop_zero]at hv;have e1:Limb.val (win zs 0 m)%f=z:=(by rw[hv,Nat.mul_add_mod,Nat.mod_eq_of_lt hzf]);have e2:Limb.val (win zs 0 m)/f=Limb.val cur:=(by rw[hv,Nat.mul_add_div hf0,Nat.div_eq_of_lt hzf];omega);have e3:cur=Limb.fixed m (Limb.val (win zs 0 m)/f):=Limb.eq_fixed m _ 0 ho hl (by rw[e2];simp);exact ⟨by rw[e1];rfl,by rw[<-e3];exact hr,hon⟩
  · obtain ⟨j,rfl⟩:∃j,k=j+1:=⟨k-1,by omega⟩;have e1:(((j+1:Nat):Int)-1)=(j:Int):=(by omega);rw[e1];clear e1;obtain ⟨x,hxl,hcell,hfroz,_,hstep⟩:=R.out.at_ hn (by omega) hz;have HS:=Ac hstep;have hj:=LL x z hxl (by omega);have hdm:=Nat.div_add_mod (z*4294967296+x) f;have HDM:=Lib.hid hdm;have hml:=Nat.mod_lt (z*4294967296+x) hf0;have hdl:(z*4294967296+x)/f<4294967296:=by
     rw[Nat.div_lt_iff_lt_mul hf0];have:=Nat.mul_le_mul_left 4294967296 (show z+1<=f from hzf);omega
    have hdi:((z:Int)*4294967296+(x:Int))/(f:Int)=(((z*4294967296+x)/f:Nat):Int):=(by rw[Int.natCast_ediv,Int.natCast_add,Int.natCast_mul];rfl);have hmi:((z:Int)*4294967296+(x:Int))%(f:Int)=(((z*4294967296+x)%f:Nat):Int):=(by rw[Int.natCast_emod,Int.natCast_add,Int.natCast_mul];rfl);generalize (z*4294967296+x)/f=q at *;generalize (z*4294967296+x)%f=t at *;clear hstep hdm;go_wp2_with fail;go_roundw
    case rel=>exact ⟨j,t,by omega,hml,by go_num,by rw[hmi],HS.out q t hdl hml HDM.out⟩
    case measure=>simp[intOf]<;>omega
end
section
open Go.RowKit
open Limb (limb AQ upto upto_succ Az AC)
theorem VZ (R b R3 b2 p q low lowb:Nat) (hR:R=R3*p+low) (hlow:low<p) (hb:b=b2*p+lowb) (hbpos:0<b) (hlt:R<4294967296*b) (hq3:∀t,t<4294967296->t*b2<=R3->t<=q):R/b<=q:=by
 refine hq3 _ ((Nat.div_lt_iff_lt_mul hbpos).2 hlt) ?_;have h1:=Nat.div_mul_le_self R b;generalize R/b=t at *;rw[hb,Nat.mul_add,<-Nat.mul_assoc]at h1;have h2:t*b2*p<(R3+1)*p:=by rw[Nat.add_mul];omega
 have h3:=Nat.lt_of_mul_lt_mul_right h2;omega
theorem Wa (R b R3 b2 p q low lowb:Nat) (hR:R=R3*p+low) (hb:b=b2*p+lowb) (hlowb:lowb<p) (hbpos:0<b) (hbig:4294967296<=b2) (hq1:q<4294967296) (hq2:q*b2<=R3):q<=R/b+1:=by
 have h1:q*b<R+b:=by
  have e1:q*b=q*b2*p+q*lowb:=by rw[hb,Nat.mul_add,<-Nat.mul_assoc]
  have e2:q*b2*p<=R3*p:=Nat.mul_le_mul_right p hq2;have e4:4294967296*p<=b2*p:=Nat.mul_le_mul_right p hbig;have e6:q*lowb<4294967296*p:=by have e7:q*lowb<=4294967295*lowb:=Nat.mul_le_mul_right lowb (by omega);omega
  omega
 have h2:q<R/b+2:=by
  have h3:=Nat.lt_div_mul_add (a:=R) hbpos;have h4:q*b<(R/b+2)*b:=by rw[Nat.add_mul];omega
  exact Nat.lt_of_mul_lt_mul_right h4
 omega
theorem NO (R b r0 r1 r2 b0 b1 p q low lowb:Nat) (hR:R=((r2*4294967296+r1)*4294967296+r0)*p+low) (hlow:low<p) (hb:b=(b1*4294967296+b0)*p+lowb) (hlowb:lowb<p)
  (hb1:2147483648<=b1) (hlt:R<4294967296*b) (hq:He r0 r1 r2 b0 b1 q):R/b<=q/\q<=R/b+1:=by
 obtain ⟨hq1,hq2,hq3⟩:=hq;have hbig:4294967296<=b1*4294967296+b0:=by omega
 have hbpos:0<b:=by
  rcases Nat.eq_zero_or_pos b with h|h
  · subst h;omega
  · exact h
 exact ⟨VZ R b _ _ p q low lowb hR hlow hb hbpos hlt hq3,Wa R b _ _ p q low lowb hR hb hlowb hbpos hbig hq1 hq2⟩
theorem MD (zs:List Nat) (o:Nat) (ws:List Nat) (v:Nat) (h:o+ws.length<zs.length):(put zs o ws).set (o+ws.length) v=put zs o (ws++[v]):=by
 unfold put;have hl:(zs.take o).length=o:=by rw[List.length_take];omega
 rw[List.set_append_right _ _ (by omega),hl,List.set_append_right _ _ (by omega)];have e:o+ws.length-o-ws.length=0:=by omega
 rw[e,List.drop_eq_getElem_cons h,List.set_cons_zero,List.length_append];simp[Nat.add_assoc]
theorem PO (k m:Nat) (h:m<4294967296^k):Limb.fixed k m++[0]=Limb.fixed (k+1) m:=by refine Limb.eq_of_val ((Limb.fixed_ok _ _).append (Limb.Ok.cons (by omega) Limb.Ok.nil)) (Limb.fixed_ok _ _) (by rw[List.length_append,Limb.fixed_length,Limb.fixed_length];rfl) ?_;rw[Limb.val_append,Limb.fixed_val,Limb.fixed_val,Nat.mod_eq_of_lt h,Nat.mod_eq_of_lt (Nat.lt_of_lt_of_le h (Limb.pow_mono (by omega)))];simp[Limb.val]
theorem Vx (xs:List Nat) (j:Nat):upto xs (j+3)=((limb xs (j+2)*4294967296+limb xs (j+1))*4294967296+limb xs j)*4294967296^j+upto xs j:=by
 have p1:4294967296^(j+1)=4294967296^j*4294967296:=Nat.pow_succ ..;have p2:4294967296^(j+2)=4294967296^j*4294967296*4294967296:=by rw[Nat.pow_succ,p1]
 rw[upto_succ,upto_succ,upto_succ,p1,p2];generalize 4294967296^j=p;rw[Nat.add_mul,Nat.add_mul,Nat.mul_assoc p,Nat.mul_assoc p,Nat.mul_assoc p];have e1:p*(4294967296*4294967296*limb xs (j+2))=(limb xs (j+2)*4294967296*4294967296)*p:=by rw[Nat.mul_comm p,Nat.mul_comm (4294967296*4294967296),<-Nat.mul_assoc]
 have e2:p*(4294967296*limb xs (j+1))=(limb xs (j+1)*4294967296)*p:=by rw[Nat.mul_comm p,Nat.mul_comm 4294967296]
 have e3:p*limb xs j=limb xs j*p:=Nat.mul_comm _ _;rw[e1,e2,e3,Nat.add_mul];omega
theorem Vy (xs:List Nat) (j:Nat):upto xs (j+2)=(limb xs (j+1)*4294967296+limb xs j)*4294967296^j+upto xs j:=by
 rw[upto_succ,upto_succ,Nat.pow_succ];generalize 4294967296^j=p;have e2:p*4294967296*limb xs (j+1)=(limb xs (j+1)*4294967296)*p:=by rw[Nat.mul_assoc,Nat.mul_comm p,Nat.mul_comm 4294967296]
 have e3:p*limb xs j=limb xs j*p:=Nat.mul_comm _ _;rw[e2,e3,Nat.add_mul];omega
theorem Ep (zs:List Nat) (o m i:Nat) (hi:i<m):limb (win zs o m) i=limb zs (o+i):=by unfold limb win;rw[List.getD_eq_getElem?_getD,List.getD_eq_getElem?_getD,List.getElem?_take_of_lt hi,List.getElem?_drop]
theorem Rs (zs:List Nat) (o m k:Nat) (h:k<=m):(win zs o m).take k=win zs o k:=by unfold win;rw[List.take_take,Nat.min_eq_left h]
structure Rt (zs ys:List Nat) (o j q:Nat):Prop where
 lo:Limb.val (win zs o (j+3))/Limb.val ys<=q
 hi:q<=Limb.val (win zs o (j+3))/Limb.val ys+1
theorem Ru (zs ys:List Nat) (o j q:Nat) (hz:Limb.Ok zs) (hy:Limb.Ok ys) (hn:o+(j+3)<=zs.length) (hl:ys.length=j+2) (htop:2147483648<=limb ys (j+1)) (hlt:Limb.val (win zs o (j+3))<4294967296*Limb.val ys)
  (hq:He (limb zs (o+j)) (limb zs (o+j+1)) (limb zs (o+j+2)) (limb ys j) (limb ys (j+1)) q):Rt zs ys o j q:=by
 have eR:Limb.val (win zs o (j+3))=_:=(Az (win zs o (j+3)) (j+3) (by rw[win_length zs o (j+3) hn];exact Nat.le_refl _)).symm.trans (Vx _ j);have eb:Limb.val ys=_:=(Az ys (j+2) (by omega)).symm.trans (Vy _ j);rw[Ep zs o (j+3) _ (by omega),Ep zs o (j+3) _ (by omega),Ep zs o (j+3) _ (by omega)]at eR;have h:=NO _ _ _ _ _ _ _ _ q _ _ eR (E8 _ (H9 hz _ _) j) eb (E8 _ hy j) htop hlt hq;exact ⟨h.1,h.2⟩
theorem Ts (zs ys:List Nat) (o j:Nat) (hz:Limb.Ok zs) (hy:Limb.Ok ys) (hn:o+(j+3)<=zs.length) (hl:ys.length=j+2) (hlt:Limb.val (win zs o (j+3))<4294967296*Limb.val ys):limb zs (o+(j+2))<=limb ys (j+1):=by
 have e1:Limb.val (win zs o (j+3))=upto (win zs o (j+3)) (j+2)+4294967296^(j+2)*limb (win zs o (j+3)) (j+2):=by rw[<-upto_succ,Az _ _ (by rw[win_length zs o (j+3) hn];exact Nat.le_refl _)]
 have e2:Limb.val ys=upto ys (j+1)+4294967296^(j+1)*limb ys (j+1):=by rw[<-upto_succ,Az _ _ (by omega)]
 have h1:=E8 ys hy (j+1);rw[Ep zs o (j+3) _ (by omega)]at e1;rw[Nat.pow_succ]at e1;generalize limb zs (o+(j+2))=x at *;generalize limb ys (j+1)=y at *;generalize 4294967296^(j+1)=p at *;have h2:p*x<p*(y+1):=by rw[Nat.mul_assoc]at e1;rw[Nat.mul_add,Nat.mul_one];have e3:p*(4294967296*x)=4294967296*(p*x):=Nat.mul_left_comm _ _ _;omega
 have:=Nat.lt_of_mul_lt_mul_left h2;omega
theorem PP (R b q cur cy r2 W p:Nat) (hb:0<b) (hbp:b<p) (hR:R=W+p*r2) (hc:cur+b*q=W+p*cy) (hcur:cur<p) (lo:R/b<=q) (hi:q<=R/b+1) (h:r2<cy):1<=q/\q-1=R/b/\(cur+b)%p=R%b:=by
 have hdm:=Nat.div_add_mod R b;have hml:=Nat.mod_lt R hb;have h3:p*(r2+1)<=p*cy:=Nat.mul_le_mul_left p h;rw[Nat.mul_add,Nat.mul_one]at h3;generalize R/b=t at *;generalize R%b=m at *;have hq:q=t+1:=by
  rcases Nat.lt_or_ge q (t+1) with h4|h4
  · have h5:q=t:=(by omega);subst h5;omega
  · omega
 subst hq;refine ⟨by omega,by omega,?_⟩;rw[Nat.mul_add,Nat.mul_one]at hc;have e:cur+b=m+p*(cy-r2):=by rw[Nat.mul_sub];omega
 rw[e,Nat.add_mul_mod_self_left,Nat.mod_eq_of_lt (by omega)]
theorem PQ (R b q cur cy r2 W p:Nat) (hb:0<b) (hbp:b<p) (hR:R=W+p*r2) (hc:cur+b*q=W+p*cy) (lo:R/b<=q) (hi:q<=R/b+1) (h:cy<=r2):q=R/b/\cur=R%b:=by
 have hdm:=Nat.div_add_mod R b;have hml:=Nat.mod_lt R hb;have h3:p*cy<=p*r2:=Nat.mul_le_mul_left p h;generalize R/b=t at *;generalize R%b=m at *;have hq:q=t:=by
   rcases Nat.lt_or_ge t q with h4|h4
   · have h5:q=t+1:=(by omega);subst h5;rw[Nat.mul_add,Nat.mul_one]at hc;omega
   · omega
 subst hq;refine ⟨rfl,?_⟩;rcases Nat.lt_or_ge cy r2 with h4|h4
 · have h5:p*(cy+1)<=p*r2:=Nat.mul_le_mul_left p h4;rw[Nat.mul_add,Nat.mul_one]at h5;omega
 · have h6:cy=r2:=(by omega);subst h6;omega
theorem NP (zs:List Nat) (o:Nat) (cur:List Nat) (n:Nat) (hl:cur.length=n) (ho:o<=zs.length):win (put zs o cur) o n=cur:=by
 have h1:(zs.take o).length=o:=by rw[List.length_take];omega
 unfold win put;rw[List.drop_append_of_le_length (by omega),List.drop_of_length_le (by omega),List.nil_append,List.take_append_of_le_length (by omega),List.take_of_length_le (by omega)]
theorem NQ (zs:List Nat) (o:Nat) (us ws:List Nat) (hl:us.length=ws.length) (ho:o<=zs.length):put (put zs o us) o ws=put zs o ws:=by
 have h1:(zs.take o).length=o:=by rw[List.length_take];omega
 unfold put;rw[List.take_append_of_le_length (by omega),List.take_of_length_le (by omega),List.drop_append,List.drop_of_length_le (by omega),List.nil_append,h1,List.drop_append,List.drop_of_length_le (by omega),List.nil_append,List.drop_drop];congr 3
 omega
theorem NR (zs:List Nat) (o:Nat) (cur:List Nat) (k:Nat) (hl:cur.length=k) (ho:o<=zs.length):(put zs o cur).getD (o+k) 0=limb zs (o+k):=by
 have h1:(zs.take o).length=o:=by rw[List.length_take];omega
 unfold put limb;rw[List.getD_eq_getElem?_getD,List.getElem?_append_right (by omega),h1,List.getElem?_append_right (by omega),List.getElem?_drop,List.getD_eq_getElem?_getD];congr 2
 omega
theorem Tt (ys:List Nat) (j:Nat) (h:1<=limb ys j):0<Limb.val ys:=by have h1:=Limb.limb_le ys j;have h3:=Nat.mul_le_mul_left (4294967296^j) h;have h4:0<4294967296^j:=Nat.pow_pos (by omega);rw[Nat.mul_one]at h3;exact Nat.lt_of_lt_of_le h4 (Nat.le_trans h3 h1)
theorem PR (zs:List Nat) (o k:Nat) (hn:o+(k+1)<=zs.length):Limb.val (win zs o (k+1))=Limb.val (win zs o k)+4294967296^k*limb zs (o+k):=by have h1:=upto_succ (win zs o (k+1)) k;rw[Az _ _ (by rw[win_length zs o (k+1) hn];exact Nat.le_refl _),Ep zs o (k+1) _ (by omega)]at h1;rw[h1];unfold upto;rw[Rs zs o (k+1) k (by omega)]
structure Tu (zs ys cur:List Nat) (o k q cy:Nat):Prop where
 over:limb zs (o+k)<cy->1<=q/\q-1=Limb.val (win zs o (k+1))/Limb.val ys/\Limb.fixed k (Limb.val cur+Limb.val ys)=Limb.fixed k (Limb.val (win zs o (k+1))%Limb.val ys)
 even:cy<=limb zs (o+k)->q=Limb.val (win zs o (k+1))/Limb.val ys/\cur=Limb.fixed k (Limb.val (win zs o (k+1))%Limb.val ys)
 fin:(put zs o (Limb.fixed k (Limb.val (win zs o (k+1))%Limb.val ys))).set (o+k) 0=put zs o (Limb.fixed (k+1) (Limb.val (win zs o (k+1))%Limb.val ys))
theorem Tv (zs ys cur:List Nat) (o k q cy:Nat) (hn:o+(k+1)<=zs.length) (hy:Limb.Ok ys) (hl:ys.length=k) (hb0:0<Limb.val ys) (hcl:cur.length=k) (hcok:Limb.Ok cur)
   (hE:Limb.val cur+Limb.val ys*q=Limb.val (win zs o k)+4294967296^k*cy) (lo:Limb.val (win zs o (k+1))/Limb.val ys<=q) (hi:q<=Limb.val (win zs o (k+1))/Limb.val ys+1):Tu zs ys cur o k q cy:=by
 have hbp:Limb.val ys<4294967296^k:=by have:=Limb.val_lt ys hy;rwa [hl]at this
 have hcp:Limb.val cur<4294967296^k:=by have:=Limb.val_lt cur hcok;rwa [hcl]at this
 have hR:=PR zs o k hn;have hml:=Nat.lt_trans (Nat.mod_lt (Limb.val (win zs o (k+1))) hb0) hbp;refine ⟨fun h=>?_,fun h=>?_,?_⟩
 · obtain ⟨h1,h2,h3⟩:=PP _ _ q _ cy _ _ _ hb0 hbp hR hE hcp lo hi h;refine ⟨h1,h2,?_⟩;refine Limb.eq_of_val (Limb.fixed_ok _ _) (Limb.fixed_ok _ _) (by rw[Limb.fixed_length,Limb.fixed_length]) ?_;rw[Limb.fixed_val,Limb.fixed_val,h3];exact (Nat.mod_eq_of_lt hml).symm
 · obtain ⟨h1,h2⟩:=PQ _ _ q _ cy _ _ _ hb0 hbp hR hE lo hi h;exact ⟨h1,Limb.eq_fixed k _ 0 hcok hcl (by rw[<-h2];simp)⟩
 · have h1:=MD zs o (Limb.fixed k (Limb.val (win zs o (k+1))%Limb.val ys)) 0 (by rw[Limb.fixed_length];omega);rw[Limb.fixed_length,PO k _ hml]at h1;exact h1
def Rv (g o j:Nat) (zs ys:List Nat) (w:World) (e:Ending) (w':World):Prop:=
 e=.returned (.int .u32 ((Limb.val (win zs o (j+3))/Limb.val ys:Nat):Int))/\Row w' g (put zs o (Limb.fixed (j+3) (Limb.val (win zs o (j+3))%Limb.val ys)))/\AA g w w'
theorem LO (g o c j:Nat) (zs:List Nat) (B:Option Addr) (d:Nat) (ys:List Nat) (w:World) (hr:Row w g zs) (hz:Limb.Ok zs) (hn:o+(j+3)<=zs.length) (hj:j<=1099511627776) (hcc:j+3<=c)
   (hy:Av w B (j+2) ys) (hd:j+2<=d) (hap:Apart B g) (htop:2147483648<=limb ys (j+1)) (hlt:Limb.val (win zs o (j+3))<4294967296*Limb.val ys) :
   Calls Tryz.prog 214 #[.slice (some ⟨g,o,none⟩) (j+3) c,.slice B (j+2) d] w (Rv g o j zs ys w):=by
 obtain ⟨g2,o2,b0,rfl,hb0l,hb0e,hb0⟩:=hy.at_ (i:=j) (by omega);obtain ⟨g3,o3,b1,hbb,hb1l,hb1e,hb1⟩:=hy.at_ (i:=j+1) (by omega);injection hbb with hbb
 injection hbb with h1 h2
 subst h1;subst h2;have c0:=hr.cell (i:=o+j) (by omega);have c1:=hr.cell (i:=o+j+1) (by omega);have c2:=hr.cell (i:=o+j+2) (by omega);have k0:=hz.getD (o+j);have k1:=hz.getD (o+j+1);have k2:=hz.getD (o+j+2);have hw:IntKind.i64.wrap (j:Int)=(j:Int):=IntWalk.i64_in _ (by omega);have f1:(c=j)=False:=by simp;omega
 have f2:(d=j)=False:=by simp;omega
 have e3:j+3-j=3:=by omega
 have e2:j+2-j=2:=by omega
 have hr2:=Ts zs ys o j hz hy.ok hn hy.len hlt;have hyl:=hy.len;have HYL:=Lib.hid hyl;clear hyl;have HTN:=Ac (fun q hq=>Ru zs ys o j q hz hy.ok hn HYL.out htop hlt hq);have HTOP:=Ac htop;have HLT:=Ac hlt;have hone:AA g w w.drew:=(AA.refl g w).drew;clear htop hlt;have hb1n:2147483648<=b1:=by have e:=hb1e;have:=HTOP.out;unfold limb at this;omega
 have hr2':zs.getD (o+j+2) 0<=b1:=by rw[hb1e];exact hr2
 have HB0:=Lib.hid hb0e;have HB1:=Lib.hid hb1e;clear hb0e hb1e hr2;go_enter Tryz.func214,Tryz.ntmps214;go_wp2_with fail;have gg1:(j:Int)<=(j:Int)+3:=by omega
 have gg2:(j:Int)<=(j:Int)+2:=by omega
 go_region_with (first|(go_at_call 226;refine (J0 g (o+j) _ g2 (o2+j) _ _ _ _ b0 b1 w.drew c0 c1 c2 hb0 hb1 k0 k1 k2 hb0l hb1l hb1n hr2').mono ?_;rintro e w' ⟨q,rfl,hq,HG,k,rfl⟩))
 have hcw:=hone.trans (AA.refl g w.drew);have HT:=Ac (HTN.out q (by have e0:=HB0.out;have e1:=HB1.out;unfold limb;rw[<-e0,<-e1];exact HG.out));have hyw:Av (w.drewN (1+k)) (some ⟨g2,o2,none⟩) (j+2) ys:=hy.drewN (1+k);have hrw:Row (w.drewN (1+k)) g zs:=hr.drewN (1+k);have hoo:AA g w (w.drewN (1+k)):=(AA.refl g w).drewN (1+k);clear HTN HG hb0 hb1 c0 c1 c2 k0 k1 k2 hr hy hone hcw hw e3 e2 f1 f2 gg1 gg2;go_wp2_with fail;generalize w.drewN (1+k)=W at *
 refine (J1 g o (j+2) c q zs (some ⟨g2,o2,none⟩) d ys _ hrw hz (by omega) (by omega) (by omega) hyw (fun _=>hap) hq).mono ?_;rintro e w2 ⟨cur,cy,rfl,hcy,hcl,hcok,hr2w,ho2w,HE⟩;have HCL:=Lib.hid hcl;have hfit:o+cur.length<=zs.length:=by omega
 clear hcl;have hrn:w2.cell? ⟨g,o+(j+2),none⟩=some (.int .u32 ((limb zs (o+(j+2)):Nat):Int)):=by rw[hr2w.cell (i:=o+(j+2)) (by rw[AM _ _ _ hfit];omega),NR zs o cur (j+2) HCL.out (by omega)]
 have hfn:=hr2w.frozen (o+(j+2));have HE2:=Ac (Tv zs ys cur o (j+2) q cy hn hyw.ok HYL.out (Tt ys (j+1) (by have:=HTOP.out;omega)) HCL.out hcok (by rw[<-HE.out]) HT.out.lo HT.out.hi);have hl2:limb zs (o+(j+2))<4294967296:=hz.getD _;clear HE HT hrw HTOP HLT HB0 HB1;by_cases hover:limb zs (o+(j+2))<cy
 · have h1:((limb zs (o+(j+2)):Nat):Int)<(cy:Int):=(by omega);have HOV:=Ac (HE2.out.over hover);have hq1:=HOV.out.1;go_wp2_with fail;refine (Ds g o (j+2) c (put zs o cur) (some ⟨g2,o2,none⟩) (j+2) d ys w2 hr2w (DD hz o hcok) (by rw[AM _ _ _ hfit];omega) (by omega) (hyw.grown ho2w hap) (Nat.le_refl _) (fun _=>hap)).mono ?_;rintro e w3 ⟨rfl,hr3,ho3⟩;rw[NP zs o cur (j+2) HCL.out (by omega),HOV.out.2.2,NQ zs o cur _ (by rw[HCL.out,Limb.fixed_length]) (by omega)]at hr3
   have hf3:=hr3.frozen (o+(j+2));have hc3:=hr3.cell (i:=o+(j+2)) (by rw[AM _ _ _ (by rw[Limb.fixed_length];omega)];omega);go_wp2_with fail;go_ret
   refine ⟨?_,?_,((hoo.trans ho2w).trans ho3).setCell _ _⟩
   · have e2:((q:Int)-1)=((Limb.val (win zs o (j+3))/Limb.val ys:Nat):Int):=by
      have h6:q-1=Limb.val (win zs o (j+3))/Limb.val ys:=HOV.out.2.1;rw[<-h6];omega
     rw[<-e2];rfl
   · have h5:=hr3.set_ (o+(j+2)) 0;rw[HE2.out.fin]at h5;exact h5
 · have h1:¬((limb zs (o+(j+2)):Nat):Int)<(cy:Int):=(by omega);have HEV:=Ac (HE2.out.even (by omega));go_wp2_with fail;go_ret
   refine ⟨?_,?_,(hoo.trans ho2w).setCell _ _⟩
   · rw[<-HEV.out.1];rfl
   · have h5:=hr2w.set_ (o+(j+2)) 0;rw[HEV.out.2,HE2.out.fin]at h5;exact h5
end
section
open Go.RowKit
open Limb (limb AQ upto upto_succ Az AC)
theorem ME (zs:List Nat) (o:Nat) (cur:List Nat) (k:Nat) (hl:cur.length=k) (ho:o<=zs.length):limb (put zs o cur) (o+k)=limb zs (o+k):=by
 have h1:(zs.take o).length=o:=by rw[List.length_take];omega
 unfold put limb;rw[List.getD_eq_getElem?_getD,List.getElem?_append_right (by omega),h1,List.getElem?_append_right (by omega),List.getElem?_drop,List.getD_eq_getElem?_getD];congr 2
 omega
def lo (s x:Nat):Nat:=x*2^s%4294967296
def hi (s x:Nat):Nat:=x/2^(32-s)
theorem Fa (s:Nat) (hs:s<=32):2^(32-s)*2^s=4294967296:=by
 rw[<-Nat.pow_add];have e:32-s+s=32:=by omega
 rw[e]
theorem Ux (s x:Nat) (hs:s<=32):x*2^s=lo s x+4294967296*hi s x:=by
 unfold lo hi;have hp:=Fa s hs;have h2:0<2^s:=Nat.pow_pos (by omega);have e1:x*2^s/4294967296=x/2^(32-s):=by rw[<-hp,Nat.mul_comm (2^(32-s))];rw[Nat.mul_comm x,Nat.mul_div_mul_left _ _ h2]
 rw[<-e1];exact (Nat.mod_add_div _ _).symm
theorem Rw (s x:Nat) (hs:s<=32) (hx:x<4294967296):hi s x<2^s:=by unfold hi;rw[Nat.div_lt_iff_lt_mul (Nat.pow_pos (by omega)),Nat.mul_comm,Fa s hs];exact hx
theorem NS (s x:Nat) (hs:s<=32):lo s x%2^s=0:=by
 unfold lo;have e:4294967296=2^s*2^(32-s):=by rw[Nat.mul_comm,Fa s hs]
 rw[e,Nat.mod_mul_right_mod,Nat.mul_mod_left]
theorem MF (s x:Nat):lo s x<4294967296:=Nat.mod_lt _ (by omega)
theorem Hg (s x:Nat) (hx:x<4294967296):hi s x<4294967296:=Nat.lt_of_le_of_lt (Nat.div_le_self _ _) hx
theorem Rx (s x y:Nat) (hs:s<=32) (hy:y<4294967296):bits BinOp.or IntKind.u32 ((lo s x:Nat):Int) ((hi s y:Nat):Int)=((lo s x+hi s y:Nat):Int):=by rw[u32_or_nat _ _ (MF s x) (Hg s y hy),nat_join s _ _ (NS s x hs) (Rw s y hs hy)]
theorem Lh (s x y:Nat) (hs:s<=32) (hy:y<4294967296):lo s x+hi s y<4294967296:=by
 have h1:=u32_or_nat (lo s x) (hi s y) (MF s x) (Hg s y hy);have h2:lo s x ||| hi s y<2^32:=Nat.or_lt_two_pow (MF s x) (Hg s y hy)
 rw[nat_join s _ _ (NS s x hs) (Rw s y hs hy)]at h2;exact h2
theorem NT (s x:Nat):(x:Int)*2^s%4294967296=((lo s x:Nat):Int):=by unfold lo;rw[Int.natCast_emod,Int.natCast_mul,Int.natCast_pow];rfl
theorem UK (s x:Nat):(x:Int)/2^(32-s)=((hi s x:Nat):Int):=by unfold hi;rw[Int.natCast_ediv,Int.natCast_pow];rfl
theorem CX (xs:List Nat) (i v:Nat) (h:i<xs.length):limb (xs.set i v) i=v:=by unfold limb;rw[List.getD_eq_getElem?_getD,List.getElem?_set_self h];rfl
theorem FN (xs:List Nat) (i j v:Nat) (h:i≠j):limb (xs.set i v) j=limb xs j:=by unfold limb;rw[List.getD_eq_getElem?_getD,List.getElem?_set_ne h,<-List.getD_eq_getElem?_getD]
theorem PS (xs:List Nat) (n t:Nat) (ht:t<n):limb (xs.take n) t=limb xs t:=by unfold limb;rw[List.getD_eq_getElem?_getD,List.getD_eq_getElem?_getD,List.getElem?_take_of_lt ht]
theorem El (xs:List Nat) (j:Nat) (h:j<xs.length):Limb.val (xs.drop j)=limb xs j+4294967296*Limb.val (xs.drop (j+1)):=by rw[List.drop_eq_getElem_cons h];unfold limb;rw[List.getD_eq_getElem?_getD,List.getElem?_eq_getElem h];rfl
theorem Hh (xs:List Nat) (j v:Nat):(xs.set j v).drop (j+1)=xs.drop (j+1):=by rw[List.drop_set,if_pos (by omega)]
def EA (g N s:Nat) (old:List Nat) (w:World) (i:Nat) (wr:World):Prop:=
 ∃cur:List Nat,cur.length=N/\Limb.Ok cur/\Row wr g cur/\Below w.heap.size w wr/\w.heap.size<=g/\(∀t,t<=i->limb cur t=limb old t)/\Limb.val (cur.drop (i+1))=2^s*Limb.val (old.drop (i+1))+hi s (limb old i)
theorem Ry (P V L x h l:Nat) (hx:x*P=l+4294967296*h):l+L+4294967296*(P*V+h)=P*(x+4294967296*V)+L:=by rw[Nat.mul_add,Nat.mul_add,Nat.mul_comm P x,hx,Nat.mul_left_comm P 4294967296 V];omega
theorem EA.at_ {g N s:Nat} {old:List Nat} {w:World} {i:Nat} {wr:World} (h:EA g N s old w i wr) (hi:i<N) :
  ∃x:Nat,x<4294967296/\x=limb old i/\wr.cell? ⟨g,i,none⟩=some (.int .u32 (x:Int))/\wr.frozen? ⟨g,i,none⟩=false:=by
 obtain ⟨cur,hl,ho,hr,hb,hg,he,hv⟩:=h;exact ⟨limb cur i,ho.getD i,he i (Nat.le_refl _),hr.cell (i:=i) (by omega),hr.frozen i⟩
theorem EA.at_low {g N s:Nat} {old:List Nat} {w:World} {i t:Nat} {wr:World} (h:EA g N s old w i wr) (hi:i<N) (ht:t<=i) :
  wr.cell? ⟨g,t,none⟩=some (.int .u32 ((limb old t:Nat):Int)):=by
 obtain ⟨cur,hl,ho,hr,hb,hg,he,hv⟩:=h;rw[<-he t ht];exact hr.cell (i:=t) (by omega)
theorem EA.drew {g N s:Nat} {old:List Nat} {w:World} {i:Nat} {wr:World} (h:EA g N s old w i wr):EA g N s old w i wr.drew:=by obtain ⟨cur,hl,ho,hr,hb,hg,he,hv⟩:=h;exact ⟨cur,hl,ho,hr.drew,hb.drew,hg,he,hv⟩
theorem EA.step {g N s:Nat} {old:List Nat} {w:World} {j:Nat} {wr:World} (h:EA g N s old w (j+1) wr) (hj:j+1<N) (hs:s<32) (hN:old.length=N) (hoo:Limb.Ok old) :
   EA g N s old w j (wr.setCell ⟨g,j+1,none⟩ (.int .u32 ((lo s (limb old (j+1))+hi s (limb old j):Nat):Int))):=by
 obtain ⟨cur,hl,ho,hr,hb,hg,he,hv⟩:=h;have hlt:=Lh s (limb old (j+1)) (limb old j) (Nat.le_of_lt hs) (hoo.getD j);refine ⟨cur.set (j+1) (lo s (limb old (j+1))+hi s (limb old j)),by simp[hl],ho.set _ _ hlt,hr.set_ _ _,hb.setCell hg _,hg,fun t ht=>?_,?_⟩
 · rw[FN _ _ _ _ (by omega)];exact he t (by omega)
 · rw[El _ (j+1) (by simp;omega),CX _ _ _ (by omega),Hh,hv,El old (j+1) (by omega)];exact Ry _ _ _ _ _ _ (Ux s _ (Nat.le_of_lt hs))
theorem EA.done {g m l s:Nat} {xs:List Nat} {w:World} {wr:World} (h:EA g (m+l+1) s (put (List.replicate (m+l+1) 0) l xs) w l wr) (hs:s<32) (hx:Limb.Ok xs) (hm:xs.length=m) :
  ∃zs:List Nat,zs.length=m+l+1/\Limb.Ok zs/\Row (wr.setCell ⟨g,l,none⟩ (.int .u32 ((lo s (limb (put (List.replicate (m+l+1) 0) l xs) l):Nat):Int))) g zs/\Limb.val zs=Limb.val xs*2^(32*l+s):=by
 obtain ⟨cur,hl,ho,hr,hb,hg,he,hv⟩:=h;have hfit:l+xs.length<=(List.replicate (m+l+1) 0).length:=by simp;omega
 have hol:(put (List.replicate (m+l+1) 0) l xs).length=m+l+1:=by rw[AM _ _ _ hfit];simp
 generalize hold:put (List.replicate (m+l+1) 0) l xs=old at *;refine ⟨cur.set l (lo s (limb old l)),by simp[hl],ho.set _ _ (MF _ _),hr.set_ _ _,?_⟩;have e1:Limb.val ((cur.set l (lo s (limb old l))).drop l)=2^s*Limb.val (old.drop l):=by rw[El _ l (by simp;omega),CX _ _ _ (by omega),Hh,hv,El old l (by omega)];have:=Ry (2^s) (Limb.val (old.drop (l+1))) 0 (limb old l) (hi s (limb old l)) (lo s (limb old l)) (Ux s _ (Nat.le_of_lt hs));omega
 have e2:old.drop l=xs++[0]:=by
  rw[<-hold];unfold put;rw[List.take_replicate,Nat.min_eq_left (by omega),List.drop_append_of_le_length (by simp),List.drop_of_length_le (by simp),List.nil_append,List.drop_replicate,hm];have:m+l+1-(l+m)=1:=by omega
  rw[this];rfl
 have e3:Limb.val ((cur.set l (lo s (limb old l))).take l)=0:=by
  have h1:∀t,limb ((cur.set l (lo s (limb old l))).take l) t=limb ([]:List Nat) t:=by
   intro t;have h0:limb ([]:List Nat) t=0:=Limb.limb_beyond (Nat.zero_le _);rw[h0];by_cases ht:t<l
   · rw[PS _ _ _ ht,FN _ _ _ _ (by omega),he t (by omega),<-hold];unfold limb put;rw[List.getD_eq_getElem?_getD,List.getElem?_append_left (by simp;omega),List.getElem?_take_of_lt ht,List.getElem?_replicate];split<;>rfl
   · exact Limb.limb_beyond (by rw[List.length_take];omega)
  rw[Limb.val_eq_of_limbs _ _ h1];rfl
 rw[Limb.val_take_drop _ l (by simp;omega),e3,e1,e2,Limb.val_append];have h4:(4294967296:Nat)^l=2^(32*l):=by rw[Nat.pow_mul]
 have h5:Limb.val [0]=0:=rfl;rw[h4,h5,Nat.mul_zero,Nat.add_zero,Nat.pow_add,Nat.zero_add,Nat.mul_comm (Limb.val xs),Nat.mul_assoc]
def PT (m n N:Nat) (w:World) (e:Ending) (w':World):Prop:=
 ∃zs:List Nat,e=.returned (.slice (some ⟨w.heap.size,0,none⟩) n n)/\zs.length=n/\Limb.Ok zs/\Row w' w.heap.size zs/\Limb.val zs=N/\Below w.heap.size w w'
theorem Iu (A:Option Addr) (m c n l s:Nat) (xs:List Nat) (w:World) (hx:Av w A m xs) (hc:m<=c) (hc9:c<=9223372036854775807) (hm:m<=1099511627776) (hn:n=32*l+s) (hs:s<32) (hl:l<=1099511627776) :
  Calls Tryz.prog 213 #[.slice A m c,.int .i64 (n:Int)] w (PT m (m+l+1) (Limb.val xs*2^(32*l+s)) w):=by
 have en:(n:Int)/32=(l:Int):=by omega
 have em:(n:Int)%32=(s:Int):=by omega
 have hn2:n<=35184372088895:=by omega
 have hml:=hx.len;have HML:=Lib.hid hml;have hok:=hx.ok;clear hn hml;have f1:(m+l+1=l)=False:=by simp;omega
 go_enter Tryz.func213,Tryz.ntmps213;go_wp2_with (first
  |(at_make;refine Bl _ rfl _ _ rfl _ (m+l+1) rfl rfl (by omega) (by omega) ?_;intro w1 hr1 hb1 hs1)
  |(with_reducible refine Bw rfl _ _ rfl w.heap.size l _ _ _ _ m c rfl (fun _=>rfl) rfl _ xs hr1 (hx.below hb1) (by omega) (by simp;omega) ?_;intro w2 hr2 ho2))
 have hold:(put (List.replicate (m+l+1) 0) l xs).length=m+l+1:=by rw[AM _ _ _ (by rw[List.length_replicate,HML.out];omega),List.length_replicate]
 have holok:Limb.Ok (put (List.replicate (m+l+1) 0) l xs):=DD (Limb.Ok.replicate _) _ hok;have hb2:Below w.heap.size w w2:=hb1.trans (ho2.below (Nat.le_of_lt hs1) (Nat.le_refl _));have htop:limb (put (List.replicate (m+l+1) 0) l xs) (m+l)=0:=by have h1:=ME (List.replicate (m+l+1) 0) l xs m HML.out (by simp;omega);refine (congrArg (limb _) (Nat.add_comm m l)).trans (h1.trans ?_);unfold limb;rw[List.getD_eq_getElem?_getD,List.getElem?_replicate];split<;>rfl
 have HOL:=Lib.hid hold;have HST:Hid (EA w.heap.size (m+l+1) s (put (List.replicate (m+l+1) 0) l xs) w (m+l) w2):=by
  refine ⟨_,HOL.out,holok,hr2,hb2,Nat.le_refl _,fun _ _=>rfl,?_⟩;rw[List.drop_of_length_le (by rw[HOL.out];exact Nat.le_refl _),htop];have:hi s 0=0:=by unfold hi;simp
  rw[this];simp[Limb.val]
 clear hold htop hr1 hr2 ho2 hb1 hb2 hs1 hx;go_loopw [8] (fun i wr=>∃j:Nat,l<=j/\j<=m+l/\i=.int .i64 (j:Int)/\Hid (EA w.heap.size (m+l+1) s (put (List.replicate (m+l+1) 0) l xs) w j wr)) (fun i _=>(intOf i).toNat)
 case atStart=>exact ⟨m+l,by omega,Nat.le_refl _,by go_num,HST⟩
 case round=>
  clear HST;obtain ⟨k,hk1,hk2,rfl,R⟩:=hrel;by_cases hkl:l<k
  · obtain ⟨j,rfl⟩:∃j,k=j+1:=⟨k-1,by omega⟩;obtain ⟨x,hxl,hxe,hcx,hfx⟩:=R.out.at_ (by omega);have hcy:=R.out.at_low (t:=j) (by omega) (by omega);have HX:=Lib.hid hxe;clear hxe;have hw1:IntKind.i64.wrap (32-(s:Int))=32-(s:Int):=IntWalk.i64_in _ (by omega);have hw2:IntKind.i64.wrap (j:Int)=(j:Int):=IntWalk.i64_in _ (by omega);have hw3:IntKind.i64.wrap ((j:Int)+1)=(j:Int)+1:=IntWalk.i64_in _ (by omega);go_wp2_with fail;go_region
    rw[NT,UK,Rx s x (limb (put (List.replicate (m+l+1) 0) l xs) j) (Nat.le_of_lt hs) (holok.getD j),HX.out];have hstep:=R.out.step (by omega) hs HOL.out holok;rw[Int.natCast_add]at hstep;have HSTEP:=Ac hstep.drew;clear hstep;clear R hcy hcx hfx hw1 hw2 hw3;go_wp2_with fail;go_roundw
    case rel=>exact ⟨j,by omega,by omega,by go_num,HSTEP⟩
    case measure=>simp[intOf]<;>omega
  · obtain rfl:k=l:=(by omega);clear hkl;obtain ⟨x,hxl,hxe,hcx,hfx⟩:=R.out.at_ (by omega);have HX:=Lib.hid hxe;clear hxe;go_wp2_with fail;rw[NT,HX.out];go_ret
    obtain ⟨zs,z1,z2,z3,z4⟩:=R.out.done hs hok HML.out;have hb:Below w.heap.size w wr:=(by obtain ⟨_,_,_,_,hb,_⟩:=R.out;exact hb);exact ⟨zs,rfl,z1,z2,z3,z4,hb.setCell (Nat.le_refl _) _⟩
end
end Go.Proofs.YtmedjkhmadfjlaaGreat
