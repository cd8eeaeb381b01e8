/- Texts of one seat, put together: Take Shift Right. -/
import Derived.Test.YtemfjdedjcjegaaGreatDoorL05
import Derived.BigRegion
import Derived.StillTailTactics
import Derived.Test.YtemfjdedjcjegaaGreatDoorL04
set_option linter.unusedVariables false
set_option linter.unusedSimpArgs false
set_option maxRecDepth 100000
set_option maxHeartbeats 16000000
namespace Go.Proofs.YtemfjdedjcjegaaGreatDoor
section
open Go.RowKit
open Limb (limb AE upto upto_succ Ap Aq)
theorem Us (R b R3 b2 p q low lowb:Nat) (hR:R=R3*p+low) (hlow:low<p) (hb:b=b2*p+lowb) (hbpos:0<b) (hlt:R<4294967296*b) (hq3:∀t,t<4294967296->t*b2<=R3->t<=q):R/b<=q:=by
 refine hq3 _ ((Nat.div_lt_iff_lt_mul hbpos).2 hlt) ?_;have h1:=Nat.div_mul_le_self R b;generalize R/b=t at *;rw[hb,Nat.mul_add,<-Nat.mul_assoc]at h1;have h2:t*b2*p<(R3+1)*p:=by rw[Nat.add_mul];omega
 have h3:=Nat.lt_of_mul_lt_mul_right h2;omega
theorem Ut (R b R3 b2 p q low lowb:Nat) (hR:R=R3*p+low) (hb:b=b2*p+lowb) (hlowb:lowb<p) (hbpos:0<b) (hbig:4294967296<=b2) (hq1:q<4294967296) (hq2:q*b2<=R3):q<=R/b+1:=by
 have h1:q*b<R+b:=by
  have e1:q*b=q*b2*p+q*lowb:=by rw[hb,Nat.mul_add,<-Nat.mul_assoc]
  have e2:q*b2*p<=R3*p:=Nat.mul_le_mul_right p hq2;have e4:4294967296*p<=b2*p:=Nat.mul_le_mul_right p hbig;have e6:q*lowb<4294967296*p:=by have e7:q*lowb<=4294967295*lowb:=Nat.mul_le_mul_right lowb (by omega);omega
  omega
 have h2:q<R/b+2:=by
  have h3:=Nat.lt_div_mul_add (a:=R) hbpos;have h4:q*b<(R/b+2)*b:=by rw[Nat.add_mul];omega
  exact Nat.lt_of_mul_lt_mul_right h4
 omega
theorem MB (R b r0 r1 r2 b0 b1 p q low lowb:Nat) (hR:R=((r2*4294967296+r1)*4294967296+r0)*p+low) (hlow:low<p) (hb:b=(b1*4294967296+b0)*p+lowb) (hlowb:lowb<p)
  (hb1:2147483648<=b1) (hlt:R<4294967296*b) (hq:Ge r0 r1 r2 b0 b1 q):R/b<=q/\q<=R/b+1:=by
 obtain ⟨hq1,hq2,hq3⟩:=hq;have hbig:4294967296<=b1*4294967296+b0:=by omega
 have hbpos:0<b:=by
  rcases Nat.eq_zero_or_pos b with h|h
  · subst h;omega
  · exact h
 exact ⟨Us R b _ _ p q low lowb hR hlow hb hbpos hlt hq3,Ut R b _ _ p q low lowb hR hb hlowb hbpos hbig hq1 hq2⟩
theorem Lw (zs:List Nat) (o:Nat) (ws:List Nat) (v:Nat) (h:o+ws.length<zs.length):(put zs o ws).set (o+ws.length) v=put zs o (ws++[v]):=by
 unfold put;have hl:(zs.take o).length=o:=by rw[List.length_take];omega
 rw[List.set_append_right _ _ (by omega),hl,List.set_append_right _ _ (by omega)];have e:o+ws.length-o-ws.length=0:=by omega
 rw[e,List.drop_eq_getElem_cons h,List.set_cons_zero,List.length_append];simp[Nat.add_assoc]
theorem O8 (k m:Nat) (h:m<4294967296^k):Limb.fixed k m++[0]=Limb.fixed (k+1) m:=by refine Limb.eq_of_val ((Limb.fixed_ok _ _).append (Limb.Ok.cons (by omega) Limb.Ok.nil)) (Limb.fixed_ok _ _) (by rw[List.length_append,Limb.fixed_length,Limb.fixed_length];rfl) ?_;rw[Limb.val_append,Limb.fixed_val,Limb.fixed_val,Nat.mod_eq_of_lt h,Nat.mod_eq_of_lt (Nat.lt_of_lt_of_le h (Limb.pow_mono (by omega)))];simp[Limb.val]
theorem TF (xs:List Nat) (j:Nat):upto xs (j+3)=((limb xs (j+2)*4294967296+limb xs (j+1))*4294967296+limb xs j)*4294967296^j+upto xs j:=by
 have p1:4294967296^(j+1)=4294967296^j*4294967296:=Nat.pow_succ ..;have p2:4294967296^(j+2)=4294967296^j*4294967296*4294967296:=by rw[Nat.pow_succ,p1]
 rw[upto_succ,upto_succ,upto_succ,p1,p2];generalize 4294967296^j=p;rw[Nat.add_mul,Nat.add_mul,Nat.mul_assoc p,Nat.mul_assoc p,Nat.mul_assoc p];have e1:p*(4294967296*4294967296*limb xs (j+2))=(limb xs (j+2)*4294967296*4294967296)*p:=by rw[Nat.mul_comm p,Nat.mul_comm (4294967296*4294967296),<-Nat.mul_assoc]
 have e2:p*(4294967296*limb xs (j+1))=(limb xs (j+1)*4294967296)*p:=by rw[Nat.mul_comm p,Nat.mul_comm 4294967296]
 have e3:p*limb xs j=limb xs j*p:=Nat.mul_comm _ _;rw[e1,e2,e3,Nat.add_mul];omega
theorem TH (xs:List Nat) (j:Nat):upto xs (j+2)=(limb xs (j+1)*4294967296+limb xs j)*4294967296^j+upto xs j:=by
 rw[upto_succ,upto_succ,Nat.pow_succ];generalize 4294967296^j=p;have e2:p*4294967296*limb xs (j+1)=(limb xs (j+1)*4294967296)*p:=by rw[Nat.mul_assoc,Nat.mul_comm p,Nat.mul_comm 4294967296]
 have e3:p*limb xs j=limb xs j*p:=Nat.mul_comm _ _;rw[e2,e3,Nat.add_mul];omega
theorem DF (zs:List Nat) (o m i:Nat) (hi:i<m):limb (win zs o m) i=limb zs (o+i):=by unfold limb win;rw[List.getD_eq_getElem?_getD,List.getD_eq_getElem?_getD,List.getElem?_take_of_lt hi,List.getElem?_drop]
theorem Qf (zs:List Nat) (o m k:Nat) (h:k<=m):(win zs o m).take k=win zs o k:=by unfold win;rw[List.take_take,Nat.min_eq_left h]
structure Qg (zs ys:List Nat) (o j q:Nat):Prop where
 lo:Limb.val (win zs o (j+3))/Limb.val ys<=q
 hi:q<=Limb.val (win zs o (j+3))/Limb.val ys+1
theorem Qh (zs ys:List Nat) (o j q:Nat) (hz:Limb.Ok zs) (hy:Limb.Ok ys) (hn:o+(j+3)<=zs.length) (hl:ys.length=j+2) (htop:2147483648<=limb ys (j+1)) (hlt:Limb.val (win zs o (j+3))<4294967296*Limb.val ys)
  (hq:Ge (limb zs (o+j)) (limb zs (o+j+1)) (limb zs (o+j+2)) (limb ys j) (limb ys (j+1)) q):Qg zs ys o j q:=by
 have eR:Limb.val (win zs o (j+3))=_:=(Ap (win zs o (j+3)) (j+3) (by rw[win_length zs o (j+3) hn];exact Nat.le_refl _)).symm.trans (TF _ j);have eb:Limb.val ys=_:=(Ap ys (j+2) (by omega)).symm.trans (TH _ j);rw[DF zs o (j+3) _ (by omega),DF zs o (j+3) _ (by omega),DF zs o (j+3) _ (by omega)]at eR;have h:=MB _ _ _ _ _ _ _ _ q _ _ eR (Eg _ (GC hz _ _) j) eb (Eg _ hy j) htop hlt hq;exact ⟨h.1,h.2⟩
theorem RA (zs ys:List Nat) (o j:Nat) (hz:Limb.Ok zs) (hy:Limb.Ok ys) (hn:o+(j+3)<=zs.length) (hl:ys.length=j+2) (hlt:Limb.val (win zs o (j+3))<4294967296*Limb.val ys):limb zs (o+(j+2))<=limb ys (j+1):=by
 have e1:Limb.val (win zs o (j+3))=upto (win zs o (j+3)) (j+2)+4294967296^(j+2)*limb (win zs o (j+3)) (j+2):=by rw[<-upto_succ,Ap _ _ (by rw[win_length zs o (j+3) hn];exact Nat.le_refl _)]
 have e2:Limb.val ys=upto ys (j+1)+4294967296^(j+1)*limb ys (j+1):=by rw[<-upto_succ,Ap _ _ (by omega)]
 have h1:=Eg ys hy (j+1);rw[DF zs o (j+3) _ (by omega)]at e1;rw[Nat.pow_succ]at e1;generalize limb zs (o+(j+2))=x at *;generalize limb ys (j+1)=y at *;generalize 4294967296^(j+1)=p at *;have h2:p*x<p*(y+1):=by rw[Nat.mul_assoc]at e1;rw[Nat.mul_add,Nat.mul_one];have e3:p*(4294967296*x)=4294967296*(p*x):=Nat.mul_left_comm _ _ _;omega
 have:=Nat.lt_of_mul_lt_mul_left h2;omega
theorem O9 (R b q cur cy r2 W p:Nat) (hb:0<b) (hbp:b<p) (hR:R=W+p*r2) (hc:cur+b*q=W+p*cy) (hcur:cur<p) (lo:R/b<=q) (hi:q<=R/b+1) (h:r2<cy):1<=q/\q-1=R/b/\(cur+b)%p=R%b:=by
 have hdm:=Nat.div_add_mod R b;have hml:=Nat.mod_lt R hb;have h3:p*(r2+1)<=p*cy:=Nat.mul_le_mul_left p h;rw[Nat.mul_add,Nat.mul_one]at h3;generalize R/b=t at *;generalize R%b=m at *;have hq:q=t+1:=by
  rcases Nat.lt_or_ge q (t+1) with h4|h4
  · have h5:q=t:=(by omega);subst h5;omega
  · omega
 subst hq;refine ⟨by omega,by omega,?_⟩;rw[Nat.mul_add,Nat.mul_one]at hc;have e:cur+b=m+p*(cy-r2):=by rw[Nat.mul_sub];omega
 rw[e,Nat.add_mul_mod_self_left,Nat.mod_eq_of_lt (by omega)]
theorem OA (R b q cur cy r2 W p:Nat) (hb:0<b) (hbp:b<p) (hR:R=W+p*r2) (hc:cur+b*q=W+p*cy) (lo:R/b<=q) (hi:q<=R/b+1) (h:cy<=r2):q=R/b/\cur=R%b:=by
 have hdm:=Nat.div_add_mod R b;have hml:=Nat.mod_lt R hb;have h3:p*cy<=p*r2:=Nat.mul_le_mul_left p h;generalize R/b=t at *;generalize R%b=m at *;have hq:q=t:=by
   rcases Nat.lt_or_ge t q with h4|h4
   · have h5:q=t+1:=(by omega);subst h5;rw[Nat.mul_add,Nat.mul_one]at hc;omega
   · omega
 subst hq;refine ⟨rfl,?_⟩;rcases Nat.lt_or_ge cy r2 with h4|h4
 · have h5:p*(cy+1)<=p*r2:=Nat.mul_le_mul_left p h4;rw[Nat.mul_add,Nat.mul_one]at h5;omega
 · have h6:cy=r2:=(by omega);subst h6;omega
theorem MC (zs:List Nat) (o:Nat) (cur:List Nat) (n:Nat) (hl:cur.length=n) (ho:o<=zs.length):win (put zs o cur) o n=cur:=by
 have h1:(zs.take o).length=o:=by rw[List.length_take];omega
 unfold win put;rw[List.drop_append_of_le_length (by omega),List.drop_of_length_le (by omega),List.nil_append,List.take_append_of_le_length (by omega),List.take_of_length_le (by omega)]
theorem MD (zs:List Nat) (o:Nat) (us ws:List Nat) (hl:us.length=ws.length) (ho:o<=zs.length):put (put zs o us) o ws=put zs o ws:=by
 have h1:(zs.take o).length=o:=by rw[List.length_take];omega
 unfold put;rw[List.take_append_of_le_length (by omega),List.take_of_length_le (by omega),List.drop_append,List.drop_of_length_le (by omega),List.nil_append,h1,List.drop_append,List.drop_of_length_le (by omega),List.nil_append,List.drop_drop];congr 3
 omega
theorem ME (zs:List Nat) (o:Nat) (cur:List Nat) (k:Nat) (hl:cur.length=k) (ho:o<=zs.length):(put zs o cur).getD (o+k) 0=limb zs (o+k):=by
 have h1:(zs.take o).length=o:=by rw[List.length_take];omega
 unfold put limb;rw[List.getD_eq_getElem?_getD,List.getElem?_append_right (by omega),h1,List.getElem?_append_right (by omega),List.getElem?_drop,List.getD_eq_getElem?_getD];congr 2
 omega
theorem RB (ys:List Nat) (j:Nat) (h:1<=limb ys j):0<Limb.val ys:=by have h1:=Limb.limb_le ys j;have h3:=Nat.mul_le_mul_left (4294967296^j) h;have h4:0<4294967296^j:=Nat.pow_pos (by omega);rw[Nat.mul_one]at h3;exact Nat.lt_of_lt_of_le h4 (Nat.le_trans h3 h1)
theorem OC (zs:List Nat) (o k:Nat) (hn:o+(k+1)<=zs.length):Limb.val (win zs o (k+1))=Limb.val (win zs o k)+4294967296^k*limb zs (o+k):=by have h1:=upto_succ (win zs o (k+1)) k;rw[Ap _ _ (by rw[win_length zs o (k+1) hn];exact Nat.le_refl _),DF zs o (k+1) _ (by omega)]at h1;rw[h1];unfold upto;rw[Qf zs o (k+1) k (by omega)]
structure RD (zs ys cur:List Nat) (o k q cy:Nat):Prop where
 over:limb zs (o+k)<cy->1<=q/\q-1=Limb.val (win zs o (k+1))/Limb.val ys/\Limb.fixed k (Limb.val cur+Limb.val ys)=Limb.fixed k (Limb.val (win zs o (k+1))%Limb.val ys)
 even:cy<=limb zs (o+k)->q=Limb.val (win zs o (k+1))/Limb.val ys/\cur=Limb.fixed k (Limb.val (win zs o (k+1))%Limb.val ys)
 fin:(put zs o (Limb.fixed k (Limb.val (win zs o (k+1))%Limb.val ys))).set (o+k) 0=put zs o (Limb.fixed (k+1) (Limb.val (win zs o (k+1))%Limb.val ys))
theorem RE (zs ys cur:List Nat) (o k q cy:Nat) (hn:o+(k+1)<=zs.length) (hy:Limb.Ok ys) (hl:ys.length=k) (hb0:0<Limb.val ys) (hcl:cur.length=k) (hcok:Limb.Ok cur)
   (hE:Limb.val cur+Limb.val ys*q=Limb.val (win zs o k)+4294967296^k*cy) (lo:Limb.val (win zs o (k+1))/Limb.val ys<=q) (hi:q<=Limb.val (win zs o (k+1))/Limb.val ys+1):RD zs ys cur o k q cy:=by
 have hbp:Limb.val ys<4294967296^k:=by have:=Limb.val_lt ys hy;rwa [hl]at this
 have hcp:Limb.val cur<4294967296^k:=by have:=Limb.val_lt cur hcok;rwa [hcl]at this
 have hR:=OC zs o k hn;have hml:=Nat.lt_trans (Nat.mod_lt (Limb.val (win zs o (k+1))) hb0) hbp;refine ⟨fun h=>?_,fun h=>?_,?_⟩
 · obtain ⟨h1,h2,h3⟩:=O9 _ _ q _ cy _ _ _ hb0 hbp hR hE hcp lo hi h;refine ⟨h1,h2,?_⟩;refine Limb.eq_of_val (Limb.fixed_ok _ _) (Limb.fixed_ok _ _) (by rw[Limb.fixed_length,Limb.fixed_length]) ?_;rw[Limb.fixed_val,Limb.fixed_val,h3];exact (Nat.mod_eq_of_lt hml).symm
 · obtain ⟨h1,h2⟩:=OA _ _ q _ cy _ _ _ hb0 hbp hR hE lo hi h;exact ⟨h1,Limb.eq_fixed k _ 0 hcok hcl (by rw[<-h2];simp)⟩
 · have h1:=Lw zs o (Limb.fixed k (Limb.val (win zs o (k+1))%Limb.val ys)) 0 (by rw[Limb.fixed_length];omega);rw[Limb.fixed_length,O8 k _ hml]at h1;exact h1
def Qi (g o j:Nat) (zs ys:List Nat) (w:World) (e:Ending) (w':World):Prop:=
 e=.returned (.int .u32 ((Limb.val (win zs o (j+3))/Limb.val ys:Nat):Int))/\Row w' g (put zs o (Limb.fixed (j+3) (Limb.val (win zs o (j+3))%Limb.val ys)))/\Ao g w w'
theorem K6 (g o c j:Nat) (zs:List Nat) (B:Option Addr) (d:Nat) (ys:List Nat) (w:World) (hr:Row w g zs) (hz:Limb.Ok zs) (hn:o+(j+3)<=zs.length) (hj:j<=1099511627776) (hcc:j+3<=c)
   (hy:Am w B (j+2) ys) (hd:j+2<=d) (hap:Apart B g) (htop:2147483648<=limb ys (j+1)) (hlt:Limb.val (win zs o (j+3))<4294967296*Limb.val ys) :
   Calls Tryz.prog 151 #[.slice (some ⟨g,o,none⟩) (j+3) c,.slice B (j+2) d] w (Qi g o j zs ys w):=by
 obtain ⟨g2,o2,b0,rfl,hb0l,hb0e,hb0⟩:=hy.at_ (i:=j) (by omega);obtain ⟨g3,o3,b1,hbb,hb1l,hb1e,hb1⟩:=hy.at_ (i:=j+1) (by omega);injection hbb with hbb
 injection hbb with h1 h2
 subst h1;subst h2;have c0:=hr.cell (i:=o+j) (by omega);have c1:=hr.cell (i:=o+j+1) (by omega);have c2:=hr.cell (i:=o+j+2) (by omega);have k0:=hz.getD (o+j);have k1:=hz.getD (o+j+1);have k2:=hz.getD (o+j+2);have hw:IntKind.i64.wrap (j:Int)=(j:Int):=IntWalk.i64_in _ (by omega);have f1:(c=j)=False:=by simp;omega
 have f2:(d=j)=False:=by simp;omega
 have e3:j+3-j=3:=by omega
 have e2:j+2-j=2:=by omega
 have hr2:=RA zs ys o j hz hy.ok hn hy.len hlt;have hyl:=hy.len;have HYL:=Lib.hid hyl;clear hyl;have HTN:=Ad (fun q hq=>Qh zs ys o j q hz hy.ok hn HYL.out htop hlt hq);have HTOP:=Ad htop;have HLT:=Ad hlt;have hone:Ao g w w.drew:=(Ao.refl g w).drew;clear htop hlt;have hb1n:2147483648<=b1:=by have e:=hb1e;have:=HTOP.out;unfold limb at this;omega
 have hr2':zs.getD (o+j+2) 0<=b1:=by rw[hb1e];exact hr2
 have HB0:=Lib.hid hb0e;have HB1:=Lib.hid hb1e;clear hb0e hb1e hr2;go_enter Tryz.func151,Tryz.ntmps151;go_wp2_with fail;have gg1:(j:Int)<=(j:Int)+3:=by omega
 have gg2:(j:Int)<=(j:Int)+2:=by omega
 go_region_with (first|(go_at_call 172;refine (Il g (o+j) _ g2 (o2+j) _ _ _ _ b0 b1 w.drew c0 c1 c2 hb0 hb1 k0 k1 k2 hb0l hb1l hb1n hr2').mono ?_;rintro e w' ⟨q,rfl,hq,HG,k,rfl⟩))
 have hcw:=hone.trans (Ao.refl g w.drew);have HT:=Ad (HTN.out q (by have e0:=HB0.out;have e1:=HB1.out;unfold limb;rw[<-e0,<-e1];exact HG.out));have hyw:Am (w.drewN (1+k)) (some ⟨g2,o2,none⟩) (j+2) ys:=hy.drewN (1+k);have hrw:Row (w.drewN (1+k)) g zs:=hr.drewN (1+k);have hoo:Ao g w (w.drewN (1+k)):=(Ao.refl g w).drewN (1+k);clear HTN HG hb0 hb1 c0 c1 c2 k0 k1 k2 hr hy hone hcw hw e3 e2 f1 f2 gg1 gg2;go_wp2_with fail;generalize w.drewN (1+k)=W at *
 refine (Im g o (j+2) c q zs (some ⟨g2,o2,none⟩) d ys _ hrw hz (by omega) (by omega) (by omega) hyw (fun _=>hap) hq).mono ?_;rintro e w2 ⟨cur,cy,rfl,hcy,hcl,hcok,hr2w,ho2w,HE⟩;have HCL:=Lib.hid hcl;have hfit:o+cur.length<=zs.length:=by omega
 clear hcl;have hrn:w2.cell? ⟨g,o+(j+2),none⟩=some (.int .u32 ((limb zs (o+(j+2)):Nat):Int)):=by rw[hr2w.cell (i:=o+(j+2)) (by rw[AA _ _ _ hfit];omega),ME zs o cur (j+2) HCL.out (by omega)]
 have hfn:=hr2w.frozen (o+(j+2));have HE2:=Ad (RE zs ys cur o (j+2) q cy hn hyw.ok HYL.out (RB ys (j+1) (by have:=HTOP.out;omega)) HCL.out hcok (by rw[<-HE.out]) HT.out.lo HT.out.hi);have hl2:limb zs (o+(j+2))<4294967296:=hz.getD _;clear HE HT hrw HTOP HLT HB0 HB1;by_cases hover:limb zs (o+(j+2))<cy
 · have h1:((limb zs (o+(j+2)):Nat):Int)<(cy:Int):=(by omega);have HOV:=Ad (HE2.out.over hover);have hq1:=HOV.out.1;go_wp2_with fail;refine (CR g o (j+2) c (put zs o cur) (some ⟨g2,o2,none⟩) (j+2) d ys w2 hr2w (CQ hz o hcok) (by rw[AA _ _ _ hfit];omega) (by omega) (hyw.grown ho2w hap) (Nat.le_refl _) (fun _=>hap)).mono ?_;rintro e w3 ⟨rfl,hr3,ho3⟩;rw[MC zs o cur (j+2) HCL.out (by omega),HOV.out.2.2,MD zs o cur _ (by rw[HCL.out,Limb.fixed_length]) (by omega)]at hr3
   have hf3:=hr3.frozen (o+(j+2));have hc3:=hr3.cell (i:=o+(j+2)) (by rw[AA _ _ _ (by rw[Limb.fixed_length];omega)];omega);go_wp2_with fail;go_ret
   refine ⟨?_,?_,((hoo.trans ho2w).trans ho3).setCell _ _⟩
   · have e2:((q:Int)-1)=((Limb.val (win zs o (j+3))/Limb.val ys:Nat):Int):=by
      have h6:q-1=Limb.val (win zs o (j+3))/Limb.val ys:=HOV.out.2.1;rw[<-h6];omega
     rw[<-e2];rfl
   · have h5:=hr3.set_ (o+(j+2)) 0;rw[HE2.out.fin]at h5;exact h5
 · have h1:¬((limb zs (o+(j+2)):Nat):Int)<(cy:Int):=(by omega);have HEV:=Ad (HE2.out.even (by omega));go_wp2_with fail;go_ret
   refine ⟨?_,?_,(hoo.trans ho2w).setCell _ _⟩
   · rw[<-HEV.out.1];rfl
   · have h5:=hr2w.set_ (o+(j+2)) 0;rw[HEV.out.2,HE2.out.fin]at h5;exact h5
end
section
open Go.RowKit
open Limb (limb AE upto upto_succ Ap Aq)
theorem Lx (zs:List Nat) (o:Nat) (cur:List Nat) (k:Nat) (hl:cur.length=k) (ho:o<=zs.length):limb (put zs o cur) (o+k)=limb zs (o+k):=by
 have h1:(zs.take o).length=o:=by rw[List.length_take];omega
 unfold put limb;rw[List.getD_eq_getElem?_getD,List.getElem?_append_right (by omega),h1,List.getElem?_append_right (by omega),List.getElem?_drop,List.getD_eq_getElem?_getD];congr 2
 omega
def lo (s x:Nat):Nat:=x*2^s%4294967296
def hi (s x:Nat):Nat:=x/2^(32-s)
theorem Ex (s:Nat) (hs:s<=32):2^(32-s)*2^s=4294967296:=by
 rw[<-Nat.pow_add];have e:32-s+s=32:=by omega
 rw[e]
theorem Sw (s x:Nat) (hs:s<=32):x*2^s=lo s x+4294967296*hi s x:=by
 unfold lo hi;have hp:=Ex s hs;have h2:0<2^s:=Nat.pow_pos (by omega);have e1:x*2^s/4294967296=x/2^(32-s):=by rw[<-hp,Nat.mul_comm (2^(32-s))];rw[Nat.mul_comm x,Nat.mul_div_mul_left _ _ h2]
 rw[<-e1];exact (Nat.mod_add_div _ _).symm
theorem Qj (s x:Nat) (hs:s<=32) (hx:x<4294967296):hi s x<2^s:=by unfold hi;rw[Nat.div_lt_iff_lt_mul (Nat.pow_pos (by omega)),Nat.mul_comm,Ex s hs];exact hx
theorem MF (s x:Nat) (hs:s<=32):lo s x%2^s=0:=by
 unfold lo;have e:4294967296=2^s*2^(32-s):=by rw[Nat.mul_comm,Ex s hs]
 rw[e,Nat.mod_mul_right_mod,Nat.mul_mod_left]
theorem Ly (s x:Nat):lo s x<4294967296:=Nat.mod_lt _ (by omega)
theorem Gh (s x:Nat) (hx:x<4294967296):hi s x<4294967296:=Nat.lt_of_le_of_lt (Nat.div_le_self _ _) hx
theorem Qk (s x y:Nat) (hs:s<=32) (hy:y<4294967296):bits BinOp.or IntKind.u32 ((lo s x:Nat):Int) ((hi s y:Nat):Int)=((lo s x+hi s y:Nat):Int):=by rw[u32_or_nat _ _ (Ly s x) (Gh s y hy),nat_join s _ _ (MF s x hs) (Qj s y hs hy)]
theorem JJ (s x y:Nat) (hs:s<=32) (hy:y<4294967296):lo s x+hi s y<4294967296:=by
 have h1:=u32_or_nat (lo s x) (hi s y) (Ly s x) (Gh s y hy);have h2:lo s x ||| hi s y<2^32:=Nat.or_lt_two_pow (Ly s x) (Gh s y hy)
 rw[nat_join s _ _ (MF s x hs) (Qj s y hs hy)]at h2;exact h2
theorem MG (s x:Nat):(x:Int)*2^s%4294967296=((lo s x:Nat):Int):=by unfold lo;rw[Int.natCast_emod,Int.natCast_mul,Int.natCast_pow];rfl
theorem SL (s x:Nat):(x:Int)/2^(32-s)=((hi s x:Nat):Int):=by unfold hi;rw[Int.natCast_ediv,Int.natCast_pow];rfl
theorem Cu (xs:List Nat) (i v:Nat) (h:i<xs.length):limb (xs.set i v) i=v:=by unfold limb;rw[List.getD_eq_getElem?_getD,List.getElem?_set_self h];rfl
theorem Ff (xs:List Nat) (i j v:Nat) (h:i≠j):limb (xs.set i v) j=limb xs j:=by unfold limb;rw[List.getD_eq_getElem?_getD,List.getElem?_set_ne h,<-List.getD_eq_getElem?_getD]
theorem OD (xs:List Nat) (n t:Nat) (ht:t<n):limb (xs.take n) t=limb xs t:=by unfold limb;rw[List.getD_eq_getElem?_getD,List.getD_eq_getElem?_getD,List.getElem?_take_of_lt ht]
theorem DC (xs:List Nat) (j:Nat) (h:j<xs.length):Limb.val (xs.drop j)=limb xs j+4294967296*Limb.val (xs.drop (j+1)):=by rw[List.drop_eq_getElem_cons h];unfold limb;rw[List.getD_eq_getElem?_getD,List.getElem?_eq_getElem h];rfl
theorem Gi (xs:List Nat) (j v:Nat):(xs.set j v).drop (j+1)=xs.drop (j+1):=by rw[List.drop_set,if_pos (by omega)]
def Ei (g N s:Nat) (old:List Nat) (w:World) (i:Nat) (wr:World):Prop:=
 ∃cur:List Nat,cur.length=N/\Limb.Ok cur/\Row wr g cur/\Below w.heap.size w wr/\w.heap.size<=g/\(∀t,t<=i->limb cur t=limb old t)/\Limb.val (cur.drop (i+1))=2^s*Limb.val (old.drop (i+1))+hi s (limb old i)
theorem Ql (P V L x h l:Nat) (hx:x*P=l+4294967296*h):l+L+4294967296*(P*V+h)=P*(x+4294967296*V)+L:=by rw[Nat.mul_add,Nat.mul_add,Nat.mul_comm P x,hx,Nat.mul_left_comm P 4294967296 V];omega
theorem Ei.at_ {g N s:Nat} {old:List Nat} {w:World} {i:Nat} {wr:World} (h:Ei g N s old w i wr) (hi:i<N) :
  ∃x:Nat,x<4294967296/\x=limb old i/\wr.cell? ⟨g,i,none⟩=some (.int .u32 (x:Int))/\wr.frozen? ⟨g,i,none⟩=false:=by
 obtain ⟨cur,hl,ho,hr,hb,hg,he,hv⟩:=h;exact ⟨limb cur i,ho.getD i,he i (Nat.le_refl _),hr.cell (i:=i) (by omega),hr.frozen i⟩
theorem Ei.at_low {g N s:Nat} {old:List Nat} {w:World} {i t:Nat} {wr:World} (h:Ei g N s old w i wr) (hi:i<N) (ht:t<=i) :
  wr.cell? ⟨g,t,none⟩=some (.int .u32 ((limb old t:Nat):Int)):=by
 obtain ⟨cur,hl,ho,hr,hb,hg,he,hv⟩:=h;rw[<-he t ht];exact hr.cell (i:=t) (by omega)
theorem Ei.drew {g N s:Nat} {old:List Nat} {w:World} {i:Nat} {wr:World} (h:Ei g N s old w i wr):Ei g N s old w i wr.drew:=by obtain ⟨cur,hl,ho,hr,hb,hg,he,hv⟩:=h;exact ⟨cur,hl,ho,hr.drew,hb.drew,hg,he,hv⟩
theorem Ei.step {g N s:Nat} {old:List Nat} {w:World} {j:Nat} {wr:World} (h:Ei g N s old w (j+1) wr) (hj:j+1<N) (hs:s<32) (hN:old.length=N) (hoo:Limb.Ok old) :
   Ei g N s old w j (wr.setCell ⟨g,j+1,none⟩ (.int .u32 ((lo s (limb old (j+1))+hi s (limb old j):Nat):Int))):=by
 obtain ⟨cur,hl,ho,hr,hb,hg,he,hv⟩:=h;have hlt:=JJ s (limb old (j+1)) (limb old j) (Nat.le_of_lt hs) (hoo.getD j);refine ⟨cur.set (j+1) (lo s (limb old (j+1))+hi s (limb old j)),by simp[hl],ho.set _ _ hlt,hr.set_ _ _,hb.setCell hg _,hg,fun t ht=>?_,?_⟩
 · rw[Ff _ _ _ _ (by omega)];exact he t (by omega)
 · rw[DC _ (j+1) (by simp;omega),Cu _ _ _ (by omega),Gi,hv,DC old (j+1) (by omega)];exact Ql _ _ _ _ _ _ (Sw s _ (Nat.le_of_lt hs))
theorem Ei.done {g m l s:Nat} {xs:List Nat} {w:World} {wr:World} (h:Ei g (m+l+1) s (put (List.replicate (m+l+1) 0) l xs) w l wr) (hs:s<32) (hx:Limb.Ok xs) (hm:xs.length=m) :
  ∃zs:List Nat,zs.length=m+l+1/\Limb.Ok zs/\Row (wr.setCell ⟨g,l,none⟩ (.int .u32 ((lo s (limb (put (List.replicate (m+l+1) 0) l xs) l):Nat):Int))) g zs/\Limb.val zs=Limb.val xs*2^(32*l+s):=by
 obtain ⟨cur,hl,ho,hr,hb,hg,he,hv⟩:=h;have hfit:l+xs.length<=(List.replicate (m+l+1) 0).length:=by simp;omega
 have hol:(put (List.replicate (m+l+1) 0) l xs).length=m+l+1:=by rw[AA _ _ _ hfit];simp
 generalize hold:put (List.replicate (m+l+1) 0) l xs=old at *;refine ⟨cur.set l (lo s (limb old l)),by simp[hl],ho.set _ _ (Ly _ _),hr.set_ _ _,?_⟩;have e1:Limb.val ((cur.set l (lo s (limb old l))).drop l)=2^s*Limb.val (old.drop l):=by rw[DC _ l (by simp;omega),Cu _ _ _ (by omega),Gi,hv,DC old l (by omega)];have:=Ql (2^s) (Limb.val (old.drop (l+1))) 0 (limb old l) (hi s (limb old l)) (lo s (limb old l)) (Sw s _ (Nat.le_of_lt hs));omega
 have e2:old.drop l=xs++[0]:=by
  rw[<-hold];unfold put;rw[List.take_replicate,Nat.min_eq_left (by omega),List.drop_append_of_le_length (by simp),List.drop_of_length_le (by simp),List.nil_append,List.drop_replicate,hm];have:m+l+1-(l+m)=1:=by omega
  rw[this];rfl
 have e3:Limb.val ((cur.set l (lo s (limb old l))).take l)=0:=by
  have h1:∀t,limb ((cur.set l (lo s (limb old l))).take l) t=limb ([]:List Nat) t:=by
   intro t;have h0:limb ([]:List Nat) t=0:=Limb.limb_beyond (Nat.zero_le _);rw[h0];by_cases ht:t<l
   · rw[OD _ _ _ ht,Ff _ _ _ _ (by omega),he t (by omega),<-hold];unfold limb put;rw[List.getD_eq_getElem?_getD,List.getElem?_append_left (by simp;omega),List.getElem?_take_of_lt ht,List.getElem?_replicate];split<;>rfl
   · exact Limb.limb_beyond (by rw[List.length_take];omega)
  rw[Limb.val_eq_of_limbs _ _ h1];rfl
 rw[Limb.val_take_drop _ l (by simp;omega),e3,e1,e2,Limb.val_append];have h4:(4294967296:Nat)^l=2^(32*l):=by rw[Nat.pow_mul]
 have h5:Limb.val [0]=0:=rfl;rw[h4,h5,Nat.mul_zero,Nat.add_zero,Nat.pow_add,Nat.zero_add,Nat.mul_comm (Limb.val xs),Nat.mul_assoc]
def OE (m n N:Nat) (w:World) (e:Ending) (w':World):Prop:=
 ∃zs:List Nat,e=.returned (.slice (some ⟨w.heap.size,0,none⟩) n n)/\zs.length=n/\Limb.Ok zs/\Row w' w.heap.size zs/\Limb.val zs=N/\Below w.heap.size w w'
theorem GR (A:Option Addr) (m c n l s:Nat) (xs:List Nat) (w:World) (hx:Am w A m xs) (hc:m<=c) (hc9:c<=9223372036854775807) (hm:m<=1099511627776) (hn:n=32*l+s) (hs:s<32) (hl:l<=1099511627776) :
  Calls Tryz.prog 150 #[.slice A m c,.int .i64 (n:Int)] w (OE m (m+l+1) (Limb.val xs*2^(32*l+s)) w):=by
 have en:(n:Int)/32=(l:Int):=by omega
 have em:(n:Int)%32=(s:Int):=by omega
 have hn2:n<=35184372088895:=by omega
 have hml:=hx.len;have HML:=Lib.hid hml;have hok:=hx.ok;clear hn hml;have f1:(m+l+1=l)=False:=by simp;omega
 go_enter Tryz.func150,Tryz.ntmps150;go_wp2_with (first
  |(at_make;refine AU _ rfl _ _ rfl _ (m+l+1) rfl rfl (by omega) (by omega) ?_;intro w1 hr1 hb1 hs1)
  |(with_reducible refine AZ rfl _ _ rfl w.heap.size l _ _ _ _ m c rfl (fun _=>rfl) rfl _ xs hr1 (hx.below hb1) (by omega) (by simp;omega) ?_;intro w2 hr2 ho2))
 have hold:(put (List.replicate (m+l+1) 0) l xs).length=m+l+1:=by rw[AA _ _ _ (by rw[List.length_replicate,HML.out];omega),List.length_replicate]
 have holok:Limb.Ok (put (List.replicate (m+l+1) 0) l xs):=CQ (Limb.Ok.replicate _) _ hok;have hb2:Below w.heap.size w w2:=hb1.trans (ho2.below (Nat.le_of_lt hs1) (Nat.le_refl _));have htop:limb (put (List.replicate (m+l+1) 0) l xs) (m+l)=0:=by have h1:=Lx (List.replicate (m+l+1) 0) l xs m HML.out (by simp;omega);refine (congrArg (limb _) (Nat.add_comm m l)).trans (h1.trans ?_);unfold limb;rw[List.getD_eq_getElem?_getD,List.getElem?_replicate];split<;>rfl
 have HOL:=Lib.hid hold;have HST:Hid (Ei w.heap.size (m+l+1) s (put (List.replicate (m+l+1) 0) l xs) w (m+l) w2):=by
  refine ⟨_,HOL.out,holok,hr2,hb2,Nat.le_refl _,fun _ _=>rfl,?_⟩;rw[List.drop_of_length_le (by rw[HOL.out];exact Nat.le_refl _),htop];have:hi s 0=0:=by unfold hi;simp
  rw[this];simp[Limb.val]
 clear hold htop hr1 hr2 ho2 hb1 hb2 hs1 hx;go_loopw [8] (fun i wr=>∃j:Nat,l<=j/\j<=m+l/\i=.int .i64 (j:Int)/\Hid (Ei w.heap.size (m+l+1) s (put (List.replicate (m+l+1) 0) l xs) w j wr)) (fun i _=>(intOf i).toNat)
 case atStart=>exact ⟨m+l,by omega,Nat.le_refl _,by go_num,HST⟩
 case round=>
  clear HST;obtain ⟨k,hk1,hk2,rfl,R⟩:=hrel;by_cases hkl:l<k
  · obtain ⟨j,rfl⟩:∃j,k=j+1:=⟨k-1,by omega⟩;obtain ⟨x,hxl,hxe,hcx,hfx⟩:=R.out.at_ (by omega);have hcy:=R.out.at_low (t:=j) (by omega) (by omega);have HX:=Lib.hid hxe;clear hxe;have hw1:IntKind.i64.wrap (32-(s:Int))=32-(s:Int):=IntWalk.i64_in _ (by omega);have hw2:IntKind.i64.wrap (j:Int)=(j:Int):=IntWalk.i64_in _ (by omega);have hw3:IntKind.i64.wrap ((j:Int)+1)=(j:Int)+1:=IntWalk.i64_in _ (by omega);go_wp2_with fail;go_region
    rw[MG,SL,Qk s x (limb (put (List.replicate (m+l+1) 0) l xs) j) (Nat.le_of_lt hs) (holok.getD j),HX.out];have hstep:=R.out.step (by omega) hs HOL.out holok;rw[Int.natCast_add]at hstep;have HSTEP:=Ad hstep.drew;clear hstep;clear R hcy hcx hfx hw1 hw2 hw3;go_wp2_with fail;go_roundw
    case rel=>exact ⟨j,by omega,by omega,by go_num,HSTEP⟩
    case measure=>simp[intOf]<;>omega
  · obtain rfl:k=l:=(by omega);clear hkl;obtain ⟨x,hxl,hxe,hcx,hfx⟩:=R.out.at_ (by omega);have HX:=Lib.hid hxe;clear hxe;go_wp2_with fail;rw[MG,HX.out];go_ret
    obtain ⟨zs,z1,z2,z3,z4⟩:=R.out.done hs hok HML.out;have hb:Below w.heap.size w wr:=(by obtain ⟨_,_,_,_,hb,_⟩:=R.out;exact hb);exact ⟨zs,rfl,z1,z2,z3,z4,hb.setCell (Nat.le_refl _) _⟩
end
section
open Go.RowKit
open Limb (limb AE upto upto_succ Ap Aq)
def Ej (g N s:Nat) (old:List Nat) (w:World) (i:Nat) (wr:World):Prop:=
 ∃cur:List Nat,cur.length=N/\Limb.Ok cur/\Row wr g cur/\Below w.heap.size w wr/\w.heap.size<=g/\(∀t,i<=t->limb cur t=limb old t)/\2^s*upto cur i+limb old 0%2^s=upto old i+4294967296^i*(limb old i%2^s)
theorem Ej.drew {g N s:Nat} {old:List Nat} {w:World} {i:Nat} {wr:World} (h:Ej g N s old w i wr):Ej g N s old w i wr.drew:=by obtain ⟨cur,hl,ho,hr,hb,hg,he,hv⟩:=h;exact ⟨cur,hl,ho,hr.drew,hb.drew,hg,he,hv⟩
theorem Ej.at_ {g N s:Nat} {old:List Nat} {w:World} {i t:Nat} {wr:World} (h:Ej g N s old w i wr) (ht:i<=t) (hN:t<N) :
  wr.cell? ⟨g,t,none⟩=some (.int .u32 ((limb old t:Nat):Int))/\wr.frozen? ⟨g,t,none⟩=false:=by
 obtain ⟨cur,hl,ho,hr,hb,hg,he,hv⟩:=h;rw[<-he t ht];exact ⟨hr.cell (i:=t) (by omega),hr.frozen t⟩
theorem Lz (cur:List Nat) (i v:Nat):upto (cur.set i v) i=upto cur i:=by unfold upto;rw[List.take_set_of_le (Nat.le_refl i)]
theorem SN (s y:Nat) (hs:s<=32):2^s*lo (32-s) y=4294967296*(y%2^s):=by
 unfold lo;have e:4294967296=2^(32-s)*2^s:=(Ex s hs).symm;have h1:y*2^(32-s)%4294967296=2^(32-s)*(y%2^s):=by rw[e,Nat.mul_comm y,Nat.mul_mod_mul_left]
 rw[h1,<-Nat.mul_assoc,Nat.mul_comm (2^s),Ex s hs]
theorem MH (s x:Nat) (hs:s<=32):hi (32-s) x=x/2^s:=by
 unfold hi;have:32-(32-s)=s:=by omega
 rw[this]
theorem Qm (P U V B x y r0 h l:Nat) (hv:P*U+r0=V+B*(x%P)) (hl:P*l=4294967296*y) (hh:h=x/P):P*(U+B*(h+l))+r0=V+B*x+B*4294967296*y:=by
 have e1:=Nat.div_add_mod x P;rw[<-hh]at e1;have e2:P*(B*(h+l))=B*(P*h)+B*(P*l):=by rw[Nat.mul_left_comm P B,Nat.mul_add,Nat.mul_add]
 rw[Nat.mul_add,e2,hl];have e3:B*(P*h+x%P)=B*x:=by rw[e1]
 rw[Nat.mul_add]at e3;rw[Nat.mul_assoc];omega
theorem Ej.step {g N s:Nat} {old:List Nat} {w:World} {i:Nat} {wr:World} (h:Ej g N s old w i wr) (hi':i+1<N) (hs:s<=32) (hoo:Limb.Ok old) :
   Ej g N s old w (i+1) (wr.setCell ⟨g,i,none⟩ (.int .u32 ((hi (32-s) (limb old i)+lo (32-s) (limb old (i+1)):Nat):Int))):=by
 obtain ⟨cur,hl,ho,hr,hb,hg,he,hv⟩:=h;have hlt:=JJ (32-s) (limb old (i+1)) (limb old i) (by omega) (hoo.getD i);refine ⟨cur.set i (hi (32-s) (limb old i)+lo (32-s) (limb old (i+1))),by simp[hl],ho.set _ _ (by omega),hr.set_ _ _,hb.setCell hg _,hg,fun t ht=>?_,?_⟩
 · rw[Ff _ _ _ _ (by omega)];exact he t (by omega)
 · rw[upto_succ,Lz,Cu _ _ _ (by omega),upto_succ,Nat.pow_succ];exact Qm _ _ _ _ _ _ _ _ _ hv (SN s _ hs) (MH s _ hs)
theorem Ej.done {g N s:Nat} {old:List Nat} {w:World} {i:Nat} {wr:World} (h:Ej g N s old w i wr) (hi':i+1=N) (hs:s<=32) (hoo:Limb.Ok old) (hN:old.length=N) :
  ∃zs:List Nat,zs.length=N/\Limb.Ok zs/\Row (wr.setCell ⟨g,i,none⟩ (.int .u32 ((hi (32-s) (limb old i):Nat):Int))) g zs/\Limb.val zs=Limb.val old/2^s:=by
 obtain ⟨cur,hl,ho,hr,hb,hg,he,hv⟩:=h;refine ⟨cur.set i (hi (32-s) (limb old i)),by simp[hl],ho.set _ _ (Gh _ _ (hoo.getD i)),hr.set_ _ _,?_⟩;have e1:Limb.val (cur.set i (hi (32-s) (limb old i)))=upto cur i+4294967296^i*hi (32-s) (limb old i):=by rw[<-Ap _ (i+1) (by simp;omega),upto_succ,Lz,Cu _ _ _ (by omega)]
 have e2:Limb.val old=upto old i+4294967296^i*limb old i:=by rw[<-upto_succ,Ap _ _ (by omega)]
 have e3:=Qm (2^s) _ _ _ _ 0 _ (hi (32-s) (limb old i)) 0 hv (by simp) (MH s _ hs);rw[Nat.add_zero,Nat.mul_zero,Nat.add_zero,<-e1,<-e2]at e3;have hp:0<2^s:=Nat.pow_pos (by omega);have e4:=Nat.mod_lt (limb old 0) hp;rw[<-e3,Nat.mul_add_div hp,Nat.div_eq_of_lt e4,Nat.add_zero]
theorem Qn (s x y:Nat) (hs:s<=32) (hy:y<4294967296):bits BinOp.or IntKind.u32 ((hi s y:Nat):Int) ((lo s x:Nat):Int)=((hi s y+lo s x:Nat):Int):=by rw[u32_or_nat _ _ (Gh s y hy) (Ly s x),Nat.or_comm,nat_join s _ _ (MF s x hs) (Qj s y hs hy),Nat.add_comm]
theorem NY (s x:Nat) (hs:s<=32):(x:Int)/2^s=((hi (32-s) x:Nat):Int):=by rw[MH s x hs,Int.natCast_ediv,Int.natCast_pow];rfl
theorem RF (s x:Nat):(x:Int)*2^(32-s)%4294967296=((lo (32-s) x:Nat):Int):=MG (32-s) x
theorem MI (a l s:Nat) (h:L a<=l):a/2^(32*l+s)=0:=by
 refine Nat.div_eq_of_lt ?_;have h1:4294967296^l=2^(32*l):=by rw[Nat.pow_mul]
 have h2:=Nat.lt_of_lt_of_le (FL a) (Limb.pow_mono h);rw[h1]at h2;exact Nat.lt_of_lt_of_le h2 (Nat.pow_le_pow_right (by omega) (by omega))
theorem OG (a l s:Nat):a/4294967296^l/2^s=a/2^(32*l+s):=by
 have h1:4294967296^l=2^(32*l):=by rw[Nat.pow_mul]
 rw[Nat.div_div_eq_div_mul,h1,<-Nat.pow_add]
theorem Ej.start {g N s:Nat} {old:List Nat} {w wr:World} (hl:old.length=N) (ho:Limb.Ok old) (hr:Row wr g old) (hb:Below w.heap.size w wr) (hg:w.heap.size<=g):Ej g N s old w 0 wr:=
 ⟨old,hl,ho,hr,hb,hg,fun _ _=>rfl,by rw[Aq,Nat.mul_zero,Nat.zero_add,Nat.pow_zero,Nat.one_mul,Nat.zero_add]⟩
theorem OH (A:Option Addr) (m c n l s:Nat) (z:Int) (xs:List Nat) (w:World) (hx:Am w A m xs) (hc:m<=c) (hc9:c<=9223372036854775807) (hm:m<=1099511627776) (hn:n=32*l+s) (hs:s<32) (hn63:n<=9223372036854775807) (hz:max z 0=(n:Int)) :
   Calls Tryz.prog 152 #[.slice A m c,.int .i64 z] w (Ck (Limb.val xs/2^(32*l+s)) w):=by
 have hcut:=Bz w A xs m hx;have hdet:=Bo A m c xs w hx hc hc9;generalize Limb.val xs=a at *;obtain ⟨-,hle,hN,-⟩:=hcut;have hmx:∀(w:World) (ts:Array TypeId) (t:TypeId) (k k':IntKind),(Builtin.max_ ts t #[.int k z,.int k' 0]).run Tryz.prog w=.ok (.int k (n:Int)) w:=fun w ts t k k'=>by
   rw[run_max_int2];congr 2;split<;>omega
 clear hz;have en:(n:Int)/32=(l:Int):=by omega
 have em:(n:Int)%32=(s:Int):=by omega
 clear hn;by_cases hll:L a<=l
 · have h0:=MI a l s hll;have H0:=Lib.hid h0;clear h0;go_enter Tryz.func152,Tryz.ntmps152;go_wp2_with fail;refine hdet.mono ?_;rintro e w' ⟨rfl,rfl⟩;go_wp2_with fail;go_ret
   exact ⟨none,0,rfl,by rw[H0.out];exact Own.zero _ _ _ _ (by omega),Below.refl _ _⟩
 · have hN2:=hN.cut (k:=l) (cap:=L a) (by omega) (Nat.le_refl _);rw[DT,if_neg (by omega)]at hN2;have f1:(L a=l)=False:=(by simp;omega);have hlen:=hN2.len;have HLN:=Lib.hid hlen;clear hlen;go_enter Tryz.func152,Tryz.ntmps152;go_wp2_with fail;refine hdet.mono ?_;rintro e w' ⟨rfl,rfl⟩;go_wp2_with (first
    |(at_make;refine AU _ rfl _ _ rfl _ (L a-l) rfl rfl (by omega) (by omega) ?_;intro w1 hr1 hb1 hs1)
    |(with_reducible refine AZ rfl _ _ rfl w.heap.size 0 _ _ _ _ (L a-l) (L a-l) rfl (fun _=>rfl) rfl _ (Limb.canon (a/4294967296^l)) hr1 (hN2.below hb1) (Nat.le_refl _) (by simp) ?_;intro w2 hr2 ho2))
   have hput:put (List.replicate (L a-l) 0) 0 (Limb.canon (a/4294967296^l))=Limb.canon (a/4294967296^l):=by unfold put;rw[<-HLN.out];simp
   rw[hput]at hr2;have hb2:Below w.heap.size w w2:=hb1.trans (ho2.below (Nat.le_of_lt hs1) (Nat.le_refl _));have hok:=Limb.ok_canon (a/4294967296^l);have HST:=Ad (Ej.start (s:=s) HLN.out hok hr2 hb2 (Nat.le_refl _));have HV:Hid (Limb.val (Limb.canon (a/4294967296^l))/2^s=a/2^(32*l+s)):=(by show _=_;rw[Limb.val_canon,OG]);generalize Limb.canon (a/4294967296^l)=old at *;clear hput hr1 hr2 ho2 hb1 hb2 hs1 hx hN hN2 hdet
   go_loopw [9,36] (fun _ i wr=>∃k:Nat,k+1<=L a-l/\i=.int .i64 (k:Int)/\Hid (Ej w.heap.size (L a-l) s old w k wr)) (fun _ i _=>L a-l-(intOf i).toNat)
   case atStart=>exact ⟨0,by omega,rfl,HST⟩
   case round=>
    clear HST;obtain ⟨k,hk1,rfl,R⟩:=hrel;by_cases hkl:k+1<L a-l
    · obtain ⟨hcx,hfx⟩:=R.out.at_ (t:=k) (Nat.le_refl _) (by omega);obtain ⟨hcy,_⟩:=R.out.at_ (t:=k+1) (by omega) (by omega);have hw1:IntKind.i64.wrap (32-(s:Int))=32-(s:Int):=IntWalk.i64_in _ (by omega);have hw3:IntKind.i64.wrap ((k:Int)+1)=(k:Int)+1:=IntWalk.i64_in _ (by omega);go_wp2_with fail;go_region
      rw[NY s _ (Nat.le_of_lt hs),RF,Qn (32-s) (limb old (k+1)) (limb old k) (by omega) (hok.getD k)];have hstep:=R.out.step hkl (Nat.le_of_lt hs) hok;have HSTEP:=Ad hstep.drew;clear R hcy hcx hfx hw1 hw3 hstep;go_wp2_with fail;go_roundw
      case rel=>exact ⟨k+1,by omega,by go_num,by simpa only[Int.natCast_add] using HSTEP⟩
      case measure=>simp[intOf]<;>omega
    · obtain rfl:k=L a-l-1:=(by omega);clear hkl;obtain ⟨hcx,hfx⟩:=R.out.at_ (t:=L a-l-1) (Nat.le_refl _) (by omega);have hdone:=R.out.done (by omega) (Nat.le_of_lt hs) hok HLN.out;have hb:Below w.heap.size w wr:=(by obtain ⟨_,_,_,_,hb,_⟩:=R.out;exact hb);obtain ⟨zs,z1,z2,z3,z4⟩:=hdone;have Z1:=Lib.hid z1;have Z4:=Lib.hid z4;clear z1 z4;go_wp2_with fail;rw[NY s _ (Nat.le_of_lt hs)]
      refine (Bp w.heap.size (L a-l) _ (a/2^(32*l+s)) w.heap.size zs _ z3 z2 (by rw[Z1.out];exact Nat.le_refl _) (by omega) (by omega) (Nat.le_refl _) (by rw[List.take_of_length_le (by rw[Z1.out];exact Nat.le_refl _),Z4.out];exact HV.out)).mono ?_;rintro e w4 ⟨A',j,rfl,how,rfl⟩;go_wp2_with fail;go_ret
      exact ⟨A',j,rfl,how,hb.setCell (Nat.le_refl _) _⟩
theorem OI (A:Option Addr) (m c n l s:Nat) (xs:List Nat) (w:World) (hx:Am w A m xs) (hc:m<=c) (hc9:c<=9223372036854775807) (hm:m<=1099511627776) (hn:n=32*l+s) (hs:s<32) (hn63:n<=9223372036854775807) :
  Calls Tryz.prog 152 #[.slice A m c,.int .i64 (n:Int)] w (Ck (Limb.val xs/2^(32*l+s)) w):=
 OH A m c n l s (n:Int) xs w hx hc hc9 hm hn hs hn63 (by omega)
end
end Go.Proofs.YtemfjdedjcjegaaGreatDoor
