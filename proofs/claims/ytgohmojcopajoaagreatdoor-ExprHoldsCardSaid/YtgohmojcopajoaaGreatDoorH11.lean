/- Texts of one seat, put together: DivL Of Div DecMath Scale Cut BitMath MoveMath Alive1 MulC. -/
import Derived.Test.YtgohmojcopajoaaGreatDoorH10
import Derived.Test.YtgohmojcopajoaaGreatDoorH09
import Derived.Test.YtgohmojcopajoaaGreatDoorH01
import Derived.Lib.Strings
import Derived.Laws.BitsLemmas
import Derived.Laws.BitsAllLaws
set_option linter.unusedVariables false
set_option linter.unusedSimpArgs false
set_option maxRecDepth 100000
set_option maxHeartbeats 16000000
namespace Go.Proofs.YtgohmojcopajoaaGreatDoor.Nu
section
open Go.RowKit
open Limb (limb AK upto upto_succ Az AA)
def YI (x:Nat) (w:World) (e:Ending) (w':World):Prop:=∃z:Nat,e=.returned (.int .i64 (z:Int))/\z<32/\Hid (2147483648<=x*2^z/\x*2^z<4294967296)/\w=w'
theorem QK (x:Nat) (h0:x≠0) (h:x<4294967296):1<=Lib.bitLen x/\Lib.bitLen x<=32/\2^(Lib.bitLen x-1)<=x/\x<2^Lib.bitLen x:=by have h1:=Lib.bitLenAux_bounds 64 x (by omega) h0;have h2:=Lib.bitLen_le x 32 (by omega) (by omega);exact ⟨h1.1,h2,h1.2.1,h1.2.2⟩
def Zo (g1 gq n m a' b':Nat) (w:World) (k:Nat) (wr:World):Prop:=
 ∃curR curQ:List Nat,curR.length=n+1/\curQ.length=n-m+1/\Limb.Ok curR/\Limb.Ok curQ/\Row wr g1 curR/\Row wr gq curQ/\Below w.heap.size w wr /\
  Limb.val curR+4294967296^k*(Limb.val (curQ.drop k)*b')=a'/\Limb.val (curR.drop k)<b'
def Yx (N M:Nat) (w:World) (e:Ending) (w':World):Prop:=
 ∃A n c B m d,e=.returned (.tuple #[.slice A n c,.slice B m d])/\Own w' w.heap.size A n c N/\Own w' w.heap.size B m d M/\Below w.heap.size w w'
end
section
open Go.RowKit
theorem _root_.Go.Proofs.YtgohmojcopajoaaGreatDoor.Row.new (w:World) (zs:List Nat) (us:Array Value) (h:us=(Ch zs).toArray):Row (w.alloc (.cells us 173)) w.heap.size zs:=by unfold Row;rw[h];exact heap_alloc_new w _
theorem Wv (N:Nat) (w:World) (h:N/4294967296<4294967296) :
  Calls Tryz.prog 120 #[.int .u64 (N:Int)] w (DJ N w):=by
 go_enter Tryz.func120,Tryz.ntmps120;go_wp2_with fail;have hr:=Row.new w [N%4294967296,N/4294967296] #[.int .u32 ((N:Int)%4294967296),.int .u32 ((N:Int)/4294967296)] (by simp[Ch]);refine (Ck w.heap.size 2 2 N w.heap.size _ _ hr (Limb.Ok.cons (by omega) (Limb.Ok.cons h Limb.Ok.nil)) (by simp) (by omega) (by omega) (Nat.le_refl _) (by simp[Limb.val];omega)).mono ?_;rintro e w' ⟨A',m,rfl,how,rfl⟩;go_wp2_with fail;go_ret
 exact ⟨A',m,rfl,how,(Below.refl _ _).alloc (Nat.le_refl _) _⟩
theorem of_int (v:Int) (N:Nat) (w:World) (hv:v=(N:Int)) (h:N/4294967296<4294967296):Calls Tryz.prog 120 #[.int .u64 v] w (DJ N w):=by subst hv;exact Wv N w h
theorem _root_.Go.Proofs.YtgohmojcopajoaaGreatDoor.Nums.new (w:World) (xs:List Nat) (us:Array Value) (h:us=(Ch xs).toArray) (ho:Limb.Ok xs) (n:Nat) (hn:n=xs.length):Nums (w.alloc (.cells us 173)) (some ⟨w.heap.size,0,none⟩) n xs:=by subst hn;have:=(Row.new w xs us h).nums ho (o:=0) (n:=xs.length) (by omega);simpa using this
def Yy (w:World) (e:Ending) (w':World):Prop:=e=.returned (.bool true)/\Below w.heap.size w w'
def Ww (b:Bool) (w:World) (e:Ending) (w':World):Prop:=e=.returned (.bool b)/\w=w'
end
section
open Go.RowKit
open Limb (limb AK upto upto_succ Az AA)
theorem Zp (a:Nat) (h:L a<=2):a/4294967296<4294967296:=by
 have h1:=Nat.lt_of_lt_of_le (J6 a) (Limb.pow_mono h);have:(4294967296:Nat)^2=4294967296*4294967296:=by rfl
 rw[this]at h1;exact Nat.div_lt_of_lt_mul h1
end
end Go.Proofs.YtgohmojcopajoaaGreatDoor.Nu
namespace Go.Proofs.YtgohmojcopajoaaGreatDoor.Dec
section
def low (N:Nat):Nat->List Nat
 |0=>[]
 |k+1=>(48+N/10^k%10)::low N k
def Zq (N k:Nat):Prop:=1<=k/\N<10^k/\(k=1\/10^(k-1)<=N)
def upto (d:Nat->Nat):Nat->Nat
 |0=>0
 |i+1=>upto d i*10+d i
theorem upto_lt (d:Nat->Nat) (i:Nat) (h:∀j,j<i->d j<=9):upto d i<10^i:=by
 induction i with
 |zero=>simp[upto]
 |succ i ih=> have h1:=ih (fun j hj=>h j (by omega));have h2:=h i (by omega);rw[upto,Nat.pow_succ];omega
theorem limbs_room (i:Nat):10^i<4294967296^(i/9+1):=by
 have h1:i<=9*(i/9+1):=by omega
 have h2:10^i<=10^(9*(i/9+1)):=Nat.pow_le_pow_right (by omega) h1;refine Nat.lt_of_le_of_lt h2 ?_;rw[Nat.pow_mul];exact Nat.pow_lt_pow_left (by omega) (by omega)
end
end Go.Proofs.YtgohmojcopajoaaGreatDoor.Dec
namespace Go.Proofs.YtgohmojcopajoaaGreatDoor.Nu
section
open Go.RowKit
open Limb (limb AK upto upto_succ Az AA)
def J8 (g f p:Nat) (zs:List Nat) (w:World) (k c:Nat) (wr:World):Prop:=
 ∃cur:List Nat,cur.length=zs.length/\Limb.Ok cur/\Row wr g cur/\Ai g w wr/\(∀t,k<=t->limb cur t=limb zs t)/\upto cur k+4294967296^k*c=upto zs k*f+p
theorem J8.start (g f p:Nat) (zs:List Nat) (w:World) (hz:Limb.Ok zs) (hr:Row w g zs):J8 g f p zs w 0 p w:=
 ⟨zs,rfl,hz,hr,Ai.refl g w,fun _ _=>rfl,by rw[AA,Nat.pow_zero];omega⟩
theorem Wx (U V B z f p s c c':Nat) (h:U+B*c=V*f+p) (hs:s+4294967296*c'=z*f+c):U+B*s+B*4294967296*c'=(V+B*z)*f+p:=by
 have e1:B*(s+4294967296*c')=B*(z*f+c):=by rw[hs]
 rw[Nat.mul_add,Nat.mul_add]at e1;rw[Nat.add_mul,Nat.mul_assoc B z f,Nat.mul_assoc B 4294967296 c'];omega
theorem J8.at_ {g f p:Nat} {zs:List Nat} {w:World} {k c:Nat} {wr:World} (h:J8 g f p zs w k c wr) (hk:k<zs.length) (hok:Limb.Ok zs) :
   ∃z:Nat,z<4294967296/\wr.cell? ⟨g,k,none⟩=some (.int .u32 (z:Int))/\wr.frozen? ⟨g,k,none⟩=false /\
     ∀s c':Nat,s<4294967296->s+4294967296*c'=z*f+c->J8 g f p zs w (k+1) c' (wr.setCell ⟨g,k,none⟩ (.int .u32 (s:Int))):=by
 obtain ⟨cur,hl,ho,hr,hon,he,hv⟩:=h;refine ⟨limb zs k,AK hok k,?_,hr.frozen _,fun s c' hs hsc=>?_⟩
 · rw[hr.cell (i:=k) (by omega),<-he k (Nat.le_refl _)];rfl
 · refine ⟨cur.set k s,by simp[hl],ho.set k s hs,hr.set_ _ _,hon.setCell _ _,fun t ht=>?_,?_⟩
   · rw[MV _ _ _ _ (by omega)];exact he t (by omega)
   · rw[upto_succ,upto_succ,Te,Kj _ _ _ (by omega),Nat.pow_succ];exact Wx _ _ _ _ _ _ _ _ _ hv hsc
def Tf (g f p:Nat) (zs:List Nat) (w:World) (e:Ending) (w':World):Prop:=
 ∃(cur:List Nat) (cy:Nat),e=.returned (.tuple #[])/\cur.length=zs.length/\Limb.Ok cur/\Row w' g cur/\Ai g w w'/\Hid (Limb.val cur+4294967296^zs.length*cy=Limb.val zs*f+p)
theorem QL (g c f p:Nat) (zs:List Nat) (w:World) (hr:Row w g zs) (hz:Limb.Ok zs) (hc:zs.length<=4611686018427387904) (hf:f<4294967296) (hp:p<4294967296) :
  Calls Tryz.prog 155 #[.slice (some ⟨g,0,none⟩) zs.length c,.int .u32 (f:Int),.int .u32 (p:Int)] w (Tf g f p zs w):=by
 have R:=Aa (J8.start g f p zs w hz hr);obtain ⟨m,hm⟩:∃m,zs.length=m:=⟨_,rfl⟩;have HM:=Aa hm;rw[hm]at hc ⊢;clear hr hm;go_enter Tryz.func155,Tryz.ntmps155;go_wp2_with fail;go_loopw [6,13] (fun c i wr=>∃k z:Nat,k<=m/\z<4294967296/\i=.int .i64 (k:Int)/\c=.int .u64 (z:Int)/\Hid (J8 g f p zs w k z wr)) (fun _ i _=>m-(intOf i).toNat)
 case atStart=>exact ⟨0,p,Nat.zero_le _,hp,rfl,rfl,R⟩
 case round=>
  clear R;obtain ⟨k,z,hk,hz1,rfl,rfl,R⟩:=hrel;by_cases hkm:k<m
  · obtain ⟨zz,hzz,hcell,hfroz,hstep⟩:=R.out.at_ (by rw[HM.out];exact hkm) hz;have hpn:=IY _ _ hzz hf;obtain ⟨hp1,hp2,hp3⟩:=J3 _ _ hzz hf;have HP:=Lib.hid hp3;have HS:=Aa hstep;clear hstep hp3;go_wp2_with fail;have es:((z:Int)+(zz:Int)*(f:Int))%4294967296=(((zz*f+z)%4294967296:Nat):Int):=(by have:=HP.out;omega);have ec:((z:Int)+(zz:Int)*(f:Int))/4294967296=(((zz*f+z)/4294967296:Nat):Int):=(by have:=HP.out;omega);rw[es,ec];clear es ec;go_roundw
    case rel=>exact ⟨k+1,_,by omega,by omega,by go_num,rfl,HS.out _ _ (by omega) (by omega)⟩
    case measure=>simp[intOf];omega
  · obtain rfl:k=m:=(by omega);clear hkm;go_wp2_with fail;go_end0
    obtain ⟨cur,hl,ho,hr,hon,-,hv⟩:=R.out;exact ⟨cur,z,rfl,hl,ho,hr,hon,by show _=_;rw[Az cur k (by rw[hl,HM.out];exact Nat.le_refl _),Az zs k (by rw[HM.out];exact Nat.le_refl _)]at hv;rw[HM.out];exact hv⟩
def Ad (s:ByteArray) (i:Nat):Nat:=if h:i<s.size then (s[i]'h).toNat else 0
theorem Bp (s:ByteArray) (i:Nat) (h:i<s.size):Ad s i=(s[i]'h).toNat:=by unfold Ad;rw[dif_pos h]
theorem Dy (s:ByteArray) (i:Nat):Ad s i<256:=by
 unfold Ad;split
 · exact UInt8.toNat_lt _
 · omega
def CW (s:ByteArray):Prop:=∀i,i<s.size->48<=Ad s i/\Ad s i<=57
theorem Dh (s:ByteArray):s.toList.isEmpty=decide (s.size=0):=by
 rw[Lib.toList_data];have h:s.data.toList.length=s.size:=by simp
 cases hl:s.data.toList with
 |nil=>rw[hl]at h;simp at h;simp[<-h]
 |cons x xs=>rw[hl]at h;simp at h;rw[decide_eq_false (by omega)];rfl
theorem G9 (s:ByteArray) (b:Bool) (w:World) (hs:s.size<=4611686018427387904) (hb:b=true↔CW s/\s.size≠0) :
  Calls Tryz.prog 154 #[.string s] w (SU b w):=by
 have HB:=Aa hb;clear hb;go_enter Tryz.func154,Tryz.ntmps154;go_wp2_with fail;go_loop [3,6] (fun _ i=>∃k:Nat,k<=s.size/\i=.int .i64 (k:Int)/\Hid (∀j,j<k->48<=Ad s j/\Ad s j<=57)) (fun _ i=>s.size-(intOf i).toNat)
 case atStart=>exact ⟨0,Nat.zero_le _,rfl,fun j hj=>absurd hj (by omega)⟩
 case round=>
  obtain ⟨k,hk,rfl,HD⟩:=hrel;by_cases hkn:k<s.size
  · have hbe:=Bp s k hkn;by_cases hd:48<=Ad s k/\Ad s k<=57
    · have hd2:=Aa hd;rw[hbe]at hd;have g1:(48:Int)<=((s[k]'hkn).toNat:Int):=(by omega);have g2:((s[k]'hkn).toNat:Int)<=57:=(by omega);clear hd hbe;go_wp2_with fail;go_round
      case rel=>exact ⟨k+1,by omega,by go_num,fun j hj=>by
        rcases Nat.eq_or_lt_of_le (Nat.le_of_lt_succ hj) with h|h
        · subst h;exact hd2.out
        · exact HD.out j h⟩
      case measure=>simp[intOf];omega
    · have hb0:b=false:=by
        cases b with
        |false=>rfl
        |true=>exact absurd ((HB.out.1 rfl).1 k hkn) hd
      subst hb0;rw[hbe]at hd;by_cases g1:(48:Int)<=((s[k]'hkn).toNat:Int)
      · have g2:¬((s[k]'hkn).toNat:Int)<=57:=(by omega);clear hd hbe;go_wp2_with fail;go_ret
        exact ⟨rfl,0,rfl⟩
      · clear hd hbe;go_wp2_with fail;go_ret
        exact ⟨rfl,0,rfl⟩
  · obtain rfl:k=s.size:=(by omega);go_wp2_with fail;go_ret
    refine ⟨?_,0,rfl⟩;show Ending.returned (.bool (!s.toList.isEmpty))=_;rw[Dh];by_cases h0:s.size=0
    · have hb0:b=false:=by
        cases b with
        |false=>rfl
        |true=>exact absurd h0 (HB.out.1 rfl).2
      rw[hb0,decide_eq_true h0];rfl
    · rw[HB.out.2 ⟨fun i hi=>HD.out i hi,h0⟩,decide_eq_false h0];rfl
end
section
open Go.RowKit
def Kk (s:ByteArray):Prop:=0<s.size/\Ad s 0=45
instance (s:ByteArray):Decidable (Kk s):=by unfold Kk;infer_instance
theorem head_eq (s:ByteArray) (h:0<s.size):((s.extract 0 1).toList==[45])=decide (Ad s 0=45):=by
 rw[Lib.toList_data,Bp s 0 h];have hl:0<s.data.toList.length:=by simpa using h
 obtain ⟨x,xs,hx⟩:∃x xs,s.data.toList=x::xs:=by
   cases hd:s.data.toList with
   |nil=>rw[hd]at hl;simp at hl
   |cons x xs=>exact ⟨x,xs,rfl⟩
 have e1:(s.extract 0 1).data.toList=[x]:=by simp[hx]
 have e2:s[0]=x:=by
   have:s[0]=s.data.toList[0]:=by simp[ByteArray.getElem_eq_getElem_data]
   rw[this];simp[hx]
 rw[e1,e2,Bool.eq_iff_iff];simp only[beq_iff_eq,decide_eq_true_eq,List.cons.injEq,and_true];constructor
 · rintro rfl;rfl
 · intro h;rw[<-UInt8.toNat_inj];exact h
def PY (b:Bool) (w:World) (e:Ending) (w':World):Prop:=e=.returned (.bool b)/\w=w'
theorem MZ (s:ByteArray) (w:World) (h:Kk s):Calls Tryz.prog 171 #[.string s,.string ⟨#[45]⟩] w (PY true w):=by
 have he:=Aa (head_eq s h.1);rw[decide_eq_true h.2]at he;have h0:=h.1;go_enter Tryz.func171,Tryz.ntmps171;go_wp2_with fail;go_ret
 refine ⟨?_,rfl⟩;show Ending.returned (.bool ((s.extract 0 1).toList==[45]))=_;rw[he.out]
theorem Ow (s:ByteArray) (w:World) (h:¬Kk s):Calls Tryz.prog 171 #[.string s,.string ⟨#[45]⟩] w (PY false w):=by
 rcases Nat.eq_zero_or_pos s.size with h0|h0
 · clear h;go_enter Tryz.func171,Tryz.ntmps171;go_wp2_with fail;go_ret
   exact ⟨rfl,rfl⟩
 · have he:=Aa (head_eq s h0);rw[decide_eq_false (fun h1=>h ⟨h0,h1⟩)]at he;clear h;go_enter Tryz.func171,Tryz.ntmps171;go_wp2_with fail;go_ret
   refine ⟨?_,rfl⟩;show Ending.returned (.bool ((s.extract 0 1).toList==[45]))=_;rw[he.out]
def body (s:ByteArray):ByteArray:=if Kk s then s.extract 1 s.size else s
def Kl (s:ByteArray):Bool:=decide (Kk s)
def Ma (s:ByteArray) (w:World) (e:Ending) (w':World):Prop:=e=.returned (.tuple #[.string (body s),.bool (Kl s)])/\w=w'
theorem Na (s:ByteArray) (w:World) (hs:s.size<=9223372036854775807):Calls Tryz.prog 153 #[.string s,.string ⟨#[45]⟩] w (Ma s w):=by
 by_cases h:Kk s
 · have H:=Aa h;have h0:=h.1;clear h;go_enter Tryz.func153,Tryz.ntmps153;go_wp2_with fail;refine (MZ s w H.out).mono ?_;rintro e w' ⟨rfl,rfl⟩;go_wp2_with fail;go_ret2
   refine ⟨?_,rfl⟩;unfold body Kl;rw[if_pos H.out,decide_eq_true H.out];rfl
 · have H:=Aa h;clear h;go_enter Tryz.func153,Tryz.ntmps153;go_wp2_with fail;refine (Ow s w H.out).mono ?_;rintro e w' ⟨rfl,rfl⟩;go_wp2_with fail;go_ret2
   refine ⟨?_,rfl⟩;unfold body Kl;rw[if_neg H.out,decide_eq_false H.out];rfl
theorem UZ (s:ByteArray) (w:World) (hs:s.size<=9223372036854775807):Calls Tryz.prog 121 #[.string s,.string ⟨#[45]⟩] w (Ma s w):=by
 go_enter Tryz.func121,Tryz.ntmps121;go_wp2_with fail;refine (Na s w hs).mono ?_;rintro e w' ⟨rfl,rfl⟩;go_wp2_with fail;go_ret2
 exact ⟨rfl,rfl⟩
end
end Go.Proofs.YtgohmojcopajoaaGreatDoor.Nu
namespace Go.Proofs.YtgohmojcopajoaaGreatDoor.Limb
section
def bl (n:Nat):Nat:=if n=0 then 0 else Nat.log2 n+1
theorem Mb (n:Nat) (h:0<n):bl n=bl (n/2)+1:=by
 unfold bl;rw[if_neg (by omega)];by_cases h1:n=1
 · subst h1;rfl
 · rw[if_neg (by omega),Nat.log2_def n,if_pos (by omega)]
theorem Xv (n:Nat):n<2^bl n:=by
 induction n using Nat.strongRecOn with
 |_ n ih=>
  rcases Nat.eq_zero_or_pos n with h|h
  · subst h;decide
  · rw[Mb n h,Nat.pow_succ];have:=ih (n/2) (by omega);omega
theorem bl_spec (n k:Nat) (h1:2^k<=n) (h2:n<2^(k+1)):bl n=k+1:=by
 induction k generalizing n with
 |zero=>
  have:n=1:=by simp at h1 h2;omega
  subst this;rfl
 |succ k ih=> rw[Nat.pow_succ]at h1 h2;have hp:0<2^k:=Nat.two_pow_pos k;have h3:2^(k+1)=2^k*2:=Nat.pow_succ ..;rw[Mb n (by omega),ih (n/2) (by omega) (by omega)]
theorem VP (n:Nat) (h:0<n):∃k,bl n=k+1/\2^k<=n:=by
 induction n using Nat.strongRecOn with
 |_ n ih=>
  by_cases h1:n=1
  · subst h1;exact ⟨0,rfl,by decide⟩
  · obtain ⟨k,hk,hle⟩:=ih (n/2) (by omega) (by omega);refine ⟨k+1,by rw[Mb n h,hk],?_⟩;rw[Nat.pow_succ];omega
theorem Wy (x t j:Nat) (hx:x<2^j) (ht:0<t):bl (x+2^j*t)=j+bl t:=by
 obtain ⟨k,hk,hle⟩:=VP t ht;have hlt:=Xv t;rw[hk]at hlt;rw[hk,<-Nat.add_assoc];apply bl_spec
 · rw[Nat.pow_add];have:=Nat.mul_le_mul_left (2^j) hle;omega
 · rw[Nat.add_assoc,Nat.pow_add];have h1:2^j*(t+1)<=2^j*2^(k+1):=Nat.mul_le_mul_left _ hlt;rw[Nat.mul_add]at h1;omega
theorem bl_le (n k:Nat) (h:n<2^k):bl n<=k:=by
 rcases Nat.eq_zero_or_pos n with h0|h0
 · subst h0;exact Nat.zero_le _
 · obtain ⟨j,hj,hle⟩:=VP n h0;rw[hj];exact (Nat.pow_lt_pow_iff_right (by omega)).1 (Nat.lt_of_le_of_lt hle h)
theorem Ti (xs:List Nat) (h:Ok xs) (k:Nat):val xs/4294967296^k%4294967296=limb xs k:=by
 induction xs generalizing k with
 |nil=>simp[val,limb]
 |cons x xs ih=>
  have hx:x<4294967296:=h x (by simp);have hxs:Ok xs:=fun y hy=>h y (by simp[hy])
  cases k with
  |zero=>simp[val,limb];omega
  |succ k=> have h1:val (x::xs)/4294967296=val xs:=(by simp only[val];omega);have h2:limb (x::xs) (k+1)=limb xs k:=(by simp[limb]);rw[Nat.pow_succ,Nat.mul_comm,<-Nat.div_div_eq_div_mul,h1,h2];exact ih hxs k
theorem QM (u s:Nat) (hs:s<32):u%4294967296/2^s%2=u/2^s%2:=by
 have h:=Nat.testBit_mod_two_pow u 32 s;rw[Nat.testBit_eq_decide_div_mod_eq,Nat.testBit_eq_decide_div_mod_eq]at h;have e:(2:Nat)^32=4294967296:=by decide
 rw[e]at h;simp only[hs,decide_true,Bool.true_and,decide_eq_decide]at h;have h1:=Nat.mod_two_eq_zero_or_one (u%4294967296/2^s);have h2:=Nat.mod_two_eq_zero_or_one (u/2^s);omega
theorem It (j:Nat):(4294967296:Nat)^j=2^(32*j):=by rw[Nat.pow_mul]
theorem digit (xs:List Nat) (h:Ok xs) (i:Nat):limb xs (i/32)/2^(i%32)%2=val xs/2^i%2:=by rw[<-Ti xs h (i/32),QM _ _ (Nat.mod_lt _ (by decide)),It,Nat.div_div_eq_div_mul,<-Nat.pow_add,Nat.div_add_mod]
theorem bl_limbs (xs:List Nat) (k:Nat) (h:Ok xs) (hk:xs.length=k+1) (ht:0<limb xs k):bl (val xs)=32*k+bl (limb xs k):=by
 have h1:val xs=upto xs k+4294967296^k*limb xs k:=by rw[<-upto_succ,Az xs (k+1) (by omega)]
 have h2:upto xs k<2^(32*k):=by have:=val_lt (xs.take k) (h.take k);rw[List.length_take,Nat.min_eq_left (by omega)]at this;rw[<-It];exact this
 rw[h1,It];exact Wy _ _ _ h2 ht
end
end Go.Proofs.YtgohmojcopajoaaGreatDoor.Limb
namespace Go.Proofs.YtgohmojcopajoaaGreatDoor.Limb
def YJ (a r:Nat):Prop:=∀s,s*s<=a->s<=r
def Xw (n r p:Nat):Prop:=r*r<=n/\n<(r+p)*(r+p)/\r%p=0/\r+p<=4294967296
theorem bl_eq_zero (n:Nat):bl n=0↔n=0:=by unfold bl;split<;>simp_all
def VQ (B:Nat):List Nat->List Nat
 |[]=>[]
 |x::xs=>(x/2+xs.headD 0%2*B)::VQ B xs
def half (xs:List Nat):List Nat:=VQ 2147483648 xs
end Go.Proofs.YtgohmojcopajoaaGreatDoor.Limb
namespace Go.Proofs.YtgohmojcopajoaaGreatDoor.Nu
end Go.Proofs.YtgohmojcopajoaaGreatDoor.Nu
namespace Go.Proofs.YtgohmojcopajoaaGreatDoor.Nu
section
open Go.RowKit
theorem QN (x:Nat) (h0:x≠0) (h:x<4294967296):Limb.canon x=[x]:=by
 rw[Limb.canon_pos x h0];have e1:x%4294967296=x:=by omega
 have e2:x/4294967296=0:=by omega
 rw[e1,e2,Limb.canon_zero]
theorem YK (w:World) (x N:Nat) (us:Array Value) (hus:us=(Ch [x]).toArray) (h0:x≠0) (h:x<4294967296) (hN:x=N):Nums (w.alloc (.cells us 173)) (some ⟨w.heap.size,0,none⟩) 1 (Limb.canon N):=by subst hN;rw[QN x h0 h];exact Nums.new w [x] us hus (Limb.Ok.cons h Limb.Ok.nil) 1 rfl
theorem Bj {w:World} {A:Option Addr} {n N k:Nat} (h:Nums w A n (Limb.canon N)) (hN:N<4294967296^k):n<=k:=by rw[<-h.len];exact Limb.canon_len_le N k hN
end
section
open Go.RowKit
open Limb (limb AK upto upto_succ Az AA)
structure Wz (a b half n m:Nat):Prop where
 a0:L (a%4294967296^half)<=half
 b0:L (b%4294967296^half)<=half
 sa:L (a%4294967296^half+a/4294967296^half)<=half+1
 sb:L (b%4294967296^half+b/4294967296^half)<=half+1
 low:L (a%4294967296^half*(b%4294967296^half))<=2*half
 high:L (a/4294967296^half*(b/4294967296^half))<=n+m-2*half
 le1:a%4294967296^half*(b%4294967296^half)<=(a%4294967296^half+a/4294967296^half)*(b%4294967296^half+b/4294967296^half)
 le2:a/4294967296^half*(b/4294967296^half)<=(a%4294967296^half+a/4294967296^half)*(b%4294967296^half+b/4294967296^half)-a%4294967296^half*(b%4294967296^half)
 all:a%4294967296^half*(b%4294967296^half)+4294967296^(2*half)*(a/4294967296^half*(b/4294967296^half)) +
  4294967296^half*((a%4294967296^half+a/4294967296^half)*(b%4294967296^half+b/4294967296^half)-a%4294967296^half*(b%4294967296^half)-a/4294967296^half*(b/4294967296^half))=a*b
 lt:a*b<4294967296^(n+m)
 mid:(a%4294967296^half+a/4294967296^half)*(b%4294967296^half+b/4294967296^half)≠0
theorem YL (p a0 a1 b0 b1:Nat):a0*b0+p*p*(a1*b1)+p*((a0+a1)*(b0+b1)-a0*b0-a1*b1)=(a0+p*a1)*(b0+p*b1):=by
 have e:(a0+a1)*(b0+b1)=a0*b0+a0*b1+(a1*b0+a1*b1):=by rw[Nat.add_mul,Nat.mul_add,Nat.mul_add]
 have e2:(a0+a1)*(b0+b1)-a0*b0-a1*b1=a0*b1+a1*b0:=by omega
 rw[e2,Nat.add_mul,Nat.mul_add,Nat.mul_add,Nat.mul_add];have e3:a0*(p*b1)=p*(a0*b1):=Nat.mul_left_comm _ _ _;have e4:p*a1*b0=p*(a1*b0):=Nat.mul_assoc _ _ _;have e5:p*a1*(p*b1)=p*p*(a1*b1):=by rw[Nat.mul_assoc,Nat.mul_left_comm a1 p b1,<-Nat.mul_assoc]
 rw[e3,e4,e5];omega
theorem W8 (a b half n m:Nat) (hn:n=L a) (hm:m=L b) (hna:half<n) (hnb:half<m) (h2:n<=2*half) (hmn:m<=n):Wz a b half n m:=by
 have ha0:a%4294967296^half<4294967296^half:=Nat.mod_lt _ (Nat.pow_pos (by omega));have hb0:b%4294967296^half<4294967296^half:=Nat.mod_lt _ (Nat.pow_pos (by omega));have la1:=Tc a half;have lb1:=Tc b half;have ha1:a/4294967296^half<4294967296^half:=Nat.lt_of_lt_of_le (J6 _) (Limb.pow_mono (by omega));have hb1:b/4294967296^half<4294967296^half:=Nat.lt_of_lt_of_le (J6 _) (Limb.pow_mono (by omega));have ea:=Nat.mod_add_div a (4294967296^half)
 have eb:=Nat.mod_add_div b (4294967296^half);have l0:=MX (a%4294967296^half) (b%4294967296^half);have l1:=MX (a/4294967296^half) (b/4294967296^half);have la0:L (a%4294967296^half)<=half:=MW ha0;have lb0:L (b%4294967296^half)<=half:=MW hb0;have hall:=YL (4294967296^half) (a%4294967296^half) (a/4294967296^half) (b%4294967296^half) (b/4294967296^half);rw[ea,eb,<-Nat.pow_add]at hall;have e2:half+half=2*half:=by omega
 rw[e2]at hall;have hexp:∀x y z t:Nat,(x+y)*(z+t)=x*z+x*t+(y*z+y*t):=fun x y z t=>by rw[Nat.add_mul,Nat.mul_add,Nat.mul_add]
 have hle:=hexp (a%4294967296^half) (a/4294967296^half) (b%4294967296^half) (b/4294967296^half);refine ⟨la0,lb0,MW (add_lt _ _ _ ha0 ha1),MW (add_lt _ _ _ hb0 hb1),by omega,by omega,by rw[hle];omega,by rw[hle];omega,hall,by rw[hn,hm];exact CB a b _ _ (J6 a) (J6 b),?_⟩;intro h0;have ha:a≠0:=by intro h;subst h;rw[Tb]at hn;omega
 have hb:b≠0:=by intro h;subst h;rw[Tb]at hm;omega
 have hab:a*b≠0:=Nat.mul_ne_zero ha hb;rcases Nat.mul_eq_zero.1 h0 with h|h
 · obtain ⟨e1,e2⟩:=Nat.add_eq_zero_iff.1 h;rw[e1,e2,Nat.mul_zero]at ea;exact ha ea.symm
 · obtain ⟨e1,e2⟩:=Nat.add_eq_zero_iff.1 h;rw[e1,e2,Nat.mul_zero]at eb;exact hb eb.symm
theorem YM (P Q X half k:Nat) (hk:half<=k) (h:P+4294967296^(2*half)*Q+4294967296^half*X<4294967296^k):X<4294967296^(k-half):=by
 have e:4294967296^k=4294967296^half*4294967296^(k-half):=by rw[<-Nat.pow_add];congr 1;omega
 rw[e]at h;refine Nat.lt_of_mul_lt_mul_left (a:=4294967296^half) ?_;exact Nat.lt_of_le_of_lt (Nat.le_add_left _ _) h
theorem PZ (zs:List Nat) (ws:List Nat) (h:ws.length<=zs.length):win (put zs 0 ws) 0 ws.length=ws:=by unfold win put;simp
theorem Va (zs:List Nat) (us ws:List Nat) (h:us.length=ws.length):put (put zs 0 us) 0 ws=put zs 0 ws:=by unfold put;simp[h]
theorem Eb (A B:Option Addr) (n c m d a b half:Nat) (w:World) (IH:Ej (n+m)) (hx:Nums w A n (Limb.canon a)) (hc:n<=c) (hm:c<=9223372036854775807) (hy:Nums w B m (Limb.canon b)) (hd:m<=d) (hmd:d<=9223372036854775807) (h39:n+m<=549755813888)
  (hna:half<n) (hnb:half<m) (h2:n<=2*half) (h2':2*half<=n+1) (hmn:m<=n) (h48:48<=m) :
  Calls Tryz.prog 194 #[.slice A n c,.slice B m d,.int .i64 (half:Int)] w (DJ (a*b) w):=by
 have HH:=Aa (W8 a b half n m hx.len.symm hy.len.symm hna hnb h2 hmn);have IHH:=Aa IH;clear IH;have f2:(half:Int)<=(n:Int):=by omega
 have f2b:(half:Int)<=(m:Int):=by omega
 have f4:(c=half)=False:=by simp;omega
 have f4b:(d=half)=False:=by simp;omega
 go_enter Tryz.func194,Tryz.ntmps194;go_wp2_with fail;go_quiet ((go_at_call 207;exact Og (Hp A n c half a _ (hx.drewN _) (by omega) hc hm)))
 go_wp2_with fail;go_quiet ((go_at_call 207;exact FK (Hp B m d half b _ (hy.drewN _) (by omega) hd hmd)))
 go_wp2_with fail;have hA0:=Lg A n half a w hx (by omega);have hB0:=Lg B m half b w hy (by omega);have hA1:=J7 A n c half a w hx hna hc;have hB1:=J7 B m d half b w hy hnb hd;have i1:=HH.out.a0;have i2:=HH.out.b0;have i3:=HH.out.sa;have i4:=HH.out.sb;have i5:=HH.out.low;have i6:=HH.out.high;have HLE1:=Aa HH.out.le1;have HLE2:=Aa HH.out.le2;have HALL:=Aa HH.out.all;have HLT:=Aa HH.out.lt;have HMID:=Aa HH.out.mid;generalize a%4294967296^half=a0 at *
 generalize a/4294967296^half=a1 at *;generalize b%4294967296^half=b0 at *;generalize b/4294967296^half=b1 at *;clear hx hy HH;have t0:=Ao w;refine (IHH.out (IG A a0) (IG B b0) (L a0) (L a0) (L b0) (L b0) a0 b0 (w.drewN _) (by omega) (hA0.below (t0 _)) (Nat.le_refl _) (by omega) (hB0.below (t0 _)) (Nat.le_refl _) (by omega) (by omega)).mono ?_;rintro e w1 ⟨A1,n1,rfl,o1,b1w⟩;have t1:=(t0 _).next b1w;clear t0;clear b1w;have l1:n1<=2*half:=by rw[o1.len];exact i5
 go_wp2_with fail;refine (IHH.out (A.map (·.add half)) (B.map (·.add half)) (n-half) (c-half) (m-half) (d-half) a1 b1 _ (by omega) (hA1.below t1) (by omega) (by omega) (hB1.below t1) (by omega) (by omega) (by omega)).mono ?_;rintro e w2 ⟨A2,n2,rfl,o2,b2⟩;have t2:=t1.next b2;have l2:n2<=n+m-2*half:=by rw[o2.len];exact i6
 go_wp2_with fail;refine (LX (IG A a0) (A.map (·.add half)) (L a0) (L a0) (n-half) (c-half) _ _ _ (hA0.below t2) (Nat.le_refl _) (by omega) (by omega) (hA1.below t2) (by omega) (by omega) (by omega)).mono ?_;rintro e w3 ⟨A3,n3,rfl,o3,b3⟩;rw[Limb.val_canon,Limb.val_canon]at o3;have t3:=t2.next b3;have l3:n3<=half+1:=by rw[o3.len];exact i3
 go_wp2_with fail;refine (LX (IG B b0) (B.map (·.add half)) (L b0) (L b0) (m-half) (d-half) _ _ _ (hB0.below t3) (Nat.le_refl _) (by omega) (by omega) (hB1.below t3) (by omega) (by omega) (by omega)).mono ?_;rintro e w4 ⟨A4,n4,rfl,o4,b4⟩;rw[Limb.val_canon,Limb.val_canon]at o4;have t4:=t3.next b4;have l4:n4<=half+1:=by rw[o4.len];exact i4
 go_wp2_with fail;refine (IHH.out A3 A4 n3 _ n4 _ (a0+a1) (b0+b1) _ (by omega) (o3.nums.below b4) (Nat.le_refl _) (by omega) o4.nums (Nat.le_refl _) (by omega) (by omega)).mono ?_;rintro e w5 ⟨A5,n5,rfl,o5,b5⟩;have t5:=t4.next b5;have l5:n5<=2*half+2:=by have h1:=MX (a0+a1) (b0+b1);rw[o5.len];unfold L at h1 i3 i4;omega
 have low5:=o1.nums.below ((b2.next b3).next (b4.next b5));have high5:=o2.nums.below ((b3.next b4).next b5);have low4:=o1.nums.below ((b2.next b3).next b4);have high4:=o2.nums.below (b3.next b4);have hl15:n1<=n5:=by rw[o1.len,o5.len];exact Ta HLE1.out
 have hl25:n2<=n5:=by rw[o2.len,o5.len];exact Ta (Nat.le_trans HLE2.out (Nat.sub_le _ _))
 have hrow:=o5.trimRow.2 HMID.out;obtain ⟨g,zs,rfl,hg,hr5,hzok,hzl,hwin⟩:=hrow;have HW:=Lib.hid hwin;have hg5:w.heap.size<=g:=by have:=t4.size;omega
 clear hwin b2 b3 b4 b5 t1 t2 t3 t4 o3 o4 hA0 hB0 hA1 hB1;have hM:=J6 ((a0+a1)*(b0+b1));have e5:L ((a0+a1)*(b0+b1))=n5:=o5.len.symm;rw[e5]at hM;have HM:=Aa hM;clear e5 hM o1 o2 o5 i1 i2 i3 i4 i5 i6 l3 l4;generalize a0*b0=P at *;generalize a1*b1=Q at *;generalize (a0+a1)*(b0+b1)=M at *;have HX:=Aa (YM P Q (M-P-Q) half (n+m) (by omega) (by rw[HALL.out];exact HLT.out));go_wp2_with fail
 refine (Fx g 0 n5 _ zs A1 n1 n1 (Limb.canon P) w5 hr5 hzok (by omega) (by omega) low5 hl15 (fun h=>low4.apart h hg) (by rw[HW.out,Limb.val_canon,Limb.val_canon];exact HLE1.out)).mono ?_;rintro e w6 ⟨rfl,hr6,ho6⟩;rw[HW.out,Limb.val_canon,Limb.val_canon]at hr6;have low6:=low5.grown' ho6 (fun h=>low4.apart h hg);have high6:=high5.grown' ho6 (fun h=>high4.apart h hg);have hf1:(Limb.fixed n5 (M-P)).length=n5:=Limb.fixed_length _ _
 have hw2:win (put zs 0 (Limb.fixed n5 (M-P))) 0 n5=Limb.fixed n5 (M-P):=by have:=PZ zs (Limb.fixed n5 (M-P)) (by rw[hf1];exact hzl);rwa [hf1]at this
 have hv2:Limb.val (win (put zs 0 (Limb.fixed n5 (M-P))) 0 n5)=M-P:=by rw[hw2,Limb.fixed_val,Nat.mod_eq_of_lt (Nat.lt_of_le_of_lt (Nat.sub_le _ _) HM.out)]
 have HV2:=Lib.hid hv2;have hl2:(put zs 0 (Limb.fixed n5 (M-P))).length=zs.length:=Bo _ _ _ (by rw[hf1];omega);have HL2:=Lib.hid hl2;have HF1:=Lib.hid hf1;clear hf1 hw2 hv2 hl2;have hf2:n5<=4611686018427387904:=by omega
 go_wp2_with fail;refine (Fx g 0 n5 _ _ A2 n2 n2 (Limb.canon Q) w6 hr6 (Fw hzok _ (Limb.fixed_ok _ _)) (by rw[HL2.out];omega) hf2 high6 hl25 (fun h=>high4.apart h hg) (by rw[HV2.out,Limb.val_canon];exact HLE2.out)).mono ?_;rintro e w7 ⟨rfl,hr7,ho7⟩;rw[HV2.out,Limb.val_canon,Va _ _ _ (by rw[Limb.fixed_length,Limb.fixed_length])]at hr7;have low7:=low6.grown' ho7 (fun h=>low4.apart h hg);have high7:=high6.grown' ho7 (fun h=>high4.apart h hg)
 have t7:Below w.heap.size w w7:=(t5.trans (ho6.below t5.size hg5)).trans (ho7.below (by have:=ho6.size;have:=t5.size;omega) hg5);clear ho6 ho7 hr5 hr6 low5 low6 high5 high6 low4 high4 t5 HV2 HL2 HF1 HW;have hlp:=low7.len;have HLP:=Lib.hid hlp;have hlq:=high7.len;have HLQ:=Lib.hid hlq;clear hlp hlq;have hr1:(put (List.replicate (n+m) 0) 0 (Limb.canon P)).length=n+m:=by rw[Bo _ _ _ (by rw[List.length_replicate,HLP.out];omega),List.length_replicate]
 have HR1:=Lib.hid hr1;clear hr1;have f5:(n+m=2*half)=False:=by simp;omega
 have f6:(2*(half:Int))<=(n:Int)+(m:Int):=by omega
 go_wp2_with (first
  |(at_make;refine BE _ rfl _ _ rfl _ (n+m) rfl rfl (by omega) (by omega) ?_;intro w8 hr8 hb8 hs8)
  |(with_reducible refine BU (o:=⟨some 54,_,_,_,_,_⟩) rfl _ _ rfl w7.heap.size 0 _ _ _ _ n1 n1 rfl (fun _=>rfl) rfl _ _ hr8 (low7.below hb8) (by omega) (by simp;omega) ?_;intro w9 hr9 ho9)
  |(with_reducible refine BU (o:=⟨some 60,_,_,_,_,_⟩) rfl _ _ rfl w7.heap.size (2*half) _ _ _ _ n2 n2 rfl (fun _=>rfl) rfl _ _ hr9 ((high7.below hb8).grown' ho9.gb (fun h=>high7.apart h (Nat.le_refl _))) (by omega) (by rw[HR1.out];omega) ?_;intro w10 hr10 ho10))
 have hv9:Limb.val (put (List.replicate (n+m) 0) 0 (Limb.canon P))=P:=(MY n m n1 P HLP.out.symm (by omega)).2.2;have hP2:P<4294967296^(2*half):=Nat.lt_of_lt_of_le (J6 P) (Limb.pow_mono (by have:=HLP.out;unfold L;omega));have hv10:Limb.val (put (put (List.replicate (n+m) 0) 0 (Limb.canon P)) (2*half) (Limb.canon Q))=P+4294967296^(2*half)*Q:=by rw[Ho _ _ _ (by rw[HR1.out,HLQ.out];omega) (by rw[hv9];exact hP2),hv9,Limb.val_canon]
 have hl10:(put (put (List.replicate (n+m) 0) 0 (Limb.canon P)) (2*half) (Limb.canon Q)).length=n+m:=by rw[Bo _ _ _ (by rw[HR1.out,HLQ.out];omega)];exact HR1.out
 have hk10:Limb.Ok (put (put (List.replicate (n+m) 0) 0 (Limb.canon P)) (2*half) (Limb.canon Q)):=Fw (Fw (Limb.Ok.replicate _) _ (Limb.ok_canon _)) _ (Limb.ok_canon _);have HV10:=Lib.hid hv10;have HL10:=Lib.hid hl10;clear hv9 hP2 hv10 hl10;generalize put (put (List.replicate (n+m) 0) 0 (Limb.canon P)) (2*half) (Limb.canon Q)=zr at *;have t8:Ai w7.heap.size w8 w10:=ho9.trans ho10;have hr7':=((hr7.below hb8 hr7.lt).grown t8.gb (by intro h;injection h with h;have:=hr7.lt;omega))
 have hap:Apart (some ⟨g,0,none⟩) w7.heap.size:=by
  intro ad h;injection h with h
  subst h;have:=hr7.lt;show g≠w7.heap.size;omega
 have hF2:(Limb.fixed n5 (M-P-Q)).length=n5:=Limb.fixed_length _ _;have hn7:Nums w10 (some ⟨g,0,none⟩) n5 (Limb.fixed n5 (M-P-Q)):=by have h1:=hr7'.nums (Fw hzok 0 (Limb.fixed_ok _ _)) (o:=0) (n:=n5) (by rw[Bo _ _ _ (by rw[hF2];omega)];omega);have h2:=PZ zs (Limb.fixed n5 (M-P-Q)) (by rw[hF2];exact hzl);rw[hF2]at h2;unfold win at h2;rw[h2]at h1;exact h1
 have hv7:Limb.val (Limb.fixed n5 (M-P-Q))=M-P-Q:=by rw[Limb.fixed_val,Nat.mod_eq_of_lt];have:=HM.out;omega
 have hcut:=D7 w10 _ _ _ hn7;have hdet:=fun wz=>DN (some ⟨g,0,none⟩) n5 n5 (Limb.fixed n5 (M-P-Q)) wz
 rw[hv7]at hcut hdet;have hd2:=hdet _ hn7.drew (Nat.le_refl _) (by omega);have HCUT:=Aa hcut.2.2.1;have hLX:L (M-P-Q)<=n+m-half:=MW HX.out;have hap2:Apart (IG (some ⟨g,0,none⟩) (M-P-Q)) w7.heap.size:=by
  unfold IG;split
  · intro ad h;cases h
  · exact hap
 clear hdet hcut hF2 hv7 hr7 hap;have f7:(half:Int)<=(n:Int)+(m:Int):=by omega
 have f8:(n+m=half)=False:=by simp;omega
 generalize M-P-Q=X at *;go_region_with (first
  |(go_at_call 152;refine hd2.mono ?_;rintro e w' ⟨rfl,rfl⟩)
  |(go_at_call 160;refine (Ee w7.heap.size half (n+m-half) _ zr _ _ _ _ _ hr10.drew hk10 (by rw[HL10.out];omega) (by omega) HCUT.out.drew hLX (fun _=>hap2)).mono ?_;rintro e w11 ⟨rfl,hr11,ho11⟩))
 go_wp2_with fail;have hfin:Limb.val (put zr half (Limb.fixed (n+m-half) (Limb.val (win zr half (n+m-half))+Limb.val (Limb.canon X))))=a*b:=by rw[PX zr half _ _ (by rw[HL10.out];omega) (by rw[HL10.out,HV10.out,Limb.val_canon,HALL.out];exact HLT.out),HV10.out,Limb.val_canon,HALL.out]
 have hlen:(put zr half (Limb.fixed (n+m-half) (Limb.val (win zr half (n+m-half))+Limb.val (Limb.canon X)))).length=n+m:=by rw[Bo _ _ _ (by rw[Limb.fixed_length,HL10.out];omega)];exact HL10.out
 have hok:=Fw hk10 half (Limb.fixed_ok (n+m-half) (Limb.val (win zr half (n+m-half))+Limb.val (Limb.canon X)));refine (Ck w7.heap.size (n+m) _ (a*b) w.heap.size _ _ hr11 hok (by rw[hlen];exact Nat.le_refl _) (by omega) (by omega) t7.size (by rw[List.take_of_length_le (by rw[hlen];exact Nat.le_refl _)];exact hfin)).mono ?_;rintro e w12 ⟨A',j,rfl,how,rfl⟩;clear hfin hlen hok;go_wp2_with fail;go_ret
 exact ⟨A',j,rfl,how,((t7.next hb8).trans (t8.below (by have:=hb8.size;have:=t7.size;omega) t7.size)).drew.trans (ho11.below (by have:=hb8.size;have:=t7.size;have:=t8.size;show w.heap.size<=w10.heap.size;omega) t7.size)⟩
end
end Go.Proofs.YtgohmojcopajoaaGreatDoor.Nu
