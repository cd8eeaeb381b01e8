/- Texts of one seat, put together: MulD Word Guess DivA. -/
import Derived.Test.YtemfjdedjcjegaaGreatDoorL04
set_option linter.unusedVariables false
set_option linter.unusedSimpArgs false
set_option maxRecDepth 100000
set_option maxHeartbeats 16000000
namespace Go.Proofs.YtemfjdedjcjegaaGreatDoor
section
open Go.RowKit
open Limb (limb AE upto upto_succ Ap Aq)
theorem Ls (k:Nat):∀(A B:Option Addr) (n c m d a b:Nat) (w:World),n+m=k->Am w A n (Limb.canon a)->n<=c->c<=9223372036854775807->Am w B m (Limb.canon b)->m<=d->d<=9223372036854775807->n+m<=549755813888 ->
   Calls Tryz.prog 130 #[.slice A n c,.slice B m d] w (Ck (a*b) w):=by
 induction k using Nat.strongRecOn with
 |ind k ih0=>
 intro A B n c m d a b w hk hx hc hm hy hd hmd h39;have ih:∀j,j<n+m->_:=fun j hj=>ih0 j (by omega)
 clear ih0;clear hk;by_cases hs:n<m
 · have hs2:=hs;by_cases h48:n<48
   · go_enter Tryz.func130,Tryz.ntmps130;go_wp2_with fail;refine (DR B A m d n c _ _ w hy hd hmd (by omega) hx hc hm (by omega)).mono ?_;rintro e w1 ⟨A1,n1,rfl,h3,h4⟩;rw[Limb.val_canon,Limb.val_canon]at h3;go_wp2_with fail;go_ret
     exact ⟨A1,n1,rfl,by rw[Nat.mul_comm a b];exact h3,h4⟩
   · have eh:((m:Int)+1)/2=(((m+1)/2:Nat):Int):=(by omega);have EH:=Lib.hid eh;clear eh;by_cases hh:n<=(m+1)/2
     · have hh1:(n:Int)<=((m:Int)+1)/2:=(by omega);have IHT:DD (m+n):=by
        intro A' B' n' c' m' d' a' b' w' hlt h1 h2 h3 h4 h5 h6 h7;exact ih (n'+m') (by omega) A' B' n' c' m' d' a' b' w' rfl h1 h2 h3 h4 h5 h6 h7
       have IHH:=Ad IHT;clear IHT;go_enter Tryz.func130,Tryz.ntmps130;go_wp2_with fail;rw[EH.out];refine (Eh B A m d n c b a ((m+1)/2) w IHH.out hy hd hmd hx hc hm (by omega) (by omega) (by omega)).mono ?_;rintro e w1 ⟨A1,n1,rfl,h3,h4⟩;go_wp2_with fail;go_ret
       exact ⟨A1,n1,rfl,by rw[Nat.mul_comm a b];exact h3,h4⟩
     · have hh1:¬(n:Int)<=((m:Int)+1)/2:=(by omega);have IHT:DD (m+n):=by
        intro A' B' n' c' m' d' a' b' w' hlt h1 h2 h3 h4 h5 h6 h7;exact ih (n'+m') (by omega) A' B' n' c' m' d' a' b' w' rfl h1 h2 h3 h4 h5 h6 h7
       have IHH:=Ad IHT;clear IHT;go_enter Tryz.func130,Tryz.ntmps130;go_wp2_with fail;rw[EH.out];refine (Dy B A m d n c b a ((m+1)/2) w IHH.out hy hd hmd hx hc hm (by omega) (by omega) (by omega) (by omega) (by omega) (by omega) (by omega)).mono ?_;rintro e w1 ⟨A1,n1,rfl,h3,h4⟩;go_wp2_with fail;go_ret
       exact ⟨A1,n1,rfl,by rw[Nat.mul_comm a b];exact h3,h4⟩
 · have hs2:m<=n:=(by omega);by_cases h48:m<48
   · go_enter Tryz.func130,Tryz.ntmps130;go_wp2_with fail;refine (DR A B n c m d _ _ w hx hc hm (by omega) hy hd hmd (by omega)).mono ?_;rintro e w1 ⟨A1,n1,rfl,h3,h4⟩;rw[Limb.val_canon,Limb.val_canon]at h3;go_wp2_with fail;go_ret
     exact ⟨A1,n1,rfl,h3,h4⟩
   · have eh:((n:Int)+1)/2=(((n+1)/2:Nat):Int):=(by omega);have EH:=Lib.hid eh;clear eh;by_cases hh:m<=(n+1)/2
     · have hh1:(m:Int)<=((n:Int)+1)/2:=(by omega);have IHT:DD (n+m):=by
        intro A' B' n' c' m' d' a' b' w' hlt h1 h2 h3 h4 h5 h6 h7;exact ih (n'+m') (by omega) A' B' n' c' m' d' a' b' w' rfl h1 h2 h3 h4 h5 h6 h7
       have IHH:=Ad IHT;clear IHT;go_enter Tryz.func130,Tryz.ntmps130;go_wp2_with fail;rw[EH.out];refine (Eh A B n c m d a b ((n+1)/2) w IHH.out hx hc hm hy hd hmd (by omega) (by omega) (by omega)).mono ?_;rintro e w1 ⟨A1,n1,rfl,h3,h4⟩;go_wp2_with fail;go_ret
       exact ⟨A1,n1,rfl,h3,h4⟩
     · have hh1:¬(m:Int)<=((n:Int)+1)/2:=(by omega);have IHT:DD (n+m):=by
        intro A' B' n' c' m' d' a' b' w' hlt h1 h2 h3 h4 h5 h6 h7;exact ih (n'+m') (by omega) A' B' n' c' m' d' a' b' w' rfl h1 h2 h3 h4 h5 h6 h7
       have IHH:=Ad IHT;clear IHT;go_enter Tryz.func130,Tryz.ntmps130;go_wp2_with fail;rw[EH.out];refine (Dy A B n c m d a b ((n+1)/2) w IHH.out hx hc hm hy hd hmd (by omega) (by omega) (by omega) (by omega) (by omega) (by omega) (by omega)).mono ?_;rintro e w1 ⟨A1,n1,rfl,h3,h4⟩;go_wp2_with fail;go_ret
       exact ⟨A1,n1,rfl,h3,h4⟩
theorem Lt (A B:Option Addr) (n c m d a b:Nat) (w:World) (hx:Am w A n (Limb.canon a)) (hc:n<=c) (hm:c<=9223372036854775807) (hy:Am w B m (Limb.canon b)) (hd:m<=d) (hmd:d<=9223372036854775807) (h39:n+m<=549755813888) :
  Calls Tryz.prog 130 #[.slice A n c,.slice B m d] w (Ck (a*b) w):=
 Ls (n+m) A B n c m d a b w rfl hx hc hm hy hd hmd h39
theorem R9 (A B:Option Addr) (n c m d:Nat) (xs ys:List Nat) (w:World) (hx:Am w A n xs) (hc:n<=c) (hm:c<=9223372036854775807) (hy:Am w B m ys) (hd:m<=d) (hmd:d<=9223372036854775807) (h39:n+m<=549755813888) :
  Calls Tryz.prog 94 #[.slice A n c,.slice B m d] w (Ck (Limb.val xs*Limb.val ys) w):=by
 have hA:=Bz w A xs n hx;have hB:=Bz w B ys m hy;have h1:=hA.2.1;have h2:=hB.2.1;go_enter Tryz.func94,Tryz.ntmps94;go_wp2_with fail;refine (Bo A n c xs w hx hc hm).mono ?_;rintro e w' ⟨rfl,rfl⟩;go_wp2_with fail;refine (Bo B m d ys w hy hd hmd).mono ?_;rintro e w' ⟨rfl,rfl⟩;go_wp2_with fail;refine (Lt _ _ (L (Limb.val xs)) (L (Limb.val xs)) (L (Limb.val ys)) (L (Limb.val ys)) _ _ w hA.2.2.1 (Nat.le_refl _) (by omega) hB.2.2.1 (Nat.le_refl _) (by omega) (by omega)).mono ?_
 rintro e w1 ⟨A1,n1,rfl,h3,h4⟩;go_wp2_with fail;go_ret
 exact ⟨A1,n1,rfl,h3,h4⟩
end
section
open Go.RowKit
open Limb (limb AE upto upto_succ Ap Aq)
theorem SI (a b:Nat) (ha:a<4294967296) (hb:b<4294967296):bits BinOp.or IntKind.u64 ((a:Int)) ((b:Int)*4294967296)=(a:Int)+(b:Int)*4294967296:=by
 have h1:(b:Int)*4294967296=((b*4294967296:Nat):Int):=by omega
 rw[h1,u64_or_nat a (b*4294967296) (by omega) (by omega),Nat.or_comm,nat_join 32 (b*4294967296) a (by show b*4294967296%4294967296=0;omega) (by show a<4294967296;exact ha)];omega
theorem K4 (a b:Nat) (ha:a<4294967296) (hb:b<4294967296):bits BinOp.or IntKind.u64 ((b:Int)*4294967296) ((a:Int))=(b:Int)*4294967296+(a:Int):=by
 have h1:(b:Int)*4294967296=((b*4294967296:Nat):Int):=by omega
 rw[h1,u64_or_nat (b*4294967296) a (by omega) (by omega),nat_join 32 (b*4294967296) a (by show b*4294967296%4294967296=0;omega) (by show a<4294967296;exact ha)];omega
theorem O5 (a:Nat) (ha:a<4294967296):bits BinOp.or IntKind.u64 0 (a:Int)=(a:Int):=by have h:=u64_or_nat 0 a (by omega) (by omega);rw[Nat.zero_or]at h;exact h
theorem Gd (A:Option Addr) (n c:Nat) (xs:List Nat) (w:World) (hx:Am w A n xs) (hn:n<=2) :
  Calls Tryz.prog 125 #[.slice A n c] w (NV (Limb.val xs:Nat) w):=by
 go_enter Tryz.func125,Tryz.ntmps125;go_wp2_with fail;go_loop [3,8] (fun v i=>∃k z:Nat,k<=n/\i=.int .i64 (k:Int)/\v=.int .u64 (z:Int)/\Hid (z=upto xs k)) (fun _ i=>n-(intOf i).toNat)
 case atStart=>exact ⟨0,0,Nat.zero_le _,rfl,rfl,by show _=_;rw[Aq]⟩
 case round=>
  obtain ⟨k,z,hk,rfl,rfl,HZ⟩:=hrel;by_cases hkn:k<n
  · obtain ⟨b,o,x,rfl,hxl,hxe,hc⟩:=hx.at_ hkn;have HX:=Lib.hid hxe;clear hxe;obtain rfl|rfl:k=0\/k=1:=by omega
    · have hz0:z=0:=(by rw[HZ.out,Aq]);subst hz0;rw[Nat.add_zero]at hc;go_wp2_with fail;rw[O5 x hxl];go_round
      case rel=>exact ⟨1,x,by omega,rfl,rfl,by show _=_;rw[upto_succ,Aq];unfold limb;rw[<-HX.out];omega⟩
      case measure=>simp[intOf];omega
    · have hzl:z<4294967296:=(by rw[HZ.out];exact Eg xs hx.ok 1);go_wp2_with fail;rw[SI z x hzl hxl];go_round
      case rel=>exact ⟨2,z+x*4294967296,by omega,rfl,by go_num,by show _=_;rw[upto_succ,<-HZ.out];unfold limb;rw[<-HX.out];omega⟩
      case measure=>simp[intOf];omega
  · go_wp2_with fail;go_ret
    have hkn2:k=n:=(by omega);exact ⟨by rw[HZ.out,Ap xs k (by rw[hx.len];omega)];rfl,rfl⟩
end
section
open Go.RowKit
open Limb (limb AE upto upto_succ Ap Aq)
def Ge (r0 r1 r2 b0 b1 q:Nat):Prop:=q<4294967296/\q*(b1*4294967296+b0)<=(r2*4294967296+r1)*4294967296+r0 /\
 ∀p,p<4294967296->p*(b1*4294967296+b0)<=(r2*4294967296+r1)*4294967296+r0->p<=q
def CU (r0 r1 r2 b0 b1 q t:Nat):Prop:=q*b1+t=r2*4294967296+r1/\∀p,p<4294967296->p*(b1*4294967296+b0)<=(r2*4294967296+r1)*4294967296+r0->p<=q
theorem GD (q b0 b1:Nat):q*(b1*4294967296+b0)=q*b1*4294967296+q*b0:=by rw[Nat.mul_add,Nat.mul_assoc]
theorem Lu (r0 r1 r2 b0 b1:Nat) (h0:r0<4294967296) (hb:0<b1):CU r0 r1 r2 b0 b1 ((r2*4294967296+r1)/b1) ((r2*4294967296+r1)%b1):=by refine ⟨by rw[Nat.mul_comm];exact Nat.div_add_mod _ _,fun p _ hp=>?_⟩;rw[GD]at hp;rw[Nat.le_div_iff_mul_le hb];generalize p*b1=u at *;omega
theorem Lv (r1 r2 b1:Nat) (h1:r1<4294967296) (h2:r2<=b1) (hb:2147483648<=b1):(r2*4294967296+r1)/b1<=4294967297:=by
 have h:(r2*4294967296+r1)/b1<4294967298:=by rw[Nat.div_lt_iff_lt_mul (by omega)];omega
 omega
theorem Ik (r0 r1 r2 b0 b1 q t:Nat) (h:CU r0 r1 r2 b0 b1 q t) (hq:q<4294967296) (hle:q*b0<=t*4294967296+r0):Ge r0 r1 r2 b0 b1 q:=by refine ⟨hq,?_,h.2⟩;rw[GD,<-h.1,Nat.add_mul];omega
theorem O6 (r0 r1 r2 b0 b1 q t:Nat) (h:CU r0 r1 r2 b0 b1 q t) (hq:4294967296<=q):CU r0 r1 r2 b0 b1 (q-1) (t+b1):=by obtain ⟨h1,h2⟩:=h;obtain ⟨j,rfl⟩:∃j,q=j+1:=⟨q-1,by omega⟩;refine ⟨?_,fun p hp hle=>by omega⟩;rw[Nat.add_sub_cancel,<-h1,Nat.succ_mul];omega
theorem MA (r0 r1 r2 b0 b1 q t:Nat) (h:CU r0 r1 r2 b0 b1 q t) (hgt:t*4294967296+r0<q*b0):1<=q/\CU r0 r1 r2 b0 b1 (q-1) (t+b1):=by
 obtain ⟨h1,h2⟩:=h;have hq:1<=q:=by
   rcases Nat.eq_zero_or_pos q with h0|h0
   · subst h0;rw[Nat.zero_mul]at hgt;omega
   · exact h0
 obtain ⟨j,rfl⟩:∃j,q=j+1:=⟨q-1,by omega⟩;refine ⟨hq,?_,fun p hp hle=>?_⟩
 · rw[Nat.add_sub_cancel,<-h1,Nat.succ_mul];omega
 · have h3:=h2 p hp hle;rcases Nat.lt_or_ge p (j+1) with h4|h4
   · omega
   · have h5:p=j+1:=(by omega);subst h5;exfalso;rw[GD,<-h1,Nat.add_mul ((j+1)*b1)]at hle;omega
theorem GQ (r0 r1 r2 b0 b1 q t:Nat) (h:CU r0 r1 r2 b0 b1 q t) (hq:q<4294967296) (h0:b0<4294967296) (ht:4294967296<=t):Ge r0 r1 r2 b0 b1 q:=by refine Ik r0 r1 r2 b0 b1 q t h hq ?_;have:=Kx q b0 hq h0;omega
theorem Jq (r0 r1 r2 b0 b1 q t:Nat) (h:CU r0 r1 r2 b0 b1 q t) (h1:r1<4294967296) (h2:r2<=b1) (hq:4294967296<=q):t<4294967296:=by have e:=h.1;have h3:=Nat.mul_le_mul_right b1 hq;have h4:4294967296*b1=b1*4294967296:=Nat.mul_comm _ _;omega
def O7 (r0 r1 r2 b0 b1:Nat) (w:World) (e:Ending) (w':World):Prop:=∃q:Nat,e=.returned (.int .u64 (q:Int))/\q<4294967296/\Hid (Ge r0 r1 r2 b0 b1 q)/\∃k,w'=w.drewN k
theorem Il (g o c g2 o2 c2 r0 r1 r2 b0 b1:Nat) (w:World) (hr0:w.cell? ⟨g,o,none⟩=some (.int .u32 (r0:Int))) (hr1:w.cell? ⟨g,o+1,none⟩=some (.int .u32 (r1:Int))) (hr2:w.cell? ⟨g,o+2,none⟩=some (.int .u32 (r2:Int)))
  (hb0:w.cell? ⟨g2,o2,none⟩=some (.int .u32 (b0:Int))) (hb1:w.cell? ⟨g2,o2+1,none⟩=some (.int .u32 (b1:Int))) (l0:r0<4294967296) (l1:r1<4294967296) (l2:r2<4294967296) (k0:b0<4294967296) (k1:b1<4294967296) (hn:2147483648<=b1) (hle:r2<=b1) :
  Calls Tryz.prog 172 #[.slice (some ⟨g,o,none⟩) 3 c,.slice (some ⟨g2,o2,none⟩) 2 c2] w (O7 r0 r1 r2 b0 b1 w):=by
 have hj:=K4 r1 r2 l1 l2;have HS:=Ad (Lu r0 r1 r2 b0 b1 l0 (by omega));have HF:=Ad (Lv r1 r2 b1 l1 hle hn);have hq:((r2:Int)*4294967296+(r1:Int))/(b1:Int)=(((r2*4294967296+r1)/b1:Nat):Int):=by rw[Int.natCast_ediv,Int.natCast_add,Int.natCast_mul];rfl
 have hm:((r2:Int)*4294967296+(r1:Int))%(b1:Int)=(((r2*4294967296+r1)%b1:Nat):Int):=by rw[Int.natCast_emod,Int.natCast_add,Int.natCast_mul];rfl
 have HQ:=Lib.hid hq;have HM:=Lib.hid hm;clear hq hm;go_enter Tryz.func172,Tryz.ntmps172;go_wp2_with fail;go_quiet (fail)
 go_wp2_with fail;go_quiet (fail)
 go_wp2_with fail;go_loopw [6,7] (fun x y wr=>∃q t:Nat,q<=4294967297/\t<4294967296/\x=.int .u64 (q:Int)/\y=.int .u64 (t:Int)/\Hid (CU r0 r1 r2 b0 b1 q t)/\∃k,wr=w.drewN k) (fun x _ _=>(intOf x).toNat)
 case atStart=>exact ⟨_,_,HF.out,Nat.lt_of_lt_of_le (Nat.mod_lt _ (by omega)) (by omega),by rw[HQ.out],by rw[HM.out],HS.out,by first|exact ⟨_,rfl⟩|(simp only[World.drewN_drewN];exact ⟨_,rfl⟩)⟩
 case round=>
  clear HS HF HQ HM hj;obtain ⟨q,t,hq1,ht1,rfl,rfl,HG,k,rfl⟩:=hrel;have hj2:=K4 r0 t l0 ht1;by_cases hqb:q<4294967296
  · have h1:((q:Int)/4294967296 != 0)=false:=(by simp;omega);obtain ⟨hp1,hp2,hp3⟩:=Ig q b0 hqb k0;have HP:=Lib.hid hp3;clear hp3;by_cases hgt:t*4294967296+r0<q*b0
    · have h2:(t:Int)*4294967296+(r0:Int)<(q:Int)*(b0:Int):=(by have:=HP.out;omega);have HM2:=Ad (MA r0 r1 r2 b0 b1 q t HG.out hgt);have hq0:1<=q:=HM2.out.1;clear hgt;by_cases hbk:t+b1<4294967296
      · have h3:(((t:Int)+(b1:Int))/4294967296 != 0)=false:=(by simp;omega);go_wp2_with fail;go_quiet (fail)
        go_wp2_with fail;go_roundw
        case rel=>exact ⟨q-1,t+b1,by omega,hbk,by go_num,by go_num,HM2.out.2,by first|exact ⟨_,rfl⟩|(simp only[World.drewN_drewN];exact ⟨_,rfl⟩)⟩
        case measure=>simp[intOf];omega
      · have h3:(((t:Int)+(b1:Int))/4294967296 != 0)=true:=(by simp;omega);go_wp2_with fail;go_quiet (fail)
        go_wp2_with fail;go_ret
        exact ⟨q-1,by go_num,(by omega),GQ r0 r1 r2 b0 b1 (q-1) (t+b1) HM2.out.2 (by omega) k0 (by omega),by first|exact ⟨_,rfl⟩|(simp only[World.drewN_drewN];exact ⟨_,rfl⟩)⟩
    · have h2:¬(t:Int)*4294967296+(r0:Int)<(q:Int)*(b0:Int):=(by have:=HP.out;omega);have HD:=Ad (Ik r0 r1 r2 b0 b1 q t HG.out hqb (by omega));clear hgt;go_wp2_with fail;go_quiet (fail)
      go_wp2_with fail;go_ret
      exact ⟨q,rfl,hqb,HD.out,by first|exact ⟨_,rfl⟩|(simp only[World.drewN_drewN];exact ⟨_,rfl⟩)⟩
  · have h1:((q:Int)/4294967296 != 0)=true:=(by simp;omega);have HB2:=Ad (O6 r0 r1 r2 b0 b1 q t HG.out (by omega));have HNB:=Ad (fun h:4294967296<=q-1=>Jq r0 r1 r2 b0 b1 (q-1) (t+b1) HB2.out l1 hle h);by_cases hbk:t+b1<4294967296
    · have h3:(((t:Int)+(b1:Int))/4294967296 != 0)=false:=(by simp;omega);go_wp2_with fail;go_quiet (fail)
      go_wp2_with fail;go_roundw
      case rel=>exact ⟨q-1,t+b1,by omega,hbk,by go_num,by go_num,HB2.out,by first|exact ⟨_,rfl⟩|(simp only[World.drewN_drewN];exact ⟨_,rfl⟩)⟩
      case measure=>simp[intOf];omega
    · have h3:(((t:Int)+(b1:Int))/4294967296 != 0)=true:=(by simp;omega);go_wp2_with fail;go_quiet (fail)
      go_wp2_with fail;go_ret
      exact ⟨q-1,by go_num,(by rcases Nat.lt_or_ge (q-1) 4294967296 with h|h;exact h;exact absurd (HNB.out h) hbk),GQ r0 r1 r2 b0 b1 (q-1) (t+b1) HB2.out (by rcases Nat.lt_or_ge (q-1) 4294967296 with h|h;exact h;exact absurd (HNB.out h) hbk) k0 (by omega),by first|exact ⟨_,rfl⟩|(simp only[World.drewN_drewN];exact ⟨_,rfl⟩)⟩
end
section
open Go.RowKit
open Limb (limb AE upto upto_succ Ap Aq)
def Gf (g o m f:Nat) (zs xs:List Nat) (w:World) (k c:Nat) (wr:World):Prop:=
 ∃cur:List Nat,cur.length=m/\Limb.Ok cur/\Row wr g (put zs o cur)/\Ao g w wr/\Limb.val cur+upto xs k*f=Limb.val (win zs o m)+4294967296^k*c
theorem Gf.start (g o m f:Nat) (zs xs:List Nat) (w:World) (hz:Limb.Ok zs) (hr:Row w g zs) (hn:o+m<=zs.length):Gf g o m f zs xs w 0 0 w:=
 ⟨win zs o m,win_length zs o m hn,GC hz o m,by unfold win;rw[Fe zs o m hn];exact hr,Ao.refl g w,by simp[Aq]⟩
theorem Gf.only {g o m f:Nat} {zs xs:List Nat} {w:World} {k c:Nat} {wr:World} (h:Gf g o m f zs xs w k c wr):Ao g w wr:=by obtain ⟨_,_,_,_,hon,_⟩:=h;exact hon
theorem Gf.at_ {g o m f:Nat} {zs xs:List Nat} {w:World} {k c:Nat} {wr:World} (h:Gf g o m f zs xs w k c wr) (hn:o+m<=zs.length) (hk:k<m) :
   ∃z:Nat,z<4294967296/\wr.cell? ⟨g,o+k,none⟩=some (.int .u32 (z:Int))/\wr.frozen? ⟨g,o+k,none⟩=false /\
     ∀s c':Nat,s<4294967296->s+limb xs k*f+c=z+4294967296*c'->Gf g o m f zs xs w (k+1) c' (wr.setCell ⟨g,o+k,none⟩ (.int .u32 (s:Int))):=by
 obtain ⟨cur,hl,ho,hr,hon,hv⟩:=h;have hfit:o+cur.length<=zs.length:=by omega
 refine ⟨cur.getD k 0,ho.getD k,?_,hr.frozen _,fun s c' hs he=>?_⟩
 · rw[hr.cell (i:=o+k) (by rw[AA _ _ _ hfit];omega),Fc zs o cur hfit k (by omega)]
 · refine ⟨cur.set k s,by simp[hl],ho.set k s hs,?_,hon.setCell _ _,?_⟩
   · rw[<-FZ zs o cur hfit k s (by omega)];exact hr.set_ _ _
   · rw[<-Limb.step_unset cur k s (limb xs k*f) c c' (by omega) _ _ hv he,upto_succ,Nat.add_mul,Nat.mul_assoc]
def SJ (g o m f:Nat) (zs xs:List Nat) (w:World) (e:Ending) (w':World):Prop:=
 ∃(cur:List Nat) (cy:Nat),e=.returned (.int .u32 (cy:Int))/\cy<4294967296/\cur.length=m/\Limb.Ok cur/\Row w' g (put zs o cur)/\Ao g w w'/\Hid (Limb.val cur+Limb.val xs*f=Limb.val (win zs o m)+4294967296^m*cy)
theorem Qc (z y f:Nat) (hz:z<4294967296) (hy:y<4294967296) (hf:f<4294967296):z+y*f<=18446744069414584320:=by have h:=Nat.mul_le_mul (show y<=4294967295 by omega) (show f<=4294967295 by omega);omega
theorem Im (g o m c f:Nat) (zs:List Nat) (A:Option Addr) (d:Nat) (xs:List Nat) (w:World) (hr:Row w g zs) (hz:Limb.Ok zs) (hn:o+m<=zs.length) (hc:m<=4611686018427387904) (hcc:m<=c)
  (hx:Am w A m xs) (hap:0<m->Apart A g) (hf:f<4294967296) :
  Calls Tryz.prog 173 #[.slice (some ⟨g,o,none⟩) m c,.slice A m d,.int .u32 (f:Int)] w (SJ g o m f zs xs w):=by
 have R:=Ad (Gf.start g o m f zs xs w hz hr hn);clear hr hz;go_enter Tryz.func173,Tryz.ntmps173;go_wp2_with fail;go_loopw [7,13] (fun c i wr=>∃k z:Nat,k<=m/\z<4294967296/\i=.int .i64 (k:Int)/\c=.int .u64 (z:Int)/\Hid (Gf g o m f zs xs w k z wr)) (fun _ i _=>m-(intOf i).toNat)
 case atStart=>exact ⟨0,0,Nat.zero_le _,by omega,rfl,rfl,R.out⟩
 case round=>
  clear R;obtain ⟨k,z,hk,hz1,rfl,rfl,R⟩:=hrel;by_cases hkm:k<m
  · have hxr:=hx.grown R.out.only (hap (by omega));obtain ⟨b1,o1,y,rfl,hyb,hye,hyc⟩:=hxr.at_ hkm;obtain ⟨zz,hzz,hcell,hfroz,hstep⟩:=R.out.at_ hn hkm;have hsc:=Qc z y f hz1 hyb hf;obtain ⟨hp1,hp2,hp3⟩:=Ig _ _ hyb hf;have HP:=Lib.hid hp3;have HY:=Lib.hid hye;have HS:=Ad hstep;have HSC:=Ad hsc;clear hye hstep hp3 hxr hsc;by_cases hlt:zz<(z+y*f)%4294967296
    · have h1:(zz:Int)<((z:Int)+(y:Int)*(f:Int))%4294967296:=(by have:=HP.out;omega);go_wp2_with fail;have es:((zz:Int)-((z:Int)+(y:Int)*(f:Int)))%4294967296=((zz+4294967296-(z+y*f)%4294967296:Nat):Int):=(by have:=HP.out;omega);have ec:((z:Int)+(y:Int)*(f:Int))/4294967296+1=(((z+y*f)/4294967296+1:Nat):Int):=(by have:=HP.out;omega);rw[es,ec];clear es ec;go_roundw
      case rel=>exact ⟨k+1,_,by omega,by have:=HSC.out;omega,by go_num,rfl,HS.out _ _ (by omega) (by have e:=HY.out;unfold limb;rw[<-e];omega)⟩
      case measure=>simp[intOf];omega
    · have h1:¬(zz:Int)<((z:Int)+(y:Int)*(f:Int))%4294967296:=(by have:=HP.out;omega);go_wp2_with fail;have es:(zz:Int)-((z:Int)+(y:Int)*(f:Int))%4294967296=((zz-(z+y*f)%4294967296:Nat):Int):=(by have:=HP.out;omega);have ec:((z:Int)+(y:Int)*(f:Int))/4294967296=(((z+y*f)/4294967296:Nat):Int):=(by have:=HP.out;omega);rw[es,ec];clear es ec;go_roundw
      case rel=>exact ⟨k+1,_,by omega,by have:=HSC.out;omega,by go_num,rfl,HS.out _ _ (by omega) (by have e:=HY.out;unfold limb;rw[<-e];omega)⟩
      case measure=>simp[intOf];omega
  · obtain rfl:k=m:=(by omega);clear hkm;go_wp2_with fail;go_ret
    obtain ⟨cur,hl,ho,hr,hon,hv⟩:=R.out;exact ⟨cur,z,rfl,hz1,hl,ho,hr,hon,by show _=_;rw[<-Ap xs k (by rw[hx.len];omega)];exact hv⟩
def Io (g m f:Nat) (zs:List Nat) (w:World) (k z:Nat) (wr:World):Prop:=
 ∃cur:List Nat,cur.length=m/\Limb.Ok cur/\Row wr g (put zs 0 cur)/\Ao g w wr/\(∀i,i<k->limb cur i=limb zs i)/\z<f/\Limb.val ((win zs 0 m).drop k)=f*Limb.val (cur.drop k)+z
theorem Io.start (g m f:Nat) (zs:List Nat) (w:World) (hz:Limb.Ok zs) (hr:Row w g zs) (hn:m<=zs.length) (hf:0<f):Io g m f zs w m 0 w:=by
 refine ⟨win zs 0 m,win_length zs 0 m (by omega),GC hz 0 m,by unfold win;rw[Fe zs 0 m (by omega)];exact hr,Ao.refl g w,fun i hi=>?_,hf,?_⟩
 · unfold limb win;rw[List.drop_zero,List.getD_eq_getElem?_getD,List.getD_eq_getElem?_getD,List.getElem?_take_of_lt hi]
 · rw[List.drop_of_length_le (by rw[win_length zs 0 m (by omega)];exact Nat.le_refl _)];simp[Limb.val]
theorem Qd (zs:List Nat) (m i:Nat) (hi:i<m):limb (win zs 0 m) i=limb zs i:=by unfold limb win;rw[List.drop_zero,List.getD_eq_getElem?_getD,List.getD_eq_getElem?_getD,List.getElem?_take_of_lt hi]
theorem Dk (xs:List Nat) (j:Nat) (h:j<xs.length):Limb.val (xs.drop j)=limb xs j+4294967296*Limb.val (xs.drop (j+1)):=by rw[List.drop_eq_getElem_cons h];unfold limb;rw[List.getD_eq_getElem?_getD,List.getElem?_eq_getElem h];rfl
theorem FG (xs:List Nat) (j v:Nat):(xs.set j v).drop (j+1)=xs.drop (j+1):=by rw[List.drop_set];rw[if_pos (by omega)]
theorem SK (f z x V Q q t:Nat) (h:V=f*Q+z) (h2:f*q+t=z*4294967296+x):x+4294967296*V=f*(q+4294967296*Q)+t:=by subst h;rw[Nat.mul_add,Nat.mul_add,Nat.mul_left_comm f 4294967296 Q];omega
theorem Io.at_ {g m f:Nat} {zs:List Nat} {w:World} {k z:Nat} {wr:World} (h:Io g m f zs w (k+1) z wr) (hn:m<=zs.length) (hk:k<m) (hok:Limb.Ok zs) :
   ∃x:Nat,x<4294967296/\wr.cell? ⟨g,k,none⟩=some (.int .u32 (x:Int))/\wr.frozen? ⟨g,k,none⟩=false/\z<f /\
     ∀q t:Nat,q<4294967296->t<f->f*q+t=z*4294967296+x->Io g m f zs w k t (wr.setCell ⟨g,k,none⟩ (.int .u32 (q:Int))):=by
 obtain ⟨cur,hl,ho,hr,hon,he,hzf,hv⟩:=h;have hfit:0+cur.length<=zs.length:=by omega
 have hwl:=win_length zs 0 m (by omega);refine ⟨cur.getD k 0,ho.getD k,?_,hr.frozen _,hzf,fun q t hq ht hqt=>?_⟩
 · have:=hr.cell (i:=k) (by rw[AA _ _ _ hfit];omega);have e2:=Fc zs 0 cur hfit k (by omega);rw[Nat.zero_add]at e2;rw[this,e2]
 · refine ⟨cur.set k q,by simp[hl],ho.set k q hq,?_,hon.setCell _ _,fun i hi=>?_,ht,?_⟩
   · have e2:=FZ zs 0 cur hfit k q (by omega);rw[Nat.zero_add]at e2;rw[<-e2];exact hr.set_ _ _
   · rw[<-he i (by omega)];unfold limb;rw[List.getD_eq_getElem?_getD,List.getElem?_set_ne (by omega),<-List.getD_eq_getElem?_getD]
   · rw[Dk (win zs 0 m) k (by omega),Qd zs m k hk,<-he k (by omega),Dk (cur.set k q) k (by simp;omega),FG];have e3:limb (cur.set k q) k=q:=by
      unfold limb;rw[List.getD_eq_getElem?_getD,List.getElem?_set_self (by omega)];rfl
     rw[e3];exact SK f z _ _ _ q t hv hqt
def Qe (g m f:Nat) (zs:List Nat) (w:World) (e:Ending) (w':World):Prop:=
 e=.returned (.int .u32 ((Limb.val (win zs 0 m)%f:Nat):Int))/\Row w' g (put zs 0 (Limb.fixed m (Limb.val (win zs 0 m)/f)))/\Ao g w w'
theorem Gg (g m c f:Nat) (zs:List Nat) (w:World) (hr:Row w g zs) (hz:Limb.Ok zs) (hn:m<=zs.length) (hc:m<=4611686018427387904) (hf0:0<f) (hf:f<4294967296) :
  Calls Tryz.prog 126 #[.slice (some ⟨g,0,none⟩) m c,.int .u32 (f:Int)] w (Qe g m f zs w):=by
 have R:=Ad (Io.start g m f zs w hz hr hn hf0);clear hr;go_enter Tryz.func126,Tryz.ntmps126;go_wp2_with fail;go_loopw [5,6] (fun c i wr=>∃k z:Nat,k<=m/\z<f/\i=.int .i64 ((k:Int)-1)/\c=.int .u64 (z:Int)/\Hid (Io g m f zs w k z wr)) (fun _ i _=>((intOf i)+1).toNat)
 case atStart=>exact ⟨m,0,Nat.le_refl _,hf0,rfl,rfl,R.out⟩
 case round=>
  clear R;obtain ⟨k,z,hk,hzf,rfl,rfl,R⟩:=hrel;rcases Nat.eq_zero_or_pos k with hk0|hk0
  · subst hk0;go_wp2_with fail;go_ret
    obtain ⟨cur,hl,ho,hr,hon,_,_,hv⟩:=R.out;rw[List.drop_zero,List.drop_zero]at hv;have e1:Limb.val (win zs 0 m)%f=z:=(by rw[hv,Nat.mul_add_mod,Nat.mod_eq_of_lt hzf]);have e2:Limb.val (win zs 0 m)/f=Limb.val cur:=(by rw[hv,Nat.mul_add_div hf0,Nat.div_eq_of_lt hzf];omega);have e3:cur=Limb.fixed m (Limb.val (win zs 0 m)/f):=Limb.eq_fixed m _ 0 ho hl (by rw[e2];simp);exact ⟨by rw[e1];rfl,by rw[<-e3];exact hr,hon⟩
  · obtain ⟨j,rfl⟩:∃j,k=j+1:=⟨k-1,by omega⟩;have e1:(((j+1:Nat):Int)-1)=(j:Int):=(by omega);rw[e1];clear e1;obtain ⟨x,hxl,hcell,hfroz,_,hstep⟩:=R.out.at_ hn (by omega) hz;have HS:=Ad hstep;have hj:=K4 x z hxl (by omega);have hdm:=Nat.div_add_mod (z*4294967296+x) f;have HDM:=Lib.hid hdm;have hml:=Nat.mod_lt (z*4294967296+x) hf0;have hdl:(z*4294967296+x)/f<4294967296:=by
     rw[Nat.div_lt_iff_lt_mul hf0];have:=Nat.mul_le_mul_left 4294967296 (show z+1<=f from hzf);omega
    have hdi:((z:Int)*4294967296+(x:Int))/(f:Int)=(((z*4294967296+x)/f:Nat):Int):=(by rw[Int.natCast_ediv,Int.natCast_add,Int.natCast_mul];rfl);have hmi:((z:Int)*4294967296+(x:Int))%(f:Int)=(((z*4294967296+x)%f:Nat):Int):=(by rw[Int.natCast_emod,Int.natCast_add,Int.natCast_mul];rfl);generalize (z*4294967296+x)/f=q at *;generalize (z*4294967296+x)%f=t at *;clear hstep hdm;go_wp2_with fail;go_roundw
    case rel=>exact ⟨j,t,by omega,hml,by go_num,by rw[hmi],HS.out q t hdl hml HDM.out⟩
    case measure=>simp[intOf]<;>omega
end
end Go.Proofs.YtemfjdedjcjegaaGreatDoor
