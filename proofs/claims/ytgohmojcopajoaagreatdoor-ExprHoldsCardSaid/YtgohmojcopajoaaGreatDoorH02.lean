/- Texts of one seat, put together: LexCx LexA LexB LexC LexD LexE LexF. -/
import Derived.Laws.ComplexArith
import Derived.Test.YtgohmojcopajoaaGreatDoorProg
import Derived.Test.YtgohmojcopajoaaGreatDoorH01
import Derived.Laws.RangeString
import Derived.Laws.Runes
import Derived.Laws.Externs
import Derived.Lib.Strings
set_option linter.unusedVariables false
set_option linter.unusedSimpArgs false
set_option maxRecDepth 100000
set_option maxHeartbeats 16000000
namespace Go.Proofs.YtgohmojcopajoaaGreatDoor.Lx
section
open Go
def wd (c:Nat):Nat:=(c.log2+1022)*2^52+c*2^(52-c.log2)
def FL (a:Int):Nat:=if a=0 then 0 else Ieee.double.word (decide (a<0)) (wd a.natAbs)
theorem Ij {c:Nat} (h:0<c):2^c.log2<=c/\c<2^(c.log2+1):=(Nat.log2_eq_iff (by omega)).1 rfl
theorem Gl {c:Nat} (h0:0<c) (h:c<2^52):c.log2<52:=by
 rcases Nat.lt_or_ge c.log2 52 with h1|h1
 · exact h1
 · have:=Nat.pow_le_pow_right (show 0<2 by decide) h1;have:=(Ij h0).1;omega
theorem GF {c:Nat} (h0:0<c) (k:Nat):(c*2^k).log2=c.log2+k:=by
 have hp:0<2^k:=Nat.pow_pos (by decide);have h1:=Ij h0;refine (Nat.log2_eq_iff (by have:=Nat.mul_pos h0 hp;omega)).2 ⟨?_,?_⟩
 · rw[Nat.pow_add];exact Nat.mul_le_mul_right _ h1.1
 · rw[show c.log2+k+1=(c.log2+1)+k by omega,Nat.pow_add 2 (c.log2+1)];exact Nat.mul_lt_mul_of_pos_right h1.2 hp
theorem PE {c:Nat} (h0:0<c) (h:c<2^52):∃r,r<2^52/\c*2^(52-c.log2)=2^52+r/\wd c=(c.log2+1023)*2^52+r:=by
 have hl:=Gl h0 h;have h1:=Ij h0;have hp:0<2^(52-c.log2):=Nat.pow_pos (by decide);have e1:2^c.log2*2^(52-c.log2)=2^52:=by rw[<-Nat.pow_add];congr 1;omega
 have e2:2^(c.log2+1)*2^(52-c.log2)=2^53:=by rw[<-Nat.pow_add];congr 1;omega
 have h2:2^52<=c*2^(52-c.log2):=by rw[<-e1];exact Nat.mul_le_mul_right _ h1.1
 have h3:c*2^(52-c.log2)<2^53:=by rw[<-e2];exact Nat.mul_lt_mul_of_pos_right h1.2 hp
 refine ⟨c*2^(52-c.log2)-2^52,by omega,by omega,?_⟩;unfold wd;generalize c*2^(52-c.log2)=x at *;rw[Nat.add_mul,Nat.add_mul];omega
theorem VL {c:Nat} (h0:0<c) (h:c<2^52):2^52<=wd c/\wd c<2047*2^52:=by obtain ⟨r,hr,-,e⟩:=PE h0 h;have hl:=Gl h0 h;rw[e];generalize c.log2=L at *;omega
theorem UD (neg:Bool) {c:Nat} (k:Nat) (h0:0<c) (h:c<2^52):Ieee.double.nearest neg (c*2^k) (-(k:Int))=Ieee.double.word neg (wd c):=by
 have hp:0<2^k:=Nat.pow_pos (by decide);have hl:=Gl h0 h;have hw:=VL h0 h;unfold Ieee.Format.nearest;rw[if_neg (by have:=Nat.mul_pos h0 hp;omega),GF h0 k];have elast:max (-(k:Int)+((c.log2+k:Nat):Int)-(Ieee.double.fractionBits:Int)) Ieee.double.leastPlace=(c.log2:Int)-52:=by rw[show Ieee.double.leastPlace=-1074 by decide,show Ieee.double.fractionBits=52 from rfl];omega
 dsimp only
 rw[elast];have ecut:Ieee.Toward.even.cut neg ((c*2^k) <<< (-(k:Int)-((c.log2:Int)-52)).toNat) ((c.log2:Int)-52 - -(k:Int)).toNat=c*2^(52-c.log2):=by
  rcases Nat.le_total (k+c.log2) 52 with hk|hk
  · rw[show ((c.log2:Int)-52 - -(k:Int)).toNat=0 by omega,show (-(k:Int)-((c.log2:Int)-52)).toNat=52-c.log2-k by omega];rw[Nat.shiftLeft_eq,Nat.mul_assoc,<-Nat.pow_add,show k+(52-c.log2-k)=52-c.log2 by omega];generalize c*2^(52-c.log2)=n;unfold Ieee.Toward.cut;simp[Nat.mod_one]
  · rw[show (-(k:Int)-((c.log2:Int)-52)).toNat=0 by omega,show ((c.log2:Int)-52 - -(k:Int)).toNat=c.log2+k-52 by omega];rw[Nat.shiftLeft_zero];have hs:c*2^k=c*2^(52-c.log2)*2^(c.log2+k-52):=by
     rw[Nat.mul_assoc,<-Nat.pow_add,show 52-c.log2+(c.log2+k-52)=k by omega]
    unfold Ieee.Toward.cut;rw[GF h0 k,Nat.min_eq_left (by omega),Nat.shiftLeft_eq,Nat.one_mul,hs];have hq:0<2^(c.log2+k-52):=Nat.pow_pos (by decide);generalize c*2^(52-c.log2)=n;generalize 2^(c.log2+k-52)=g at *;dsimp only
    rw[Nat.mul_div_cancel _ hq,Nat.mul_mod_left];have h1:¬g<0:=(by omega);have h2:¬g=0:=(by omega);simp[h1,h2]
 rw[ecut,show ((c.log2:Int)-52-Ieee.double.leastPlace).toNat=c.log2+1022 by rw[show Ieee.double.leastPlace=-1074 by decide];omega];rw[show Ieee.double.binade=2^52 from rfl,show Ieee.double.infRung=2047*2^52 from rfl];rw[show (c.log2+1022)*2^52+c*2^(52-c.log2)=wd c from rfl,Nat.min_eq_left (by omega)]
theorem UE (neg:Bool) {c:Nat} (h0:0<c) (h:c<2^52):Ieee.double.read (Ieee.double.word neg (wd c))=.number neg (c*2^(52-c.log2)) (-((52-c.log2:Nat):Int)):=by
 have hl:=Gl h0 h;have hw:=VL h0 h;obtain ⟨r,hr,e1,e2⟩:=PE h0 h;unfold Ieee.Format.read Ieee.Format.word;have s1:(if neg then Ieee.double.signWeight+wd c else wd c)/Ieee.double.signWeight%2=neg.toNat:=by
  rw[show Ieee.double.signWeight=2^63 from rfl];cases neg
  · simp only[Bool.false_eq_true,if_false,Bool.toNat_false];omega
  · simp only[if_true,Bool.toNat_true];omega
 have s2:(if neg then Ieee.double.signWeight+wd c else wd c)%Ieee.double.signWeight=wd c:=by
  rw[show Ieee.double.signWeight=2^63 from rfl];cases neg
  · simp only[Bool.false_eq_true,if_false];omega
  · simp only[if_true];omega
 dsimp only
 rw[s1,s2,show Ieee.double.binade=2^52 from rfl,show Ieee.double.infRung=2047*2^52 from rfl,if_neg (by omega),if_pos hw.2,e1,e2];have m1:((c.log2+1023)*2^52+r)%2^52=r:=by omega
 have m2:((c.log2+1023)*2^52+r)/2^52=c.log2+1023:=by omega
 rw[m1,m2,show Ieee.double.leastPlace=-1074 by decide];have hb:(neg.toNat==1)=neg:=by cases neg<;>rfl
 rw[hb,show (-1074:Int)+((c.log2+1023-1:Nat):Int)=-((52-c.log2:Nat):Int) by omega]
def Xf (d:Ieee.Datum) (a:Int) (neg0:Bool):Prop:=∃(s:Bool) (k:Nat),d=.number s (a.natAbs*2^k) (-(k:Int))/\(a<0->s=true)/\(0<a->s=false)/\(a=0->s=neg0)
theorem Hh {a:Int} (h:a.natAbs<2^52):Xf (Ieee.double.read (FL a)) a false:=by
 unfold FL;by_cases h0:a=0
 · subst h0;have e:∀k:Nat,k=1074->Ieee.double.read 0=.number false ((0:Int).natAbs*2^k) (-(k:Int)):=by
    intro k hk;rw[Int.natAbs_zero,Nat.zero_mul,hk];decide
   obtain ⟨k,hk⟩:∃k:Nat,k=1074:=⟨_,rfl⟩;exact ⟨false,k,e k hk,by omega,by omega,fun _=>rfl⟩
 · rw[if_neg h0,UE _ (by omega) h];refine ⟨_,_,rfl,fun h=>by simpa using h,fun h=>by simp;omega,fun h=>absurd h h0⟩
theorem Xf.opp {d:Ieee.Datum} {a:Int} (h:Xf d a false):Xf d.opposite (-a) true:=by obtain ⟨s,k,rfl,h1,h2,h3⟩:=h;refine ⟨!s,k,by simp[Ieee.Datum.opposite],fun h=>by rw[h2 (by omega)];rfl,fun h=>by rw[h1 (by omega)];rfl,fun h=>by rw[h3 (by omega)];rfl⟩
theorem Ik {s:Bool} {a:Int} {i M:Nat} (h1:a<0->s=true) (h2:0<a->s=false) (hi:i<=M):Ieee.signed s (a.natAbs*2^i) (-(i:Int) - -(M:Int)).toNat=a*2^M:=by
 unfold Ieee.signed;rw[show (-(i:Int) - -(M:Int)).toNat=M-i by omega,Nat.shiftLeft_eq,Nat.mul_assoc,<-Nat.pow_add,show i+(M-i)=M by omega];rcases Int.lt_trichotomy a 0 with h|h|h
 · rw[h1 h,if_pos rfl];rw[show a*2^M=-((-a)*2^M) by rw[Int.neg_mul,Int.neg_neg],Int.natCast_mul,show ((a.natAbs:Nat):Int)=-a by omega];push_cast
   rfl
 · subst h;cases s<;>simp
 · rw[h2 h,if_neg (by decide)];rw[Int.natCast_mul,show ((a.natAbs:Nat):Int)=a by omega];push_cast
   rfl
theorem So {d e:Ieee.Datum} {a b:Int} {n:Bool} (hd:Xf d a false) (he:Xf e b n) (h:(a+b).natAbs<2^52):(d.sum e).map Ieee.double.write=some (FL (a+b)):=by
 obtain ⟨s,i,rfl,h1,h2,h3⟩:=hd;obtain ⟨t,j,rfl,g1,g2,g3⟩:=he;unfold Ieee.Datum.sum;dsimp only
 obtain ⟨M,hM,hi,hj⟩:∃M:Nat,min (-(i:Int)) (-(j:Int))=-(M:Int)/\i<=M/\j<=M:=⟨max i j,by omega,by omega,by omega⟩;rw[hM,Ik h1 h2 hi,Ik g1 g2 hj,<-Int.add_mul];have hpos:(0:Int)<2^M:=Int.pow_pos (by decide);show some (Ieee.double.nearest _ ((a+b)*2^M).natAbs (-(M:Int)))=_;unfold FL;by_cases h0:a+b=0
 · rw[h0,Int.zero_mul,if_pos rfl,if_pos rfl];have hst:(s&&t)=false:=by
    rcases Int.lt_trichotomy a 0 with h|h|h
    · rw[g2 (by omega)];cases s<;>rfl
    · rw[h3 h];rfl
    · rw[h2 h];rfl
   rw[hst];rfl
 · have hne:¬(a+b)*2^M=0:=by
    intro hh;rcases Int.mul_eq_zero.1 hh with hh|hh
    · exact h0 hh
    · omega
   rw[if_neg hne,if_neg h0];have hsg:decide ((a+b)*2^M<0)=decide (a+b<0):=by
    by_cases hlt:a+b<0
    · have:(a+b)*2^M<0:=Int.mul_neg_of_neg_of_pos hlt hpos;simp[hlt,this]
    · have:¬(a+b)*2^M<0:=by
       have:=Int.mul_nonneg (show 0<=a+b by omega) (Int.le_of_lt hpos);omega
      simp[hlt,this]
   rw[hsg,Int.natAbs_mul,show ((2:Int)^M).natAbs=2^M by rw[Int.natAbs_pow];rfl,UD _ M (by omega) h]
theorem LH {a b:Int} (ha:a.natAbs<2^52) (hb:b.natAbs<2^52) (h:(a+b).natAbs<2^52):floatBits .add .f64 (FL a) (FL b)=some (FL (a+b)):=So (Hh ha) (Hh hb) h
theorem Wj {a b:Int} (ha:a.natAbs<2^52) (hb:b.natAbs<2^52) (h:(a-b).natAbs<2^52):floatBits .sub .f64 (FL a) (FL b)=some (FL (a-b)):=by rw[Int.sub_eq_add_neg];exact So (Hh ha) (Hh hb).opp (by rw[<-Int.sub_eq_add_neg];exact h)
theorem M0 {a:Int} (h:a.natAbs<2^52):floatToIntVal .f64 (FL a) .i64=some a:=by
 unfold floatToIntVal;have e:(FloatKind.f64.decode (FL a)).toInt .zero=some a:=by
  obtain ⟨s,k,e,h1,h2,-⟩:=Hh h;show (Ieee.double.read (FL a)).toInt .zero=some a;rw[e];unfold Ieee.Datum.toInt Ieee.Datum.integral;dsimp only
  have hc:Ieee.Toward.zero.cut s ((a.natAbs*2^k) <<< (-(k:Int)).toNat) (- -(k:Int)).toNat=a.natAbs:=by
   rw[show (-(k:Int)).toNat=0 by omega,show (- -(k:Int)).toNat=k by omega,Nat.shiftLeft_zero];unfold Ieee.Toward.cut;by_cases h0:a=0
   · subst h0;simp
   · rw[GF (by omega) k,Nat.min_eq_left (by omega),Nat.shiftLeft_eq,Nat.one_mul];have hq:0<2^k:=Nat.pow_pos (by decide);dsimp only
     rw[Nat.mul_div_cancel _ hq];rfl
  rw[hc];have:=Ik (i:=0) (M:=0) h1 h2 (Nat.le_refl _);simp at this;rw[this]
 rw[e];dsimp only
 rw[if_pos (by rw[show IntKind.i64.min=-9223372036854775808 from rfl,show IntKind.i64.max=9223372036854775807 from rfl];omega)]
theorem Ji:FL 1=4607182418800017408:=by decide
theorem UF:FL 0=0:=rfl
end
end Go.Proofs.YtgohmojcopajoaaGreatDoor.Lx
namespace Go.Proofs.YtgohmojcopajoaaGreatDoor
section
open Go.RowKit
open Lx
def Ad (s:ByteArray) (i:Nat):Nat:=if h:i<s.size then (s[i]'h).toNat else 0
theorem Bp (s:ByteArray) (i:Nat) (h:i<s.size):Ad s i=(s[i]'h).toNat:=by unfold Ad;rw[dif_pos h]
theorem Dy (s:ByteArray) (i:Nat):Ad s i<256:=by
 unfold Ad;split
 · exact UInt8.toNat_lt _
 · omega
def cx (p:Nat×Nat):Value:=.complex .f64 (FL p.1) (FL p.2)
def FM (v:Value) (w:World) (e:Ending) (w':World):Prop:=e=.returned v/\∃k,w'=w.drewN k
theorem Hi (c:Int) (w:World):Calls Tryz.prog 132 #[.int .i32 c] w (FM (.bool (decide (97<=c)&&decide (c<=122))) w):=by
 go_enter Tryz.func132,Tryz.ntmps132;by_cases h1:97<=c
 · by_cases h2:c<=122
   · go_wp2_with fail;go_ret
     exact ⟨by simp[h1,h2],0,rfl⟩
   · go_wp2_with fail;go_ret
     exact ⟨by simp[h2],0,rfl⟩
 · go_wp2_with fail;go_ret
   exact ⟨by rw[decide_eq_false (show ¬_<=c by omega)];rfl,0,rfl⟩
theorem FN (c:Int) (w:World):Calls Tryz.prog 135 #[.int .i32 c] w (FM (.bool (decide (48<=c)&&decide (c<=57))) w):=by
 go_enter Tryz.func135,Tryz.ntmps135;by_cases h1:48<=c
 · by_cases h2:c<=57
   · go_wp2_with fail;go_ret
     exact ⟨by simp[h1,h2],0,rfl⟩
   · go_wp2_with fail;go_ret
     exact ⟨by simp[h2],0,rfl⟩
 · go_wp2_with fail;go_ret
   exact ⟨by rw[decide_eq_false (show ¬_<=c by omega)];rfl,0,rfl⟩
theorem Sp (g:Nat->Nat) (k:Nat) (p:Nat×Nat) (h1:1<=p.1) (h2:1<=p.2) :
  1<=((List.range k).foldl (fun q i=>Df q (g i)) p).1/\((List.range k).foldl (fun q i=>Df q (g i)) p).1<=p.1+k/\1<=((List.range k).foldl (fun q i=>Df q (g i)) p).2/\((List.range k).foldl (fun q i=>Df q (g i)) p).2<=p.2+k:=by
 induction k with
 |zero=>simp;omega
 |succ k ih=> rw[List.range_succ,List.foldl_append];simp only[List.foldl_cons,List.foldl_nil];generalize (List.range k).foldl (fun q i=>Df q (g i)) p=q at *;unfold Df;split<;>(dsimp only;omega)
theorem KI (s:ByteArray) (p:Nat×Nat) (w:World) (_hs:s.size<=4611686018427387904) (h1:1<=p.1) (h2:1<=p.2) (h3:p.1+s.size<=1000000) (h4:p.2+s.size<=1000000) :
  Calls Tryz.prog 96 #[cx p,.string s] w (FM (cx ((List.range s.size).foldl (fun q i=>Df q (Ad s i)) p)) w):=by
 unfold cx;go_enter Tryz.func96,Tryz.ntmps96;go_wp2_with fail;go_loop [0,8] (fun a i=>∃k:Nat,k<=s.size/\i=.int .i64 (k:Int)/\a=cx ((List.range k).foldl (fun q i=>Df q (Ad s i)) p)) (fun _ i=>s.size-(intOf i).toNat)
 case atStart=>exact ⟨0,Nat.zero_le _,rfl,rfl⟩
 case round=>
  obtain ⟨k,hk,rfl,rfl⟩:=hrel;by_cases hkn:k<s.size
  · have hbe:=Bp s k hkn;have hstep:(List.range (k+1)).foldl (fun q i=>Df q (Ad s i)) p=Df ((List.range k).foldl (fun q i=>Df q (Ad s i)) p) (Ad s k):=(by rw[List.range_succ,List.foldl_append];rfl);have HQ:=Aa (Sp (fun i=>Ad s i) k p h1 h2);generalize hq:(List.range k).foldl (fun q i=>Df q (Ad s i)) p=q at *;obtain ⟨q1,q2⟩:=q;have HST:=Aa hstep;clear hq hstep;unfold cx;dsimp only
    by_cases hb:Ad s k=10
    · have g:((s[k]'hkn).toNat:Int)=10:=(by omega);have hs1:floatBits .sub .f64 4607182418800017408 (FL (q2:Int))=some (FL (1-(q2:Int))):=(by rw[<-Ji];exact Wj (by decide) (by have:=HQ.out;dsimp only at this;omega) (by have:=HQ.out;dsimp only at this;omega));have hc1:cSumBits .add .f64 (FL (q1:Int)) (FL (q2:Int)) 4607182418800017408 (FL (1-(q2:Int)))=some (FL ((q1+1:Nat):Int),FL 1):=by
       have e1:=LH (a:=q1) (b:=1) (by have:=HQ.out;dsimp only at this;omega) (by decide) (by have:=HQ.out;dsimp only at this;omega);have e2:=LH (a:=q2) (b:=1-q2) (by have:=HQ.out;dsimp only at this;omega) (by have:=HQ.out;dsimp only at this;omega) (by omega);rw[Ji]at e1;rw[show (q2:Int)+(1-q2)=1 by omega]at e2;unfold cSumBits;rw[e1,e2];rfl
      have r1:=run_float_arith (P:=Tryz.prog) w .sub 188 .f64 _ _ _ hs1;have r2:=run_complex_sum (P:=Tryz.prog) w .add (Or.inl rfl) 158 .f64 _ _ _ _ _ _ hc1;clear hbe hs1 hc1;go_wp2_with fail;go_round
      case rel=>exact ⟨k+1,by omega,by go_num,by rw[HST.out,Df,if_pos hb];rfl⟩
      case measure=>simp[intOf];omega
    · have g:¬((s[k]'hkn).toNat:Int)=10:=(by omega);have hc1:cSumBits .add .f64 (FL (q1:Int)) (FL (q2:Int)) 0 4607182418800017408=some (FL (q1:Int),FL ((q2+1:Nat):Int)):=by
       have e1:=LH (a:=q1) (b:=0) (by have:=HQ.out;dsimp only at this;omega) (by decide) (by have:=HQ.out;dsimp only at this;omega);have e2:=LH (a:=q2) (b:=1) (by have:=HQ.out;dsimp only at this;omega) (by decide) (by have:=HQ.out;dsimp only at this;omega);rw[Ji]at e2;rw[UF,Int.add_zero]at e1;unfold cSumBits;rw[e1,e2];rfl
      have r2:=run_complex_sum (P:=Tryz.prog) w .add (Or.inl rfl) 158 .f64 _ _ _ _ _ _ hc1;clear hbe hc1;go_wp2_with fail;go_round
      case rel=>exact ⟨k+1,by omega,by go_num,by rw[HST.out,Df,if_neg hb];rfl⟩
      case measure=>simp[intOf];omega
  · obtain rfl:k=s.size:=(by omega);unfold cx;go_wp2_with fail;go_ret
    exact ⟨rfl,0,rfl⟩
end
section
open Go.RowKit
open Lx
theorem Sq (w:World) (o:Obj) (cs:Array Value):Below w.heap.size w ((w.alloc o).setRow w.heap.size cs):=
 (Ae w o).trans ⟨rfl,rfl,rfl,by simp[World.setRow],fun k hk=>setRow_other (w.alloc o) w.heap.size k cs (by omega)⟩
theorem PF (p:Nat×Nat) (w:World) (h1:p.1<=1000000) (h2:p.2<=1000000) :
  Calls Tryz.prog 94 #[cx p] w (fun e w'=>e=.returned (.agg #[.int .i64 (p.1:Int),.int .i64 (p.2:Int)])/\Below w.heap.size w w'):=by
 have r1:∀W,(convert 188 3 (.float .f64 (FL (p.1:Int)))).run Tryz.prog W=.ok (.int .i64 (p.1:Int)) W:=fun W=>run_convert_float_int W _ _ _ _ _ _ (by kernel_rfl) (by kernel_rfl) (M0 (by omega))
 have r2:∀W,(convert 188 3 (.float .f64 (FL (p.2:Int)))).run Tryz.prog W=.ok (.int .i64 (p.2:Int)) W:=fun W=>run_convert_float_int W _ _ _ _ _ _ (by kernel_rfl) (by kernel_rfl) (M0 (by omega))
 unfold cx;go_enter Tryz.func94,Tryz.ntmps94;go_wp2_with (with_reducible refine wpList_store_row rfl 25 _ _ rfl w.heap.size #[.int .i64 (p.1:Int),.int .i64 (p.2:Int)] rfl rfl 25 #[.int .i64 0,.int .i64 0] (heap_alloc_new _ _) (by kernel_rfl) rfl (by simp[Value.oneCell']) ?_)
 refine bodyPost_ret (results_cell_row rfl _ _ w.heap.size 25 #[.int .i64 (p.1:Int),.int .i64 (p.2:Int)] (0,0) _ rfl (setRow_heap _ _ _ _ _ _ (heap_alloc_new _ _)) Tryz.underlying25 rfl (by kernel_rfl)) rfl ?_;exact ⟨rfl,Sq _ _ _⟩
theorem Qu (s:ByteArray) (w:World) (hs:s.size<=4611686018427387904) :
  Calls Tryz.prog 95 #[.string s] w (FM (.int .i64 (skip (Ad s) s.size 0 false:Nat)) w):=by
 go_enter Tryz.func95,Tryz.ntmps95;go_wp2_with fail;go_loop [3,8] (fun a i=>∃(k:Nat) (com:Bool),k<=s.size/\i=.int .i64 (k:Int)/\a=.bool com/\Hid (skip (Ad s) s.size 0 false=skip (Ad s) s.size k com)) (fun _ i=>s.size-(intOf i).toNat)
 case atStart=>exact ⟨0,false,Nat.zero_le _,rfl,rfl,Aa rfl⟩
 case round=>
  obtain ⟨k,com,hk,rfl,rfl,HE⟩:=hrel;by_cases hkn:k<s.size
  · have hbe:=Bp s k hkn;have HS:=Aa (Qs (Ad s) com hkn);by_cases hb:Ad s k=10
    · have g:((s[k]'hkn).toNat:Int)=10:=(by omega);have HF:=Aa (HE.out.trans (HS.out.trans (if_pos hb)));clear hb hbe;go_wp2_with fail;go_round
      case rel=>exact ⟨k+1,false,by omega,by go_num,rfl,HF⟩
      case measure=>simp[intOf];omega
    · have g:¬((s[k]'hkn).toNat:Int)=10:=(by omega);by_cases hb2:Ad s k=35
      · have g2:((s[k]'hkn).toNat:Int)=35:=(by omega);have HF:=Aa (HE.out.trans (HS.out.trans ((if_neg hb).trans (if_pos hb2))));clear hb hbe hb2 g;go_wp2_with fail;go_round
        case rel=>exact ⟨k+1,true,by omega,by go_num,rfl,HF⟩
        case measure=>simp[intOf];omega
      · have g2:¬((s[k]'hkn).toNat:Int)=35:=(by omega);cases com with
        |true=>
         have HF:=Aa (HE.out.trans (HS.out.trans ((if_neg hb).trans ((if_neg hb2).trans (if_neg (by simp))))));clear hb hbe hb2;go_wp2_with fail;go_round
         case rel=>exact ⟨k+1,true,by omega,by go_num,rfl,HF⟩
         case measure=>simp[intOf];omega
        |false=>
         by_cases hb3:Ad s k=32
         · have g3:((s[k]'hkn).toNat:Int)=32:=(by omega);have HF:=Aa (HE.out.trans (HS.out.trans ((if_neg hb).trans ((if_neg hb2).trans (if_neg (by simp[hb3]))))));clear hb hbe hb2 hb3 g g2;go_wp2_with fail;go_round
           case rel=>exact ⟨k+1,false,by omega,by go_num,rfl,HF⟩
           case measure=>simp[intOf];omega
         · have g3:¬((s[k]'hkn).toNat:Int)=32:=(by omega);by_cases hb4:Ad s k=9
           · have g4:((s[k]'hkn).toNat:Int)=9:=(by omega);have HF:=Aa (HE.out.trans (HS.out.trans ((if_neg hb).trans ((if_neg hb2).trans (if_neg (by simp[hb4]))))));clear hb hbe hb2 hb3 hb4 g g2 g3;go_wp2_with fail;go_round
             case rel=>exact ⟨k+1,false,by omega,by go_num,rfl,HF⟩
             case measure=>simp[intOf];omega
           · have g4:¬((s[k]'hkn).toNat:Int)=9:=(by omega);have HF:=Aa (HE.out.trans (HS.out.trans ((if_neg hb).trans ((if_neg hb2).trans (if_pos ⟨rfl,hb3,hb4⟩)))));have b3:(((s[k]'hkn).toNat:Int) != 32)=true:=(by simpa using g3);have b4:(((s[k]'hkn).toNat:Int) != 9)=true:=(by simpa using g4);clear g3 g4;clear hb hbe hb2 hb3 hb4;go_wp2_with fail;go_ret
             exact ⟨by rw[HF.out]<;>rfl,0,rfl⟩
  · obtain rfl:k=s.size:=(by omega);have HF:=Aa (HE.out.trans (Sn _ _ _));go_wp2_with fail;go_ret
    exact ⟨by rw[HF.out]<;>rfl,0,rfl⟩
theorem Jj (c:Int) (w:World):Calls Tryz.prog 134 #[.int .i32 c] w (FM (.bool ((decide (97<=c)&&decide (c<=122)) || (decide (48<=c)&&decide (c<=57)) || (c==95))) w):=by
 have hl:=Hi c w;have hd:=fun W=>FN c W
 generalize (decide (97<=c)&&decide (c<=122))=L at hl ⊢;generalize (decide (48<=c)&&decide (c<=57))=D at hd ⊢;go_enter Tryz.func134,Tryz.ntmps134;go_wp2_with fail;refine hl.mono ?_;rintro e w1 ⟨rfl,k1,rfl⟩;cases L with
 |true=>
  go_wp2_with fail;go_ret
  exact ⟨by rfl,k1,rfl⟩
 |false=>
  go_wp2_with fail;refine (hd _).mono ?_;rintro e w1 ⟨rfl,k2,rfl⟩;cases D with
  |true=>
   go_wp2_with fail;go_ret
   exact ⟨by rfl,k1+k2,rfl⟩
  |false=>
   go_wp2_with fail;go_ret
   exact ⟨by rfl,k1+k2,rfl⟩
end
section
open Go.RowKit
open Lx
theorem M1 (w:World) (k:Nat) (s:ByteArray) (p:Nat):Below w.heap.size w ((w.drewN k).iter s p):=(Ao w k).next (Ae _ _)
theorem PG (w:World) (k:Nat) (s:ByteArray) (p k1:Nat):Below w.heap.size w (((w.drewN k).iter s p).drewN k1):=(M1 w k s p).next (Ao _ _)
theorem UG (w:World) (k:Nat) (s:ByteArray) (p k1:Nat):((w.drewN k).iter s p).drewN k1=(w.drewN (k+k1)).iter s p:=by rw[<-World.drewN_drewN w k k1];rfl
theorem Qv (w:World) (k:Nat) (s:ByteArray) (p:Nat):((w.drewN k).iter s p).iterPos w.heap.size=p:=World.iterPos_iter (w.drewN k) s p
theorem Oh (w:World) (k:Nat) (s:ByteArray) (p k1:Nat):(((w.drewN k).iter s p).drewN k1).iterPos w.heap.size=p:=World.iterPos_iter (w.drewN k) s p
theorem PH (g:Nat) (t:Nat->Bool) (ht:∀(c:Nat) W,Calls Tryz.prog g #[.int .i32 (c:Int)] W (FM (.bool (t c)) W)) (hi:∀c:Nat,128<=c->t c=false) (eg:∀args W,(callFunc g args).run Tryz.prog W=.ok (.enter g args) W) (s:ByteArray) (w:World) :
  Calls Tryz.prog 133 #[.string s,.func (.func g) #[] #[]] w (fun e w'=>e=.returned (.int .i64 (stop t (Ad s) s.size 0:Nat))/\Below w.heap.size w w'):=by
 go_enter Tryz.func133,Tryz.ntmps133;go_wp2_with fail;go_loopw [] (fun wr=>∃pos k:Nat,wr=(w.drewN k).iter s pos/\pos<=s.size/\Hid (stop t (Ad s) s.size 0=stop t (Ad s) s.size pos)) (fun wr=>s.size-wr.iterPos w.heap.size)
 case atStart=>exact ⟨0,0,rfl,Nat.zero_le _,Aa rfl⟩
 case round=>
  obtain ⟨pos,k,rfl,hpos,HE⟩:=hrel;by_cases hp:pos<s.size
  · have hnx:∀ty,(Instr.next (.pointer (some ⟨w.heap.size,0,none⟩)) true ty).run Tryz.prog ((w.drewN k).iter s pos)=_:=fun ty=>run_next_any (w.drewN k) s pos ty hp
    have hbe:=Bp s pos hp;have HS:=Aa (CY t (Ad s) hp);by_cases ha:(s[pos]'hp).toNat<128
    · rw[decode_ascii s pos hp ha]at hnx;rw[<-hbe]at hnx;have hc:=ht (Ad s pos) ((w.drewN k).iter s (pos+1));by_cases hb:t (Ad s pos)=true
      · have HF:=Aa (HE.out.trans (HS.out.trans (if_pos hb)));rw[hb]at hc;clear hb hbe ha;go_wp2_with fail;refine hc.mono ?_;rintro e w1 ⟨rfl,k1,rfl⟩;go_wp2_with fail;go_roundw
        case rel=>exact ⟨pos+1,k+k1,UG _ _ _ _ _,by omega,HF⟩
        case measure=>rw[Oh,Qv];omega
      · have HF:=Aa (HE.out.trans (HS.out.trans (if_neg hb)));rw[show t (Ad s pos)=false by simpa using hb]at hc;clear hb hbe ha;go_wp2_with fail;refine hc.mono ?_;rintro e w1 ⟨rfl,k1,rfl⟩;go_wp2_with fail;go_ret
        exact ⟨by rw[HF.out]<;>rfl,PG _ _ _ _ _⟩
    · have hr:=decode_high s pos hp (by omega);have hc:=ht (Utf8.decode s pos).1 ((w.drewN k).iter s (pos+(Utf8.decode s pos).2));rw[hi _ hr.1]at hc;have hb:t (Ad s pos)=false:=hi _ (by omega);have HF:=Aa (HE.out.trans (HS.out.trans (if_neg (by rw[hb];decide))));generalize Utf8.decode s pos=q at *;obtain ⟨q1,q2⟩:=q;dsimp only at hc hnx
      clear hb hbe ha hr;go_wp2_with fail;refine hc.mono ?_;rintro e w1 ⟨rfl,k1,rfl⟩;go_wp2_with fail;go_ret
      exact ⟨by rw[HF.out]<;>rfl,PG _ _ _ _ _⟩
  · obtain rfl:pos=s.size:=(by omega);have hnx:∀ty,(Instr.next (.pointer (some ⟨w.heap.size,0,none⟩)) true ty).run Tryz.prog ((w.drewN k).iter s s.size)=_:=fun ty=>run_next_end (w.drewN k) s s.size ty hp
    have HF:=Aa (HE.out.trans (Hf t (Ad s) s.size));go_wp2_with fail;go_ret
    exact ⟨by rw[HF.out]<;>rfl,M1 _ _ _ _⟩
end
section
open Go.RowKit
open Lx
theorem Wk (s:ByteArray) (c:Nat) (_hc:c<256) (W:World):(callFunc 184 #[.string s,.int .u8 (c:Int)]).run Tryz.prog W=.ok (.value (.int .i64 (firstIdx s c.toUInt8))) W:=by refine (run_callFunc_extern (e:=Extern.BytealgIndexByte.indexByte) Tryz.func184 (by kernel_rfl) (by kernel_rfl) (by kernel_rfl) (by kernel_rfl) _ W).trans ?_;rw[run_indexByte_string];rfl
theorem UH (s:ByteArray) (c:Nat) (hc:c<256) (w:World):Calls Tryz.prog 163 #[.string s,.int .u8 (c:Int)] w (FM (.int .i64 (firstIdx s c.toUInt8)) w):=by
 have hx:=Wk s c hc;go_enter Tryz.func163,Tryz.ntmps163;go_wp2_with fail;go_ret
 exact ⟨rfl,0,rfl⟩
theorem Sr (s:ByteArray) (c:Nat) (hc:c<256) (w:World):Calls Tryz.prog 136 #[.string s,.int .u8 (c:Int)] w (FM (.int .i64 (firstIdx s c.toUInt8)) w):=by
 have hx:=fun W=>UH s c hc W
 go_enter Tryz.func136,Tryz.ntmps136;go_wp2_with fail;refine (hx _).mono ?_;rintro e w1 ⟨rfl,k,rfl⟩;go_wp2_with fail;go_ret
 exact ⟨rfl,k,rfl⟩
def M5 (p:Nat->Bool):Nat->Bool
 |0=>true
 |n+1=>p n&&M5 p n
theorem ER {p:Nat->Bool} {n c:Nat} (h:M5 p n=true) (hc:c<n):p c=true:=by
 induction n with
 |zero=>omega
 |succ n ih=>
  rw[M5,Bool.and_eq_true]at h;by_cases he:c=n
  · subst he;exact h.1
  · exact ih h.2 (by omega)
theorem Wl {c:Nat} (hc:c<256):decide (firstIdx ⟨#[88,71,70,85,82]⟩ c.toUInt8>=0)=Fh c:=by
 have h:M5 (fun c=>decide (firstIdx ⟨#[88,71,70,85,82]⟩ c.toUInt8>=0)==Fh c) 256=true:=by kernel_rfl
 simpa using ER h hc
theorem Wm {c:Nat} (hc:c<256):decide (firstIdx ⟨#[40,41,44,59,58,46,43,42,38,124,33,64,61,60,62,47,45]⟩ c.toUInt8>=0)=Jg c:=by
 have h:M5 (fun c=>decide (firstIdx ⟨#[40,41,44,59,58,46,43,42,38,124,33,64,61,60,62,47,45]⟩ c.toUInt8>=0)==Jg c) 256=true:=by kernel_rfl
 simpa using ER h hc
end
section
open Go.RowKit
open Lx
theorem Ss (s:ByteArray) (h:2<=s.size):∃a b:UInt8,(s.extract 0 2).toList=[a,b]/\a.toNat=Ad s 0/\b.toNat=Ad s 1:=by
 refine ⟨s[0]'(by omega),s[1]'(by omega),?_,(Bp s 0 (by omega)).symm,(Bp s 1 (by omega)).symm⟩;rw[Lib.toList_data];apply List.ext_getElem
 · simp;omega
 · intro i h1 h2;have hi:i<2:=(by simpa using h2);have hi2:i=0\/i=1:=(by omega);rcases hi2 with rfl|rfl<;>simp[ByteArray.getElem_eq_getElem_data]
theorem VM {a:UInt8} {n:Nat} (h:a.toNat=n) (hn:n<256):a=UInt8.ofNat n:=by apply UInt8.toNat_inj.1;rw[h,UInt8.toNat_ofNat_of_lt' hn]
theorem KJ {x y:Nat} (h:Ih x y=true):(x=45/\y=62)\/(x=58/\y=61)\/(x=33/\y=61)\/(x=60/\y=61)\/(x=62/\y=61)\/(x=46/\y=46):=by unfold Ih at h;simp at h;omega
def Fj (s:ByteArray):Nat:=if 2<=s.size/\Ih (Ad s 0) (Ad s 1)=true then 2 else if Jg (Ad s 0)=true then 1 else 0
theorem LI (s:ByteArray) (w:World) (h0:0<s.size) (hs:s.size<=4611686018427387904):Calls Tryz.prog 137 #[.string s] w (FM (.int .i64 (Fj s:Nat)) w):=by
 have hix:=Sr ⟨#[40,41,44,59,58,46,43,42,38,124,33,64,61,60,62,47,45]⟩ (Ad s 0) (Dy s 0) w;have HX:=Aa (Wm (Dy s 0));have hbe:=Bp s 0 h0;have HSZ:=Aa (show Fj s=if 2<=s.size/\Ih (Ad s 0) (Ad s 1)=true then 2 else if Jg (Ad s 0)=true then 1 else 0 from rfl);generalize Fj s=z at *;generalize firstIdx ⟨#[40,41,44,59,58,46,43,42,38,124,33,64,61,60,62,47,45]⟩ (Ad s 0).toUInt8=q at *;rw[hbe]at hix;by_cases h2:2<=s.size
 · obtain ⟨a,b,hl,ha,hb⟩:=Ss s h2;by_cases ht:Ih (Ad s 0) (Ad s 1)=true
   · have hz:z=2:=HSZ.out.trans (if_pos ⟨h2,ht⟩);have hc:=KJ ht;rw[<-ha,<-hb]at hc;subst hz;clear HX HSZ hix ht;go_enter Tryz.func137,Tryz.ntmps137;rcases hc with ⟨h1,h3⟩|⟨h1,h3⟩|⟨h1,h3⟩|⟨h1,h3⟩|⟨h1,h3⟩|⟨h1,h3⟩<;>(rw[VM h1 (by decide),VM h3 (by decide)]at hl;clear h1 h3 ha hb hbe;go_wp2_with fail;go_ret;exact ⟨rfl,0,rfl⟩)
   · have hne:∀x y:UInt8,Ih x.toNat y.toNat=true->((s.extract 0 2).toList==[x,y])=false:=by
       intro x y hxy;rw[hl];simp only[beq_eq_false_iff_ne];intro hh;injection hh with e1 e2
       injection e2 with e2 _
       rw[e1]at ha;rw[e2]at hb;rw[ha,hb]at hxy;exact ht hxy
     have n1:=hne 45 62 rfl;have n2:=hne 58 61 rfl;have n3:=hne 33 61 rfl;have n4:=hne 60 61 rfl;have n5:=hne 62 61 rfl;have n6:=hne 46 46 rfl;have HZ:=Aa (HSZ.out.trans (if_neg (fun h=>ht h.2)));clear hne ht hl ha hb HSZ;by_cases hq:q>=0
     · have hz:z=1:=HZ.out.trans (if_pos (by rw[<-HX.out];simpa using hq));subst hz;clear HZ HX hbe;go_enter Tryz.func137,Tryz.ntmps137;go_wp2_with fail;refine hix.mono ?_;rintro e w1 ⟨rfl,k,rfl⟩;go_wp2_with fail;go_ret
       exact ⟨rfl,k,rfl⟩
     · have hz:z=0:=HZ.out.trans (if_neg (by rw[<-HX.out];simpa using hq));subst hz;clear HZ HX hbe;go_enter Tryz.func137,Tryz.ntmps137;go_wp2_with fail;refine hix.mono ?_;rintro e w1 ⟨rfl,k,rfl⟩;go_wp2_with fail;go_ret
       exact ⟨rfl,k,rfl⟩
 · have HZ:=Aa (HSZ.out.trans (if_neg (fun h=>h2 h.1)));clear HSZ;by_cases hq:q>=0
   · have hz:z=1:=HZ.out.trans (if_pos (by rw[<-HX.out];simpa using hq));subst hz;clear HZ HX hbe;go_enter Tryz.func137,Tryz.ntmps137;go_wp2_with fail;refine hix.mono ?_;rintro e w1 ⟨rfl,k,rfl⟩;go_wp2_with fail;go_ret
     exact ⟨rfl,k,rfl⟩
   · have hz:z=0:=HZ.out.trans (if_neg (by rw[<-HX.out];simpa using hq));subst hz;clear HZ HX hbe;go_enter Tryz.func137,Tryz.ntmps137;go_wp2_with fail;refine hix.mono ?_;rintro e w1 ⟨rfl,k,rfl⟩;go_wp2_with fail;go_ret
     exact ⟨rfl,k,rfl⟩
end
section
open Go.RowKit
open Lx
theorem Fl {P:Program} {f:FuncId} {fn:Func} (hf:P.funcs[f]?=some fn) (hname:(fn.name=="runtime.NumGoroutine")=false) (hb:fn.body.isSome=true) (args:Array Value) (w:World):(callFunc f args).run P w=.ok (.enter f args) w:=by
 have h1:fn.name≠"runtime.NumGoroutine":=by simpa using hname
 obtain ⟨c,hc⟩:=Option.isSome_iff_exists.1 hb;simp[callFunc,hf,h1,hc,mark]
theorem lB (c:Nat):(decide (97<=(c:Int))&&decide ((c:Int)<=122))=CU c:=by unfold CU;congr 1<;>(rw[decide_eq_decide];omega)
theorem dB (c:Nat):(decide (48<=(c:Int))&&decide ((c:Int)<=57))=Bq c:=by unfold Bq;congr 1<;>(rw[decide_eq_decide];omega)
theorem wB (c:Nat):((decide (97<=(c:Int))&&decide ((c:Int)<=122)) || (decide (48<=(c:Int))&&decide ((c:Int)<=57)) || ((c:Int)==95))=DK c:=by
 rw[lB,dB];unfold DK;congr 1
 by_cases h:c=95
 · subst h;rfl
 · rw[beq_eq_false_iff_ne.2 h,beq_eq_false_iff_ne];omega
theorem UI (s:ByteArray) (w:World):Calls Tryz.prog 133 #[.string s,.func (.func 134) #[] #[]] w (fun e w'=>e=.returned (.int .i64 (stop DK (Ad s) s.size 0:Nat))/\Below w.heap.size w w'):=
 PH _ DK (fun c W=>by have h:=Jj (c:Int) W;rw[wB]at h;exact h) (fun c h=>by unfold DK CU Bq;simp;omega) (fun args W=>Fl Tryz.func134 (by kernel_rfl) (by kernel_rfl) args W) s w
theorem Su (s:ByteArray) (w:World):Calls Tryz.prog 133 #[.string s,.func (.func 135) #[] #[]] w (fun e w'=>e=.returned (.int .i64 (stop Bq (Ad s) s.size 0:Nat))/\Below w.heap.size w w'):=
 PH _ Bq (fun c W=>by have h:=FN (c:Int) W;rw[dB]at h;exact h) (fun c h=>by unfold Bq;simp;omega) (fun args W=>Fl Tryz.func135 (by kernel_rfl) (by kernel_rfl) args W) s w
def BS (s:ByteArray):Nat:=if CU (Ad s 0)=true then stop DK (Ad s) s.size 0 else if Bq (Ad s 0)=true then stop Bq (Ad s) s.size 0 else if Fh (Ad s 0)=true then 1 else Fj s
theorem KN (s:ByteArray) (w:World) (h0:0<s.size) (hs:s.size<=4611686018427387904):Calls Tryz.prog 97 #[.string s] w (fun e w'=>e=.returned (.tuple #[.int .i64 (AY (Ad s 0):Nat),.int .i64 (BS s:Nat)])/\Below w.heap.size w w'):=by
 have hlt:=Dy s 0;have hl:=Hi (Ad s 0:Int) w;rw[lB]at hl;have hd:=fun W=>FN (Ad s 0:Int) W
 simp only[dB]at hd;have hw:=fun W=>UI s W
 have hr:=fun W=>Su s W
 have hx:=fun W=>Sr ⟨#[88,71,70,85,82]⟩ (Ad s 0) hlt W
 have hz:=fun W=>LI s W h0 hs
 have HX:=Aa (Wl hlt);have HK:=Aa (show AY (Ad s 0)=if CU (Ad s 0)=true then 1 else if Bq (Ad s 0)=true then 3 else if Fh (Ad s 0)=true then 4 else 2 from rfl);have HS:=Aa (show BS s=if CU (Ad s 0)=true then stop DK (Ad s) s.size 0 else if Bq (Ad s 0)=true then stop Bq (Ad s) s.size 0 else if Fh (Ad s 0)=true then 1 else Fj s from rfl);generalize BS s=fz at *;generalize AY (Ad s 0)=tk at *;generalize firstIdx ⟨#[88,71,70,85,82]⟩ (Ad s 0).toUInt8=q at *
 generalize stop DK (Ad s) s.size 0=nw at *;generalize stop Bq (Ad s) s.size 0=nd at *;generalize Fj s=nz at *;have hbe:=Bp s 0 h0;by_cases h1:CU (Ad s 0)=true
 · have e1:tk=1:=HK.out.trans (if_pos h1);have e2:fz=nw:=HS.out.trans (if_pos h1);subst e1 e2;rw[h1]at hl;clear HK HS HX hx hz hd hr h1;rw[hbe]at hl;go_enter Tryz.func97,Tryz.ntmps97;go_wp2_with fail;refine hl.mono ?_;rintro e w1 ⟨rfl,k,rfl⟩;go_wp2_with fail;refine (hw _).mono ?_;rintro e w1 ⟨rfl,b1⟩;go_wp2_with fail;go_ret2
   exact ⟨rfl,(Ao _ _).next b1⟩
 · rw[show CU (Ad s 0)=false by simpa using h1]at hl;by_cases h2:Bq (Ad s 0)=true
   · have e1:tk=3:=HK.out.trans ((if_neg h1).trans (if_pos h2));have e2:fz=nd:=HS.out.trans ((if_neg h1).trans (if_pos h2));subst e1 e2;rw[h2]at hd;clear HK HS HX hx hz hw h1 h2;rw[hbe]at hl hd;go_enter Tryz.func97,Tryz.ntmps97;go_wp2_with fail;refine hl.mono ?_;rintro e w1 ⟨rfl,k,rfl⟩;go_wp2_with fail;refine (hd _).mono ?_;rintro e w1 ⟨rfl,k2,rfl⟩;go_wp2_with fail;refine (hr _).mono ?_;rintro e w1 ⟨rfl,b1⟩;go_wp2_with fail;go_ret2
     exact ⟨rfl,(Ao w (k+k2)).next b1⟩
   · simp only[show Bq (Ad s 0)=false by simpa using h2]at hd;rw[hbe]at hl hd hx;by_cases hq:q>=0
     · have h3:Fh (Ad s 0)=true:=(by rw[<-HX.out];simpa using hq);have e1:tk=4:=HK.out.trans ((if_neg h1).trans ((if_neg h2).trans (if_pos h3)));have e2:fz=1:=HS.out.trans ((if_neg h1).trans ((if_neg h2).trans (if_pos h3)));subst e1 e2;clear HK HS HX hz hw hr h1 h2 h3;go_enter Tryz.func97,Tryz.ntmps97;go_wp2_with fail;refine hl.mono ?_;rintro e w1 ⟨rfl,k,rfl⟩;go_wp2_with fail;refine (hd _).mono ?_;rintro e w1 ⟨rfl,k2,rfl⟩;go_wp2_with fail;refine (hx _).mono ?_
       rintro e w1 ⟨rfl,k3,rfl⟩;go_wp2_with fail;go_ret2
       exact ⟨rfl,Ao w (k+k2+k3)⟩
     · have h3:¬Fh (Ad s 0)=true:=(by rw[<-HX.out];simpa using hq);have e1:tk=2:=HK.out.trans ((if_neg h1).trans ((if_neg h2).trans (if_neg h3)));have e2:fz=nz:=HS.out.trans ((if_neg h1).trans ((if_neg h2).trans (if_neg h3)));subst e1 e2;clear HK HS HX hw hr h1 h2 h3;go_enter Tryz.func97,Tryz.ntmps97;go_wp2_with fail;refine hl.mono ?_;rintro e w1 ⟨rfl,k,rfl⟩;go_wp2_with fail;refine (hd _).mono ?_;rintro e w1 ⟨rfl,k2,rfl⟩;go_wp2_with fail;refine (hx _).mono ?_
       rintro e w1 ⟨rfl,k3,rfl⟩;go_wp2_with fail;refine (hz _).mono ?_;rintro e w1 ⟨rfl,k4,rfl⟩;go_wp2_with fail;go_ret2
       exact ⟨rfl,Ao w (k+k2+k3+k4)⟩
end
end Go.Proofs.YtgohmojcopajoaaGreatDoor
