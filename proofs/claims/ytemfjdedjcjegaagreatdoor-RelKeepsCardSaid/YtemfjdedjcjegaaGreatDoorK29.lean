/- Texts of one seat, put together: Bits64 SortNil LayRel LayBand TidyN StoreAt TidyA. -/
import Derived.Test.YtemfjdedjcjegaaGreatDoorK07
import Derived.Test.YtemfjdedjcjegaaGreatDoorK16
import Derived.Shelf.SlSortCmp.NoneTotal
import Derived.Test.YtemfjdedjcjegaaGreatDoorK01
import Derived.Test.YtemfjdedjcjegaaGreatDoorK28
import Derived.Laws.CopyRow
import Derived.Test.YtemfjdedjcjegaaGreatDoorK14
import Derived.Test.YtemfjdedjcjegaaGreatDoorK08
set_option linter.unusedVariables false
set_option linter.unusedSimpArgs false
set_option maxRecDepth 100000
set_option maxHeartbeats 16000000
namespace Go.Proofs.YtemfjdedjcjegaaGreatDoor
section
open Go.Shelf
def Tryz.lays125_ren:Go.Shelf.Ren:=⟨fun|125=>67|128=>92|129=>108|n=>n,fun|46=>105|3=>3|51=>83|53=>112|4=>4|5=>5|9=>9|n=>n,fun|n=>n⟩
theorem Tryz.lays125:Go.Proofs.Lays.n125 Tryz.prog Tryz.lays125_ren:={
 mixed:=by kernel_rfl
 f125:=Tryz.func67.trans (congrArg some (by kernel_rfl))
 f128:=Tryz.func92.trans (congrArg some (by kernel_rfl))
 f129:=Tryz.func108.trans (congrArg some (by kernel_rfl))
 t3:=Tryz.underlying3
 a3:=Tryz.isAgg3
 z3:=Tryz.sizeOf3
 v3:=Tryz.zeroValue3
 t4:=Tryz.underlying4
 a4:=Tryz.isAgg4
 z4:=Tryz.sizeOf4
 v4:=Tryz.zeroValue4
 t5:=Tryz.underlying5
 a5:=Tryz.isAgg5
 z5:=Tryz.sizeOf5
 v5:=Tryz.zeroValue5
 t9:=Tryz.underlying9
 a9:=Tryz.isAgg9
 z9:=Tryz.sizeOf9
 v9:=Tryz.zeroValue9
 t46:=Tryz.underlying105
 a46:=Tryz.isAgg105
 z46:=Tryz.sizeOf105
 v46:=Tryz.zeroValue105
 t51:=Tryz.underlying83
 a51:=Tryz.isAgg83
 z51:=Tryz.sizeOf83
 v51:=Tryz.zeroValue83
 t53:=Tryz.underlying112
 a53:=Tryz.isAgg112
 z53:=Tryz.sizeOf112
 v53:=Tryz.zeroValue112 }
theorem Tryz.bits_Len (x:Int) (w:World) (h0:0<=x) (h1:x<=18446744073709551615) :
 Calls Tryz.prog 67 #[.int .u64 x] w fun e w'=>e=.returned (.int .i64 (Lib.bitLen x.toNat))/\w'=w:=Any.bits_Len Tryz.lays125 x w h0 h1
def Tryz.lays129_ren:Go.Shelf.Ren:=⟨fun|129=>108|n=>n,fun|53=>112|3=>3|4=>4|46=>105|5=>5|9=>9|n=>n,fun|n=>n⟩
end
section
open Go.RowKit
theorem JD (f:Nat) (cb:Array Value) (w:World):Calls Tryz.prog 100 #[.slice none 0 0,.int .i64 0,.int .i64 0,.func (.func f) #[] cb] w (fun e w'=>e=.returned (.tuple #[])/\w'=w):=by
 go_enter Tryz.func100,Tryz.ntmps100;go_wp2_with fail;go_loopw [8] (fun i wr=>i=.int .i64 1/\wr=w) (fun _ _=>0)
 case atStart=>exact ⟨rfl,rfl⟩
 case round=> obtain ⟨rfl,rfl⟩:=hrel;go_wp2_with fail;first|exact bodyPost_end (results_none rfl _ _ _) rfl ⟨rfl,rfl⟩|exact bodyPost_ret (results_none rfl _ _ _) rfl ⟨rfl,rfl⟩
theorem NN (f:Nat) (cb:Array Value) (l:Int) (w:World):Calls Tryz.prog 66 #[.slice none 0 0,.int .i64 0,.int .i64 0,.int .i64 l,.func (.func f) #[] cb] w (fun e w'=>e=.returned (.tuple #[])/\w'=w):=by
 have hi:=JD f cb w;go_enter Tryz.func66,Tryz.ntmps66;go_wp2_with fail;go_loopw [1,2] (fun i j wr=>i=.int .i64 0/\j=.int .i64 0/\wr=w) (fun _ _ _=>0)
 case atStart=>exact ⟨rfl,rfl,rfl⟩
 case round=> obtain ⟨rfl,rfl,rfl⟩:=hrel;go_wp2_with fail;refine hi.mono ?_;rintro e w' ⟨rfl,rfl⟩;go_wp2_with fail;first|exact bodyPost_end (results_none rfl _ _ _) rfl ⟨rfl,rfl⟩|exact bodyPost_ret (results_none rfl _ _ _) rfl ⟨rfl,rfl⟩
theorem Jj (f:Nat) (cb:Array Value) (w:World):Calls Tryz.prog 131 #[.slice none 0 0,.int .i64 0,.int .i64 0,.func (.func f) #[] cb] w (fun e w'=>e=.returned (.tuple #[])/\w'=w):=by
 go_enter Tryz.func131,Tryz.ntmps131;go_wp2_with fail;go_loopw [8] (fun i wr=>i=.int .i64 1/\wr=w) (fun _ _=>0)
 case atStart=>exact ⟨rfl,rfl⟩
 case round=> obtain ⟨rfl,rfl⟩:=hrel;go_wp2_with fail;first|exact bodyPost_end (results_none rfl _ _ _) rfl ⟨rfl,rfl⟩|exact bodyPost_ret (results_none rfl _ _ _) rfl ⟨rfl,rfl⟩
theorem M0 (f:Nat) (cb:Array Value) (l:Int) (w:World):Calls Tryz.prog 95 #[.slice none 0 0,.int .i64 0,.int .i64 0,.int .i64 l,.func (.func f) #[] cb] w (fun e w'=>e=.returned (.tuple #[])/\w'=w):=by
 have hi:=Jj f cb w;go_enter Tryz.func95,Tryz.ntmps95;go_wp2_with fail;go_loopw [1,2] (fun i j wr=>i=.int .i64 0/\j=.int .i64 0/\wr=w) (fun _ _ _=>0)
 case atStart=>exact ⟨rfl,rfl,rfl⟩
 case round=> obtain ⟨rfl,rfl,rfl⟩:=hrel;go_wp2_with fail;refine hi.mono ?_;rintro e w' ⟨rfl,rfl⟩;go_wp2_with fail;first|exact bodyPost_end (results_none rfl _ _ _) rfl ⟨rfl,rfl⟩|exact bodyPost_ret (results_none rfl _ _ _) rfl ⟨rfl,rfl⟩
theorem M1 (f:Nat) (cb:Array Value) (w:World):Calls Tryz.prog 34 #[.slice none 0 0,.func (.func f) #[] cb] w (fun e w'=>e=.returned (.tuple #[])/\w'=w):=by have hl:=Tryz.bits_Len 0 w (by decide) (by decide);go_enter Tryz.func34,Tryz.ntmps34;go_wp2_with fail;refine hl.mono ?_;rintro e w' ⟨rfl,rfl⟩;have hp:=NN f cb (Lib.bitLen (Int.toNat 0)) w';go_wp2_with fail;refine hp.mono ?_;rintro e w2 ⟨rfl,rfl⟩;go_wp2_with fail;first|exact bodyPost_end (results_none rfl _ _ _) rfl ⟨rfl,rfl⟩|exact bodyPost_ret (results_none rfl _ _ _) rfl ⟨rfl,rfl⟩
theorem Lg (f:Nat) (cb:Array Value) (w:World):Calls Tryz.prog 61 #[.slice none 0 0,.func (.func f) #[] cb] w (fun e w'=>e=.returned (.tuple #[])/\w'=w):=by have hl:=Tryz.bits_Len 0 w (by decide) (by decide);go_enter Tryz.func61,Tryz.ntmps61;go_wp2_with fail;refine hl.mono ?_;rintro e w' ⟨rfl,rfl⟩;have hp:=M0 f cb (Lib.bitLen (Int.toNat 0)) w';go_wp2_with fail;refine hp.mono ?_;rintro e w2 ⟨rfl,rfl⟩;go_wp2_with fail;first|exact bodyPost_end (results_none rfl _ _ _) rfl ⟨rfl,rfl⟩|exact bodyPost_ret (results_none rfl _ _ _) rfl ⟨rfl,rfl⟩
end
section
open Go.Shelf
def Tryz.sortRel_ren:Go.Shelf.Ren:=⟨fun|6=>34|15=>67|14=>66|28=>92|29=>108|20=>100|21=>101|22=>102|23=>103|24=>104|25=>105|26=>106|27=>107|46=>140|47=>141|48=>142|49=>143|50=>144|57=>162|n=>n,fun|22=>22|24=>35|25=>41|3=>3|39=>105|0=>0|53=>83|55=>112|4=>4|46=>142|45=>141|50=>130|5=>5|9=>9|66=>168|70=>172|76=>187|77=>188|n=>n,fun|n=>n⟩
theorem Tryz.sortRel:Go.Proofs.SlLaysF0.n6 Tryz.prog Tryz.sortRel_ren:={
 mixed:=by kernel_rfl
 f6:=⟨Tryz.f34.name,by decide,Tryz.func34.trans (congrArg some (by kernel_rfl))⟩
 f14:=⟨Tryz.f66.name,by decide,Tryz.func66.trans (congrArg some (by kernel_rfl))⟩
 f15:=Tryz.func67.trans (congrArg some (by kernel_rfl))
 f20:=⟨Tryz.f100.name,by decide,Tryz.func100.trans (congrArg some (by kernel_rfl))⟩
 f21:=⟨Tryz.f101.name,by decide,Tryz.func101.trans (congrArg some (by kernel_rfl))⟩
 f22:=⟨Tryz.f102.name,by decide,Tryz.func102.trans (congrArg some (by kernel_rfl))⟩
 f23:=⟨Tryz.f103.name,by decide,Tryz.func103.trans (congrArg some (by kernel_rfl))⟩
 f24:=⟨Tryz.f104.name,by decide,Tryz.func104.trans (congrArg some (by kernel_rfl))⟩
 f25:=⟨Tryz.f105.name,by decide,Tryz.func105.trans (congrArg some (by kernel_rfl))⟩
 f26:=⟨Tryz.f106.name,by decide,Tryz.func106.trans (congrArg some (by kernel_rfl))⟩
 f27:=⟨Tryz.f107.name,by decide,Tryz.func107.trans (congrArg some (by kernel_rfl))⟩
 f28:=Tryz.func92.trans (congrArg some (by kernel_rfl))
 f29:=Tryz.func108.trans (congrArg some (by kernel_rfl))
 f46:=⟨Tryz.f140.name,by decide,Tryz.func140.trans (congrArg some (by kernel_rfl))⟩
 f47:=Tryz.func141.trans (congrArg some (by kernel_rfl))
 f48:=Tryz.func142.trans (congrArg some (by kernel_rfl))
 f49:=⟨Tryz.f143.name,by decide,Tryz.func143.trans (congrArg some (by kernel_rfl))⟩
 f50:=⟨Tryz.f144.name,by decide,Tryz.func144.trans (congrArg some (by kernel_rfl))⟩
 f57:=⟨Tryz.f162.name,by decide,Tryz.func162.trans (congrArg some (by kernel_rfl))⟩
 t0:=Tryz.underlying0
 a0:=Tryz.isAgg0
 z0:=Tryz.sizeOf0
 v0:=Tryz.zeroValue0
 t3:=Tryz.underlying3
 a3:=Tryz.isAgg3
 z3:=Tryz.sizeOf3
 v3:=Tryz.zeroValue3
 t4:=Tryz.underlying4
 a4:=Tryz.isAgg4
 z4:=Tryz.sizeOf4
 v4:=Tryz.zeroValue4
 t5:=Tryz.underlying5
 a5:=Tryz.isAgg5
 z5:=Tryz.sizeOf5
 v5:=Tryz.zeroValue5
 t9:=Tryz.underlying9
 a9:=Tryz.isAgg9
 z9:=Tryz.sizeOf9
 v9:=Tryz.zeroValue9
 t22:=Tryz.underlying22
 a22:=Tryz.isAgg22
 z22:=Tryz.sizeOf22
 v22:=Tryz.zeroValue22
 t25:=Tryz.underlying41
 a25:=Tryz.isAgg41
 z25:=Tryz.sizeOf41
 v25:=Tryz.zeroValue41
 t39:=Tryz.underlying105
 a39:=Tryz.isAgg105
 z39:=Tryz.sizeOf105
 v39:=Tryz.zeroValue105
 t45:=Tryz.underlying141
 a45:=Tryz.isAgg141
 z45:=Tryz.sizeOf141
 v45:=Tryz.zeroValue141
 t46:=Tryz.underlying142
 a46:=Tryz.isAgg142
 z46:=Tryz.sizeOf142
 v46:=Tryz.zeroValue142
 t50:=Tryz.underlying130
 a50:=Tryz.isAgg130
 z50:=Tryz.sizeOf130
 v50:=Tryz.zeroValue130
 t53:=Tryz.underlying83
 a53:=Tryz.isAgg83
 z53:=Tryz.sizeOf83
 v53:=Tryz.zeroValue83
 t55:=Tryz.underlying112
 a55:=Tryz.isAgg112
 z55:=Tryz.sizeOf112
 v55:=Tryz.zeroValue112
 t66:=Tryz.underlying168
 a66:=Tryz.isAgg168
 z66:=Tryz.sizeOf168
 v66:=Tryz.zeroValue168
 t70:=Tryz.underlying172
 a70:=Tryz.isAgg172
 z70:=Tryz.sizeOf172
 v70:=Tryz.zeroValue172
 t76:=Tryz.underlying187
 a76:=Tryz.isAgg187
 z76:=Tryz.sizeOf187
 v76:=Tryz.zeroValue187
 t77:=Tryz.underlying188
 a77:=Tryz.isAgg188
 z77:=Tryz.sizeOf188
 v77:=Tryz.zeroValue188 }
end
section
open Go.Shelf
def Tryz.sortBand_ren:Go.Shelf.Ren:=⟨fun|6=>61|15=>67|14=>95|28=>92|29=>108|20=>131|21=>132|22=>133|23=>134|24=>135|25=>136|26=>137|27=>138|46=>158|47=>141|48=>142|49=>159|50=>160|57=>176|n=>n,fun|22=>68|24=>72|25=>100|3=>3|39=>105|0=>0|53=>83|55=>112|4=>4|46=>142|45=>141|50=>130|5=>5|9=>9|66=>168|70=>172|76=>187|77=>188|n=>n,fun|n=>n⟩
theorem Tryz.sortBand:Go.Proofs.SlLaysF0.n6 Tryz.prog Tryz.sortBand_ren:={
 mixed:=by kernel_rfl
 f6:=⟨Tryz.f61.name,by decide,Tryz.func61.trans (congrArg some (by kernel_rfl))⟩
 f14:=⟨Tryz.f95.name,by decide,Tryz.func95.trans (congrArg some (by kernel_rfl))⟩
 f15:=Tryz.func67.trans (congrArg some (by kernel_rfl))
 f20:=⟨Tryz.f131.name,by decide,Tryz.func131.trans (congrArg some (by kernel_rfl))⟩
 f21:=⟨Tryz.f132.name,by decide,Tryz.func132.trans (congrArg some (by kernel_rfl))⟩
 f22:=⟨Tryz.f133.name,by decide,Tryz.func133.trans (congrArg some (by kernel_rfl))⟩
 f23:=⟨Tryz.f134.name,by decide,Tryz.func134.trans (congrArg some (by kernel_rfl))⟩
 f24:=⟨Tryz.f135.name,by decide,Tryz.func135.trans (congrArg some (by kernel_rfl))⟩
 f25:=⟨Tryz.f136.name,by decide,Tryz.func136.trans (congrArg some (by kernel_rfl))⟩
 f26:=⟨Tryz.f137.name,by decide,Tryz.func137.trans (congrArg some (by kernel_rfl))⟩
 f27:=⟨Tryz.f138.name,by decide,Tryz.func138.trans (congrArg some (by kernel_rfl))⟩
 f28:=Tryz.func92.trans (congrArg some (by kernel_rfl))
 f29:=Tryz.func108.trans (congrArg some (by kernel_rfl))
 f46:=⟨Tryz.f158.name,by decide,Tryz.func158.trans (congrArg some (by kernel_rfl))⟩
 f47:=Tryz.func141.trans (congrArg some (by kernel_rfl))
 f48:=Tryz.func142.trans (congrArg some (by kernel_rfl))
 f49:=⟨Tryz.f159.name,by decide,Tryz.func159.trans (congrArg some (by kernel_rfl))⟩
 f50:=⟨Tryz.f160.name,by decide,Tryz.func160.trans (congrArg some (by kernel_rfl))⟩
 f57:=⟨Tryz.f176.name,by decide,Tryz.func176.trans (congrArg some (by kernel_rfl))⟩
 t0:=Tryz.underlying0
 a0:=Tryz.isAgg0
 z0:=Tryz.sizeOf0
 v0:=Tryz.zeroValue0
 t3:=Tryz.underlying3
 a3:=Tryz.isAgg3
 z3:=Tryz.sizeOf3
 v3:=Tryz.zeroValue3
 t4:=Tryz.underlying4
 a4:=Tryz.isAgg4
 z4:=Tryz.sizeOf4
 v4:=Tryz.zeroValue4
 t5:=Tryz.underlying5
 a5:=Tryz.isAgg5
 z5:=Tryz.sizeOf5
 v5:=Tryz.zeroValue5
 t9:=Tryz.underlying9
 a9:=Tryz.isAgg9
 z9:=Tryz.sizeOf9
 v9:=Tryz.zeroValue9
 t22:=Tryz.underlying68
 a22:=Tryz.isAgg68
 z22:=Tryz.sizeOf68
 v22:=Tryz.zeroValue68
 t25:=Tryz.underlying100
 a25:=Tryz.isAgg100
 z25:=Tryz.sizeOf100
 v25:=Tryz.zeroValue100
 t39:=Tryz.underlying105
 a39:=Tryz.isAgg105
 z39:=Tryz.sizeOf105
 v39:=Tryz.zeroValue105
 t45:=Tryz.underlying141
 a45:=Tryz.isAgg141
 z45:=Tryz.sizeOf141
 v45:=Tryz.zeroValue141
 t46:=Tryz.underlying142
 a46:=Tryz.isAgg142
 z46:=Tryz.sizeOf142
 v46:=Tryz.zeroValue142
 t50:=Tryz.underlying130
 a50:=Tryz.isAgg130
 z50:=Tryz.sizeOf130
 v50:=Tryz.zeroValue130
 t53:=Tryz.underlying83
 a53:=Tryz.isAgg83
 z53:=Tryz.sizeOf83
 v53:=Tryz.zeroValue83
 t55:=Tryz.underlying112
 a55:=Tryz.isAgg112
 z55:=Tryz.sizeOf112
 v55:=Tryz.zeroValue112
 t66:=Tryz.underlying168
 a66:=Tryz.isAgg168
 z66:=Tryz.sizeOf168
 v66:=Tryz.zeroValue168
 t70:=Tryz.underlying172
 a70:=Tryz.isAgg172
 z70:=Tryz.sizeOf172
 v70:=Tryz.zeroValue172
 t76:=Tryz.underlying187
 a76:=Tryz.isAgg187
 z76:=Tryz.sizeOf187
 v76:=Tryz.zeroValue187
 t77:=Tryz.underlying188
 a77:=Tryz.isAgg188
 z77:=Tryz.sizeOf188
 v77:=Tryz.zeroValue188 }
end
section
open Tm
def tk (r:R3):Int:=AV r.1 r.2.1 r.2.2
def tt (r:R3):R3:=(Oq r.1 r.2.1 r.2.2,Qc r.1 r.2.1 r.2.2,Hk r.1 r.2.1 r.2.2)
theorem Lh {g S k:Int} (hg:0<g):(0<=g*S+k)↔(0<=S+k.fdiv g):=by
 have h1:=Int.mul_fdiv_add_fmod k g;have h2:=Int.fmod_nonneg_of_pos k hg;have h3:=Int.fmod_lt_of_pos k hg;generalize k.fdiv g=q at *;generalize k.fmod g=r at *;have e:g*S+k=g*(S+q)+r:=by rw[Int.mul_add];omega
 rw[e];constructor
 · intro h;rcases Int.lt_or_le (S+q) 0 with h4|h4
   · have:=Int.mul_le_mul_of_nonneg_left (show S+q<=-1 by omega) (Int.le_of_lt hg);omega
   · exact h4
 · intro h;have:=Int.mul_nonneg (Int.le_of_lt hg) h;omega
theorem M2 {g S k:Int} (hg:0<g) (h0:k.fmod g=0):(g*S+k=0)↔(S+k.fdiv g=0):=by
 have h1:=Int.mul_fdiv_add_fmod k g;rw[h0,Int.add_zero]at h1;rw[<-h1,Int.mul_fdiv_cancel_left _ (by omega),<-Int.mul_add];constructor
 · intro h;rcases Int.mul_eq_zero.1 h with h2|h2
   · omega
   · exact h2
 · intro h;rw[h,Int.mul_zero]
theorem Li {g S k:Int} (hg:0<g) (h0:k.fmod g≠0):g*S+k≠0:=by
 intro h;apply h0;have e:k=g*(-S):=by rw[Int.mul_neg];omega
 rw[e];exact Int.fmod_eq_zero_of_dvd (Int.dvd_mul_right g (-S))
theorem R2 (us:List Int) (L:List (Int×Int)) (h:norm L≠[]):val us L=Ai L*val us (Ct (Ai L) (norm L)):=by
 have hc:Ai L≠0:=fun hh=>h (Co.1 hh)
 rw[<-GC,Kd hc _ (GT L),I1]
theorem Dm {us:List Int} {r:R3}:(tk r=1->Bw us r=true)/\(tk r=-1->Bw us r=false)/\(tk r=0->Bw us (tt r)=Bw us r):=by
 obtain ⟨L,K,e⟩:=r;unfold tk tt Bw;dsimp only
 by_cases hn:norm L=[]
 · have hv:val us L=0:=(by rw[<-I1,hn];rfl);rw[Fo hn,hv,Int.add_zero];cases BD e K<;>simp
 · have hc:Ai L≠0:=fun hh=>hn (Co.1 hh)
   have hg:0<Ai L:=(by have:=IK L;omega);have hv:=R2 us L hn;cases e
   · have hk:=FF (K:=K) hn;obtain ⟨e1,e2,e3⟩:=Fp hk rfl;rw[e1,e2,e3,hk,hv];refine ⟨by simp,by simp,fun _=>?_⟩;have:=Lh (g:=Ai L) (S:=val us (Ct (Ai L) (norm L))) (k:=K) hg;unfold BD;simp only[Bool.false_eq_true,if_false];rw[Int.add_comm K,Int.add_comm (K.fdiv _)];exact decide_eq_decide.2 this.symm
   · by_cases hr:K.fmod (Ai L)=0
     · have hk:=Gs hn hr;have:=M2 (g:=Ai L) (S:=val us (Ct (Ai L) (norm L))) (k:=K) hg hr;rw[hk];refine ⟨by simp,by simp,fun _=>?_⟩;by_cases hf:Ds L true=true
       · obtain ⟨e1,e2,e3⟩:=KS hk hf;rw[e1,e2,e3,hv,GC];unfold BD;simp only[if_true];rw[Int.add_comm K];refine decide_eq_decide.2 ?_;rw[this];omega
       · obtain ⟨e1,e2,e3⟩:=Fp hk (by simpa using hf);rw[e1,e2,e3,hv];unfold BD;simp only[if_true];rw[Int.add_comm K,Int.add_comm (K.fdiv _)];exact decide_eq_decide.2 this.symm
     · rw[FE hn hr];refine ⟨by simp,fun _=>?_,by simp⟩;have:=Li (g:=Ai L) (S:=val us (Ct (Ai L) (norm L))) (k:=K) hg hr;unfold BD;simp only[if_true];rw[hv,Int.add_comm];exact decide_eq_false this
theorem Jk (r:R3):tk r=0\/tk r=1\/tk r=-1:=by
 unfold tk AV;repeat' split
 all_goals simp
def Uw (r:R3):Prop:=norm r.1=r.1/\r.1≠[]/\(lead r.1<0->r.2.2=false)
theorem EK (n:Int) (L:List (Int×Int)):lead (L.map fun p=>(p.1,n*p.2))=n*lead L:=by cases L<;>simp[lead]
theorem S2 {L:List (Int×Int)} (h:norm L=L) (hn:L≠[]):lead L≠0:=by
 have hp:=BX L;rw[h]at hp;cases L with
 |nil=>exact absurd rfl hn
 |cons p ps=>exact hp.2.1
theorem E5 {r:R3} (h:tk r=0):Uw (tt r):=by
 obtain ⟨L,K,e⟩:=r;unfold tk at h;unfold Uw tt;dsimp only at h ⊢
 have hn:norm L≠[]:=by intro hn;rw[Fo hn]at h;split at h<;>simp at h
 have hq:Ct (Ai L) (norm L)≠[]:=by intro hh;apply hn;unfold Ct at hh;simpa using hh
 by_cases hf:Ds L e=true
 · obtain ⟨e1,e2,e3⟩:=KS h hf;rw[e1,e3];refine ⟨GW L,by simpa using hq,fun hl=>?_⟩;rw[EK]at hl;unfold Ds at hf;simp at hf;omega
 · obtain ⟨e1,e2,e3⟩:=Fp h (by simpa using hf);rw[e1,e3];refine ⟨GV L,hq,fun hl=>?_⟩;unfold Ds at hf;simp at hf;cases e
   · rfl
   · have:=hf rfl;omega
def PI (b:Bd):Prop:=norm b.S=b.S/\0<lead b.S/\(b.lo.isSome=true\/b.hi.isSome=true)
theorem Ek {L:List (Int×Int)} (h:norm L=L):BE L=L.map fun p=>(p.1,-1*p.2):=by unfold BE;rw[DL (by decide),h]
theorem El (L:List (Int×Int)):norm (BE L)=BE L:=JX _
theorem M3 {r:R3} (h:Uw r):PI (CZ r):=by
 obtain ⟨L,K,e⟩:=r;obtain ⟨h1,h2,h3⟩:=h;dsimp only at h1 h2 h3
 have h0:=S2 h1 h2;unfold CZ PI;dsimp only
 by_cases hl:lead L<0
 · rw[if_pos hl];refine ⟨El L,?_,.inr rfl⟩;dsimp only
   rw[Ek h1,EK];omega
 · rw[if_neg hl];exact ⟨h1,by dsimp only;omega,.inl rfl⟩
theorem Hf (f:Int->Int->Int) (a b:Option Int):(strict f a b).isSome=(a.isSome || b.isSome):=by cases a<;>cases b<;>rfl
theorem M4 {a b:Bd} (h:PI a) (_:PI b):PI (Cx a b):=by
 obtain ⟨h1,h2,h3⟩:=h;refine ⟨h1,h2,?_⟩;unfold Cx;dsimp only
 rw[Hf,Hf];rcases h3 with h3|h3<;>simp[h3]
def NO (b:Bd):Nat:=((BI b).getD []).length
theorem Oz (b:Bd):NO b<=2:=by
 obtain ⟨S,lo,hi⟩:=b;unfold NO BI;dsimp only
 cases lo<;>cases hi<;>dsimp only
 · simp
 · simp
 · simp
 · split
   · simp
   · split<;>simp
def PK (b:Bd):Nat:=if b.lo.isSome&&b.hi.isSome&&decide (b.lo≠b.hi) then 2 else 1
theorem TI (b:Bd):NO b<=PK b:=by
 obtain ⟨S,lo,hi⟩:=b;unfold NO BI PK;dsimp only
 cases lo<;>cases hi<;>dsimp only
 · simp
 · simp
 · simp
 · rename_i x y
   split
   · simp
   · split
     · rename_i h;subst h;simp
     · rename_i h;simp[h]
theorem R6 (b:Bd):1<=PK b:=by unfold PK;split<;>decide
theorem Ul (b:Bd):PK b<=2:=by unfold PK;split<;>decide
theorem S3 (r:R3):PK (CZ r)=1:=by
 unfold CZ PK;split
 · rfl
 · cases r.2.2<;>simp
def GJ (r:List Bd):Nat:=(r.map PK).sum
theorem PL (r:List Bd) (b:Bd) (hb:PK b=1):GJ (pushB r b)<=GJ r+1:=by
 rcases List.eq_nil_or_concat r with rfl|⟨r,x,rfl⟩
 · simp[E4,GJ,hb]
 · rw[List.concat_eq_append,Cj];have h1:=R6 x;have h2:=Ul (Cx x b);split
   · simp[GJ];omega
   · simp[GJ,hb];omega
theorem Kw (bs:List Bd) (h:∀b∈bs,PK b=1):GJ (BN bs)<=bs.length:=by
 have key:∀(l r:List Bd),(∀b∈l,PK b=1)->GJ (l.foldl pushB r)<=GJ r+l.length:=by
  intro l;induction l with
  |nil=>intro r _;simp
  |cons b l ih=> intro r hl;rw[List.foldl_cons];have h1:=ih (pushB r b) (fun c hc=>hl c (by simp[hc]));have h2:=PL r b (hl b (by simp));rw[List.length_cons];omega
 have:=key bs [] h;simpa[BN,GJ] using this
def EQ (bs:List Bd):List R3:=(bs.map fun b=>(BI b).getD []).flatten
theorem Lj (bs:List Bd):(EQ bs).length<=GJ bs:=by
 induction bs with
 |nil=>exact Nat.le_refl _
 |cons b bs ih=> have h:=TI b;unfold EQ GJ NO at *;simp only[List.map_cons,List.flatten_cons,List.length_append,List.sum_cons];omega
theorem Jl {b:Bd} {rs:List R3} {r:R3} (hb:PI b) (h:BI b=some rs) (hr:r∈rs):norm r.1=r.1/\((r.1=b.S/\0<lead r.1)\/(r.1=BE b.S/\lead r.1<0/\r.2.2=false)):=by
 obtain ⟨S,lo,hi⟩:=b;obtain ⟨h1,h2,-⟩:=hb;dsimp only at h1 h2
 have h3:lead (BE S)<0:=by rw[Ek h1,EK];omega
 have h4:=El S;unfold BI at h;dsimp only at h ⊢
 cases lo<;>cases hi<;>dsimp only at h
 · cases h;simp at hr
 · cases h
   rw[List.mem_singleton]at hr;subst hr;exact ⟨h4,.inr ⟨rfl,h3,rfl⟩⟩
 · cases h
   rw[List.mem_singleton]at hr;subst hr;exact ⟨h1,.inl ⟨rfl,h2⟩⟩
 · split at h
   · cases h
   · split at h
     · cases h
       rw[List.mem_singleton]at hr;subst hr;exact ⟨h1,.inl ⟨rfl,h2⟩⟩
     · cases h
       simp only[List.mem_cons,List.not_mem_nil,or_false]at hr;rcases hr with rfl|rfl
       · exact ⟨h1,.inl ⟨rfl,h2⟩⟩
       · exact ⟨h4,.inr ⟨rfl,h3,rfl⟩⟩
theorem R7 {a b:List (Int×Int)} (ha:norm a=a) (hb:norm b=b) (h:BE a=BE b):a=b:=by rw[Ek ha,Ek hb]at h;have h2:=congrArg (List.map fun p:Int×Int=>(p.1,-1*p.2)) h;simpa[List.map_map,Function.comp_def] using h2
theorem Jm {bs:List Bd} (hu:PF bs) (hok:∀b∈bs,PI b) (hs:∀b∈bs,BI b≠none):(EQ bs).Pairwise fun a b=>a.1≠b.1:=by
 induction bs with
 |nil=>exact List.Pairwise.nil
 |cons b bs ih=>
  unfold PF at hu;rw[List.pairwise_cons]at hu;have ih:=ih hu.2 (fun c hc=>hok c (by simp[hc])) (fun c hc=>hs c (by simp[hc]));unfold EQ at *;simp only[List.map_cons,List.flatten_cons];rw[List.pairwise_append];obtain ⟨rs,hrs⟩:=Option.ne_none_iff_exists'.1 (hs b (by simp));have hb:=hok b (by simp);rw[hrs,Option.getD_some];refine ⟨?_,ih,?_⟩
  · obtain ⟨S,lo,hi⟩:=b;unfold BI at hrs;dsimp only at hrs
    have h3:lead (BE S)<0:=by have h0:norm S=S:=hb.1;have h9:0<lead S:=hb.2.1;rw[Ek h0,EK];omega
    have h5:=hb.2.1;dsimp only at h5
    cases lo<;>cases hi<;>dsimp only at hrs
    · cases hrs;simp
    · cases hrs;simp
    · cases hrs;simp
    · split at hrs
      · cases hrs
      · split at hrs
        · cases hrs;simp
        · cases hrs
          simp;intro hh;rw[<-hh]at h3;omega
  · intro x hx y hy hxy;obtain ⟨l,hl,hy⟩:=List.mem_flatten.1 hy;obtain ⟨c,hc,rfl⟩:=List.mem_map.1 hl;obtain ⟨rs',hrs'⟩:=Option.ne_none_iff_exists'.1 (hs c (by simp[hc]));rw[hrs',Option.getD_some]at hy;have hcok:=hok c (by simp[hc]);obtain ⟨-,h1⟩:=Jl hb hrs hx;obtain ⟨-,h2⟩:=Jl hcok hrs' hy;have hlt:=hu.1 c hc;have hne:b.S≠c.S:=fun hh=>by rw[hh,Dh.refl]at hlt;omega
    rw[hxy]at h1;rcases h1 with ⟨h1,h1'⟩|⟨h1,h1',-⟩
    · rcases h2 with ⟨h2,h2'⟩|⟨h2,h2',-⟩
      · exact hne (h1.symm.trans h2)
      · omega
    · rcases h2 with ⟨h2,h2'⟩|⟨h2,h2',-⟩
      · omega
      · exact hne (R7 hb.1 hcok.1 (h1.symm.trans h2))
def BS (rs:List R3):List Bd:=(rs.filter fun r=>decide (tk r=0)).map fun r=>CZ (tt r)
def G3 (rs:List R3):Option (List R3)->Prop
 |none=>(∃r∈rs,tk r=-1)\/∃bs:List Bd,bs.Perm (BS rs)/\Cq bs/\∃b∈BN bs,BI b=none
 |some out=>(∀r∈rs,tk r≠-1)/\∃bs:List Bd,bs.Perm (BS rs)/\Cq bs/\(∀b∈BN bs,BI b≠none)/\out.Perm (EQ (BN bs))/\out.Pairwise fun a b=>EU a b<=0
theorem F5 (rs:List R3):∀b∈BS rs,PI b/\PK b=1:=by intro b hb;obtain ⟨r,hr,rfl⟩:=List.mem_map.1 hb;obtain ⟨-,h2⟩:=List.mem_filter.1 hr;exact ⟨M3 (E5 (by simpa using h2)),S3 _⟩
theorem G4 (us:List Int) (rs:List R3) (h:∀r∈rs,tk r≠-1):(∀b∈BS rs,Jt b (val us b.S))↔∀r∈rs,Bw us r=true:=by
 constructor
 · intro hb r hr;obtain ⟨h1,h2,h3⟩:=Dm (us:=us) (r:=r);rcases Jk r with h0|h0|h0
   · rw[<-h3 h0,Jh (E5 h0).2.2];exact hb _ (List.mem_map.2 ⟨r,List.mem_filter.2 ⟨hr,by simpa using h0⟩,rfl⟩)
   · exact h1 h0
   · exact absurd h0 (h r hr)
 · intro hr b hb;obtain ⟨r,hm,rfl⟩:=List.mem_map.1 hb;obtain ⟨hm,h0⟩:=List.mem_filter.1 hm;have h0:tk r=0:=(by simpa using h0);rw[<-Jh (E5 h0).2.2,(Dm (us:=us)).2.2 h0];exact hr r hm
theorem PM {us:List Int} {rs:List R3} (h:G3 rs none):¬∀r∈rs,Bw us r=true:=by
 intro ha;rcases h with ⟨r,hr,h⟩|⟨bs,hp,hs,b,hb,h⟩
 · have:=(Dm (us:=us)).2.1 h;rw[ha r hr]at this;cases this
 · have hk:∀r∈rs,tk r≠-1:=fun r hr hk=>by
    have:=(Dm (us:=us)).2.1 hk;rw[ha r hr]at this;cases this
   have h1:=(G4 us rs hk).2 ha;have h2:=(Hd us bs).2 (fun c hc=>h1 c (hp.mem_iff.1 hc));exact PH h _ (h2 b hb)
theorem PN {us:List Int} {rs out:List R3} (h:G3 rs (some out)):(∀r∈out,Bw us r=true)↔∀r∈rs,Bw us r=true:=by
 obtain ⟨hk,bs,hp,hs,hn,ho,hc⟩:=h;rw[<-G4 us rs hk];have h1:(∀b∈BS rs,Jt b (val us b.S))↔∀b∈bs,Jt b (val us b.S):=⟨fun h b hb=>h b (hp.mem_iff.1 hb),fun h b hb=>h b (hp.mem_iff.2 hb)⟩;rw[h1,<-Hd];constructor
 · intro h b hb;obtain ⟨l,hl⟩:=Option.ne_none_iff_exists'.1 (hn b hb);rw[<-Ku hl];intro r hr;exact h r (ho.mem_iff.2 (List.mem_flatten.2 ⟨l,List.mem_map.2 ⟨b,hb,by rw[hl];rfl⟩,hr⟩))
 · intro h r hr;obtain ⟨l,hl,hr⟩:=List.mem_flatten.1 (ho.mem_iff.1 hr);obtain ⟨b,hb,rfl⟩:=List.mem_map.1 hl;obtain ⟨l,hl⟩:=Option.ne_none_iff_exists'.1 (hn b hb);rw[hl,Option.getD_some]at hr;exact (Ku hl).2 (h b hb) r hr
theorem M5 {rs out:List R3} (h:G3 rs (some out)):out.length<=rs.length:=by
 obtain ⟨hk,bs,hp,hs,hn,ho,hc⟩:=h;have h1:=Lj (BN bs);have h2:=Kw bs (fun b hb=>(F5 rs b (hp.mem_iff.1 hb)).2);have h3:=hp.length_eq;have h4:(BS rs).length<=rs.length:=by unfold BS;rw[List.length_map];exact List.length_filter_le _ _
 rw[ho.length_eq];omega
theorem EL {rs out:List R3} (h:G3 rs (some out)):out.Pairwise fun a b=>EU a b<0:=by
 obtain ⟨hk,bs,hp,hs,hn,ho,hc⟩:=h;have hok:∀b∈BN bs,PI b:=GI PI (fun x y hx hy _=>M4 hx hy) (fun b hb=>(F5 rs b (hp.mem_iff.1 hb)).1);have hd:=Jm (DY hs) hok hn;have hd2:out.Pairwise fun a b=>a.1≠b.1:=(ho.pairwise_iff (R:=fun a b:R3=>a.1≠b.1) (fun h h2=>h h2.symm)).2 hd
 have hnn:∀r∈out,norm r.1=r.1:=by intro r hr;obtain ⟨l,hl,hr⟩:=List.mem_flatten.1 (ho.mem_iff.1 hr);obtain ⟨b,hb,rfl⟩:=List.mem_map.1 hl;obtain ⟨l,hl⟩:=Option.ne_none_iff_exists'.1 (hn b hb);rw[hl,Option.getD_some]at hr;exact (Jl (hok b hb) hl hr).1
 have h2:=hc.and hd2;refine List.Pairwise.imp_of_mem (fun {a b} ha hb hh=>?_) h2;obtain ⟨h3,h4⟩:=hh;by_cases h0:EU a b=0
 · exact absurd (congrArg Prod.fst (PE (hnn a ha) (hnn b hb) h0)) h4
 · omega
end
section
open Go.RowKit
def putAt (cur:Array Value) (off:Nat) (cells:Array Value):Array Value:=(cur.toList.take off++cells.toList++cur.toList.drop (off+cells.size)).toArray
theorem FG {P:Program} {w:World} {o:Oper} {a:Act} {T T2:TypeId} {x y:Operand} {g off:Nat} {cells cur:Array Value} (ho:o.op=.store T x y) (hx:a.eval x=.pointer (some ⟨g,off,none⟩)) (hy:a.eval y=.agg cells) (hg:w.heap[g]?=some (.cells cur T2 (0,0)))
  (hi:(P.info? T).map (·.size)=some cells.size) (hfit:off+cells.size<=cur.size) (h1:cells.all (·.oneCell')=true):∃w',(execOp a.eval o).run P w=.ok .skip w'/\w'.heap[g]?=some (.cells (putAt cur off cells) T2 (0,0))/\Ao g w w':=by
 have hr:=run_storeCells_at (P:=P) g off T2 cells.toList 0 cur w hg (by simpa using hfit) (fun v hv=>(Array.all_eq_true_iff_forall_mem.1 h1) v (by simpa using hv));refine ⟨w.setRow g (putAt cur off cells),?_,setRow_heap w g cur _ _ _ hg,CE w g _⟩;have hst:(storeVar T ⟨g,off,none⟩ (.agg cells)).run P w=.ok () (w.setRow g (putAt cur off cells)):=by
  cases hq:P.info? T with
  |none=>simp[hq]at hi
  |some i=> have hs:cells.size=i.size:=(by simp[hq]at hi;omega);simp only[Nat.add_zero,Array.length_toList]at hr;simp[storeVar,sizeOf,typeInfo,hq,Value.cells,hs];rw[hr];rfl
 unfold execOp;simp only[ho,hx,hy,Instr.storeAt,Instr.sureAddr,Sem.run_bind,Sem.run_pure,Result.andThen_ok,hst]
theorem Does.store_at {P:Program} {w:World} {o:Oper} {a:Act} {T T2:TypeId} {x y g off:Nat} {cells cur:Array Value} {R:Value->World->Prop} (ho:o.op=.store T (.tmp x) (.tmp y)) (hx:a.tmps.getD x undef=.pointer (some ⟨g,off,none⟩)) (hy:a.tmps.getD y undef=.agg cells) (hg:w.heap[g]?=some (.cells cur T2 (0,0)))
  (hi:(P.info? T).map (·.size)=some cells.size) (hfit:off+cells.size<=cur.size) (h1:cells.all (·.oneCell')=true) (hR:∀w',w'.heap[g]?=some (.cells (putAt cur off cells) T2 (0,0))->Ao g w w'->R undef w'):Does P a o w R:=by
 obtain ⟨w',h2,h3,h4⟩:=FG (P:=P) (a:=a) ho hx hy hg hi hfit h1;exact Does.skip h2 (hR w' h3 h4)
theorem Ht {P:Program} {w:World} {ops:Array Oper} {rest:List Oper} {o:Oper} {a:Act} {Q:Exit->Act->World->Prop} (hgd:o.guard=none) (T T2:TypeId) (x y:Operand) (ho:o.op=.store T x y)
  (g off:Nat) (cells:Array Value) (hx:a.eval x=.pointer (some ⟨g,off,none⟩)) (hy:a.eval y=.agg cells) (cur:Array Value) (hg:w.heap[g]?=some (.cells cur T2 (0,0))) (hi:(P.info? T).map (·.size)=some cells.size) (hfit:off+cells.size<=cur.size) (h1:cells.all (·.oneCell')=true)
  (h:∀w',w'.heap[g]?=some (.cells (putAt cur off cells) T2 (0,0))->Ao g w w'->wpList P ops Q rest (a.put o.dst undef) w'):wpList P ops Q (o::rest) a w:=by
 obtain ⟨w',h2,h3,h4⟩:=FG (P:=P) (a:=a) ho hx hy hg hi hfit h1;refine wpList_plain hgd fun K hK=>?_
 unfold Oper.wp;rw[h2];exact hK _ _ (h w' h3 h4)
end
section
open Go.RowKit
open Tm
structure EV where
 g:Bool
 s:Bool
 B:Option Addr
 m:Nat
 d:Nat
 Z:Int
def EV.cells (e:EV):List Value:=[.bool e.g,.bool e.s,.slice e.B e.m e.d]
def EV.agg (e:EV):Value:=.agg #[.bool e.g,.bool e.s,.slice e.B e.m e.d]
def EV.num (e:EV):Value:=.agg #[.bool e.s,.slice e.B e.m e.d]
def EV.opt (e:EV):Option Int:=if e.g=true then some e.Z else none
structure BV where
 A:Option Addr
 n:Nat
 c:Nat
 s:Bool
 B:Option Addr
 m:Nat
 d:Nat
 lo:EV
 hi:EV
 S:List (Int×Int)
def BV.trm (b:BV):Value:=.agg #[.slice b.A b.n b.c,.bool b.s,.slice b.B b.m b.d]
def BV.cells (b:BV):List Value:=[.slice b.A b.n b.c,.bool b.s,.slice b.B b.m b.d,.bool b.lo.g,.bool b.lo.s,.slice b.lo.B b.lo.m b.lo.d,.bool b.hi.g,.bool b.hi.s,.slice b.hi.B b.hi.m b.hi.d]
def BV.agg (b:BV):Value:=.agg #[.slice b.A b.n b.c,.bool b.s,.slice b.B b.m b.d,.bool b.lo.g,.bool b.lo.s,.slice b.lo.B b.lo.m b.lo.d,.bool b.hi.g,.bool b.hi.s,.slice b.hi.B b.hi.m b.hi.d]
def BV.bd (b:BV):Bd:=⟨b.S,b.lo.opt,b.hi.opt⟩
def Ck (w:World) (b:BV) (k:Nat):Prop:=An w b.trm b.S 0 k/\Au w b.lo.num b.lo.Z k/\Au w b.hi.num b.hi.Z k
theorem Ck.below {w w':World} {b:BV} {k:Nat} (h:Ck w b k) (hb:Below w.heap.size w w'):Ck w' b k:=⟨h.1.below hb,h.2.1.below hb,h.2.2.below hb⟩
theorem Ck.mono {w:World} {b:BV} {k j:Nat} (h:Ck w b k) (hj:k<=j):Ck w b j:=⟨h.1.mono hj,h.2.1.mono hj,h.2.2.mono hj⟩
theorem Ck.kt {w w':World} {b:BV} {k:Nat} (h:Ck w b k) (hk:Kt w w'):Ck w' b k:=⟨hk.2 _ _ _ _ h.1,hk.z h.2.1,hk.z h.2.2⟩
def O0 (bd:Bd) (k:Nat) (w:World) (e:Ending) (w':World):Prop:=∃b:BV,e=.returned b.agg/\Ck w' b k/\b.bd=bd/\Below w.heap.size w w'
def O1 (o:Option Int) (k:Nat) (w:World) (e:Ending) (w':World):Prop:=∃x:EV,e=.returned x.agg/\Au w' x.num x.Z k/\x.opt=o/\Below w.heap.size w w'
theorem BV.nis (b:BV):Fw b.cells:=by intro u hu;simp[BV.cells]at hu;rcases hu with rfl|rfl|rfl|rfl|rfl|rfl|rfl|rfl|rfl<;>first|exact NI.slice _ _ _|exact NI.bool _
theorem RV.nis (b:RV):Fw b.cells:=by intro u hu;simp[RV.cells]at hu;rcases hu with rfl|rfl|rfl|rfl<;>first|exact NI.slice _ _ _|exact NI.bool _
theorem EV.nis (b:EV):Fw b.cells:=by intro u hu;simp[EV.cells]at hu;rcases hu with rfl|rfl|rfl<;>first|exact NI.slice _ _ _|exact NI.bool _
theorem Aw.kt {T:TypeId} {w w':World} {g:Nat} {cs:Array Value} (h:Aw T w g cs) (hn:Fw cs.toList) (ho:Ao g w w'):Kt w w':=Kt.ni ⟨cs,T,h,hn⟩ ho
theorem Di {fn:Func} {R:Ending->World->Prop} {a:Act} {w:World} {g p:Nat} {cs:Array Value} (hres:fn.results=#[.cell p 72]) (hp:a.tmps.getD p undef=.pointer (some ⟨g,0,none⟩))
  (hb:Aw 72 w g cs) (hs:cs.size=9) (hd:a.defers=[]) (hR:R (.returned (.agg cs)) w):bodyPost Tryz.prog fn R .ret a w:=
 bodyPost_ret (results_cell_row hres _ _ g _ cs _ _ hp hb Tryz.underlying72 rfl (by rw[hs];kernel_rfl)) hd hR
theorem Cr {fn:Func} {R:Ending->World->Prop} {a:Act} {w:World} {g p:Nat} {cs:Array Value} (hres:fn.results=#[.cell p 70]) (hp:a.tmps.getD p undef=.pointer (some ⟨g,0,none⟩))
  (hb:Aw 70 w g cs) (hs:cs.size=3) (hd:a.defers=[]) (hR:R (.returned (.agg cs)) w):bodyPost Tryz.prog fn R .ret a w:=
 bodyPost_ret (results_cell_row hres _ _ g _ cs _ _ hp hb Tryz.underlying70 rfl (by rw[hs];kernel_rfl)) hd hR
theorem E6 {w:World} {ops:Array Oper} {rest:List Oper} {o:Oper} {a:Act} {Q:Exit->Act->World->Prop} (hgd:o.guard=none) (x y:Operand) (ho:o.op=.store 70 x y)
  (p:Nat) (g s:Bool) (B:Option Addr) (m d:Nat) (hx:a.eval x=.pointer (some ⟨p,0,none⟩)) (hy:a.eval y=.agg #[.bool g,.bool s,.slice B m d]) (u v z:Value) (hb:Aw 70 w p #[u,v,z])
  (h:∀w',Aw 70 w' p #[.bool g,.bool s,.slice B m d]->Ao p w w'->wpList Tryz.prog ops Q rest (a.put o.dst undef) w'):wpList Tryz.prog ops Q (o::rest) a w:=
 Cm hgd 70 x y ho p _ hx hy _ hb (by kernel_rfl) rfl (by simp[Value.oneCell']) h
theorem Em {w:World} {ops:Array Oper} {rest:List Oper} {o:Oper} {a:Act} {Q:Exit->Act->World->Prop} (hgd:o.guard=none) (x y:Operand) (ho:o.op=.store 72 x y)
  (p:Nat) (A:Option Addr) (n c:Nat) (s:Bool) (B:Option Addr) (m d:Nat) (g1 s1:Bool) (B1:Option Addr) (m1 d1:Nat) (g2 s2:Bool) (B2:Option Addr) (m2 d2:Nat) (hx:a.eval x=.pointer (some ⟨p,0,none⟩)) (hy:a.eval y=.agg #[.slice A n c,.bool s,.slice B m d,.bool g1,.bool s1,.slice B1 m1 d1,.bool g2,.bool s2,.slice B2 m2 d2]) (z0 z1 z2 z3 z4 z5 z6 z7 z8:Value) (hb:Aw 72 w p #[z0,z1,z2,z3,z4,z5,z6,z7,z8])
  (h:∀w',Aw 72 w' p #[.slice A n c,.bool s,.slice B m d,.bool g1,.bool s1,.slice B1 m1 d1,.bool g2,.bool s2,.slice B2 m2 d2]->Ao p w w'->wpList Tryz.prog ops Q rest (a.put o.dst undef) w'):wpList Tryz.prog ops Q (o::rest) a w:=
 Cm hgd 72 x y ho p _ hx hy _ hb (by kernel_rfl) rfl (by simp[Value.oneCell']) h
theorem PO {T:TypeId} {w:World} {g:Nat} {a0 a1 a2 a3 a4 a5 a6 a7 a8 x y z:Value} (h:w.heap[g]?=some (.cells (putAt #[a0,a1,a2,a3,a4,a5,a6,a7,a8] 6 #[x,y,z]) T (0,0))):Aw T w g #[a0,a1,a2,a3,a4,a5,x,y,z]:=h
theorem Hu {w:World} {ops:Array Oper} {rest:List Oper} {o:Oper} {a:Act} {Q:Exit->Act->World->Prop} (hgd:o.guard=none) (x y:Operand) (ho:o.op=.store 70 x y)
  (p:Nat) (g s:Bool) (B:Option Addr) (m d:Nat) (hx:a.eval x=.pointer (some ⟨p,6,none⟩)) (hy:a.eval y=.agg #[.bool g,.bool s,.slice B m d]) (a0 a1 a2 a3 a4 a5 a6 a7 a8:Value) (hb:Aw 72 w p #[a0,a1,a2,a3,a4,a5,a6,a7,a8])
  (h:∀w',Aw 72 w' p #[a0,a1,a2,a3,a4,a5,.bool g,.bool s,.slice B m d]->Ao p w w'->wpList Tryz.prog ops Q rest (a.put o.dst undef) w'):wpList Tryz.prog ops Q (o::rest) a w:=
 Ht hgd 70 72 x y ho p 6 _ hx hy _ hb (by kernel_rfl) (by simp) (by simp[Value.oneCell']) (fun w' h1 h2=>h w' (PO h1) h2)
end
end Go.Proofs.YtemfjdedjcjegaaGreatDoor
