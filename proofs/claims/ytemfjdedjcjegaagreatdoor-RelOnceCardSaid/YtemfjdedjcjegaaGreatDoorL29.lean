/- Texts of one seat, put together: SortNil LayRel LayBand TidyN StoreAt TidyA Sorts. -/
import Derived.Test.YtemfjdedjcjegaaGreatDoorL28
import Derived.Test.YtemfjdedjcjegaaGreatDoorL16
import Derived.Shelf.SlSortCmp.NoneTotal
import Derived.Test.YtemfjdedjcjegaaGreatDoorL01
import Derived.Laws.CopyRow
import Derived.Test.YtemfjdedjcjegaaGreatDoorL14
import Derived.Test.YtemfjdedjcjegaaGreatDoorL08
import Derived.Test.YtemfjdedjcjegaaGreatDoorL20
set_option linter.unusedVariables false
set_option linter.unusedSimpArgs false
set_option maxRecDepth 100000
set_option maxHeartbeats 16000000
namespace Go.Proofs.YtemfjdedjcjegaaGreatDoor
section
open Go.RowKit
theorem J8 (f:Nat) (cb:Array Value) (w:World):Calls Tryz.prog 100 #[.slice none 0 0,.int .i64 0,.int .i64 0,.func (.func f) #[] cb] w (fun e w'=>e=.returned (.tuple #[])/\w'=w):=by
 go_enter Tryz.func100,Tryz.ntmps100;go_wp2_with fail;go_loopw [8] (fun i wr=>i=.int .i64 1/\wr=w) (fun _ _=>0)
 case atStart=>exact ⟨rfl,rfl⟩
 case round=> obtain ⟨rfl,rfl⟩:=hrel;go_wp2_with fail;first|exact bodyPost_end (results_none rfl _ _ _) rfl ⟨rfl,rfl⟩|exact bodyPost_ret (results_none rfl _ _ _) rfl ⟨rfl,rfl⟩
theorem NB (f:Nat) (cb:Array Value) (l:Int) (w:World):Calls Tryz.prog 66 #[.slice none 0 0,.int .i64 0,.int .i64 0,.int .i64 l,.func (.func f) #[] cb] w (fun e w'=>e=.returned (.tuple #[])/\w'=w):=by
 have hi:=J8 f cb w;go_enter Tryz.func66,Tryz.ntmps66;go_wp2_with fail;go_loopw [1,2] (fun i j wr=>i=.int .i64 0/\j=.int .i64 0/\wr=w) (fun _ _ _=>0)
 case atStart=>exact ⟨rfl,rfl,rfl⟩
 case round=> obtain ⟨rfl,rfl,rfl⟩:=hrel;go_wp2_with fail;refine hi.mono ?_;rintro e w' ⟨rfl,rfl⟩;go_wp2_with fail;first|exact bodyPost_end (results_none rfl _ _ _) rfl ⟨rfl,rfl⟩|exact bodyPost_ret (results_none rfl _ _ _) rfl ⟨rfl,rfl⟩
theorem Jg (f:Nat) (cb:Array Value) (w:World):Calls Tryz.prog 131 #[.slice none 0 0,.int .i64 0,.int .i64 0,.func (.func f) #[] cb] w (fun e w'=>e=.returned (.tuple #[])/\w'=w):=by
 go_enter Tryz.func131,Tryz.ntmps131;go_wp2_with fail;go_loopw [8] (fun i wr=>i=.int .i64 1/\wr=w) (fun _ _=>0)
 case atStart=>exact ⟨rfl,rfl⟩
 case round=> obtain ⟨rfl,rfl⟩:=hrel;go_wp2_with fail;first|exact bodyPost_end (results_none rfl _ _ _) rfl ⟨rfl,rfl⟩|exact bodyPost_ret (results_none rfl _ _ _) rfl ⟨rfl,rfl⟩
theorem Mp (f:Nat) (cb:Array Value) (l:Int) (w:World):Calls Tryz.prog 95 #[.slice none 0 0,.int .i64 0,.int .i64 0,.int .i64 l,.func (.func f) #[] cb] w (fun e w'=>e=.returned (.tuple #[])/\w'=w):=by
 have hi:=Jg f cb w;go_enter Tryz.func95,Tryz.ntmps95;go_wp2_with fail;go_loopw [1,2] (fun i j wr=>i=.int .i64 0/\j=.int .i64 0/\wr=w) (fun _ _ _=>0)
 case atStart=>exact ⟨rfl,rfl,rfl⟩
 case round=> obtain ⟨rfl,rfl,rfl⟩:=hrel;go_wp2_with fail;refine hi.mono ?_;rintro e w' ⟨rfl,rfl⟩;go_wp2_with fail;first|exact bodyPost_end (results_none rfl _ _ _) rfl ⟨rfl,rfl⟩|exact bodyPost_ret (results_none rfl _ _ _) rfl ⟨rfl,rfl⟩
theorem Mq (f:Nat) (cb:Array Value) (w:World):Calls Tryz.prog 34 #[.slice none 0 0,.func (.func f) #[] cb] w (fun e w'=>e=.returned (.tuple #[])/\w'=w):=by have hl:=Tryz.bits_Len 0 w (by decide) (by decide);go_enter Tryz.func34,Tryz.ntmps34;go_wp2_with fail;refine hl.mono ?_;rintro e w' ⟨rfl,rfl⟩;have hp:=NB f cb (Lib.bitLen (Int.toNat 0)) w';go_wp2_with fail;refine hp.mono ?_;rintro e w2 ⟨rfl,rfl⟩;go_wp2_with fail;first|exact bodyPost_end (results_none rfl _ _ _) rfl ⟨rfl,rfl⟩|exact bodyPost_ret (results_none rfl _ _ _) rfl ⟨rfl,rfl⟩
theorem KY (f:Nat) (cb:Array Value) (w:World):Calls Tryz.prog 61 #[.slice none 0 0,.func (.func f) #[] cb] w (fun e w'=>e=.returned (.tuple #[])/\w'=w):=by have hl:=Tryz.bits_Len 0 w (by decide) (by decide);go_enter Tryz.func61,Tryz.ntmps61;go_wp2_with fail;refine hl.mono ?_;rintro e w' ⟨rfl,rfl⟩;have hp:=Mp f cb (Lib.bitLen (Int.toNat 0)) w';go_wp2_with fail;refine hp.mono ?_;rintro e w2 ⟨rfl,rfl⟩;go_wp2_with fail;first|exact bodyPost_end (results_none rfl _ _ _) rfl ⟨rfl,rfl⟩|exact bodyPost_ret (results_none rfl _ _ _) rfl ⟨rfl,rfl⟩
end
section
open Go.Shelf
def Tryz.sortRel_ren:Go.Shelf.Ren:=⟨fun|6=>34|15=>67|14=>66|28=>92|29=>108|20=>100|21=>101|22=>102|23=>103|24=>104|25=>105|26=>106|27=>107|46=>140|47=>141|48=>142|49=>143|50=>144|57=>162|n=>n,fun|22=>22|24=>35|25=>41|3=>3|39=>105|0=>0|53=>83|55=>112|4=>4|46=>142|45=>141|50=>130|5=>5|9=>9|66=>168|70=>172|76=>187|77=>188|n=>n,fun|n=>n⟩
theorem Tryz.sortRel:Go.Proofs.SlLaysF0.n6 Tryz.prog Tryz.sortRel_ren:={
 mixed:=by kernel_rfl
 f6:=⟨Tryz.f34.name,by decide,Tryz.func34.trans (congrArg some (by kernel_rfl))⟩
 f14:=⟨Tryz.f66.name,by decide,Tryz.func66.trans (congrArg some (by kernel_rfl))⟩
 f15:=Tryz.func67.trans (congrArg some (by kernel_rfl))
 f20:=⟨Tryz.f100.name,by decide,Tryz.func100.trans (congrArg some (by kernel_rfl))⟩
 f21:=⟨Tryz.f101.name,by decide,Tryz.func101.trans (congrArg some (by kernel_rfl))⟩
 f22:=⟨Tryz.f102.name,by decide,Tryz.func102.trans (congrArg some (by kernel_rfl))⟩
 f23:=⟨Tryz.f103.name,by decide,Tryz.func103.trans (congrArg some (by kernel_rfl))⟩
 f24:=⟨Tryz.f104.name,by decide,Tryz.func104.trans (congrArg some (by kernel_rfl))⟩
 f25:=⟨Tryz.f105.name,by decide,Tryz.func105.trans (congrArg some (by kernel_rfl))⟩
 f26:=⟨Tryz.f106.name,by decide,Tryz.func106.trans (congrArg some (by kernel_rfl))⟩
 f27:=⟨Tryz.f107.name,by decide,Tryz.func107.trans (congrArg some (by kernel_rfl))⟩
 f28:=Tryz.func92.trans (congrArg some (by kernel_rfl))
 f29:=Tryz.func108.trans (congrArg some (by kernel_rfl))
 f46:=⟨Tryz.f140.name,by decide,Tryz.func140.trans (congrArg some (by kernel_rfl))⟩
 f47:=Tryz.func141.trans (congrArg some (by kernel_rfl))
 f48:=Tryz.func142.trans (congrArg some (by kernel_rfl))
 f49:=⟨Tryz.f143.name,by decide,Tryz.func143.trans (congrArg some (by kernel_rfl))⟩
 f50:=⟨Tryz.f144.name,by decide,Tryz.func144.trans (congrArg some (by kernel_rfl))⟩
 f57:=⟨Tryz.f162.name,by decide,Tryz.func162.trans (congrArg some (by kernel_rfl))⟩
 t0:=Tryz.underlying0
 a0:=Tryz.isAgg0
 z0:=Tryz.sizeOf0
 v0:=Tryz.zeroValue0
 t3:=Tryz.underlying3
 a3:=Tryz.isAgg3
 z3:=Tryz.sizeOf3
 v3:=Tryz.zeroValue3
 t4:=Tryz.underlying4
 a4:=Tryz.isAgg4
 z4:=Tryz.sizeOf4
 v4:=Tryz.zeroValue4
 t5:=Tryz.underlying5
 a5:=Tryz.isAgg5
 z5:=Tryz.sizeOf5
 v5:=Tryz.zeroValue5
 t9:=Tryz.underlying9
 a9:=Tryz.isAgg9
 z9:=Tryz.sizeOf9
 v9:=Tryz.zeroValue9
 t22:=Tryz.underlying22
 a22:=Tryz.isAgg22
 z22:=Tryz.sizeOf22
 v22:=Tryz.zeroValue22
 t25:=Tryz.underlying41
 a25:=Tryz.isAgg41
 z25:=Tryz.sizeOf41
 v25:=Tryz.zeroValue41
 t39:=Tryz.underlying105
 a39:=Tryz.isAgg105
 z39:=Tryz.sizeOf105
 v39:=Tryz.zeroValue105
 t45:=Tryz.underlying141
 a45:=Tryz.isAgg141
 z45:=Tryz.sizeOf141
 v45:=Tryz.zeroValue141
 t46:=Tryz.underlying142
 a46:=Tryz.isAgg142
 z46:=Tryz.sizeOf142
 v46:=Tryz.zeroValue142
 t50:=Tryz.underlying130
 a50:=Tryz.isAgg130
 z50:=Tryz.sizeOf130
 v50:=Tryz.zeroValue130
 t53:=Tryz.underlying83
 a53:=Tryz.isAgg83
 z53:=Tryz.sizeOf83
 v53:=Tryz.zeroValue83
 t55:=Tryz.underlying112
 a55:=Tryz.isAgg112
 z55:=Tryz.sizeOf112
 v55:=Tryz.zeroValue112
 t66:=Tryz.underlying168
 a66:=Tryz.isAgg168
 z66:=Tryz.sizeOf168
 v66:=Tryz.zeroValue168
 t70:=Tryz.underlying172
 a70:=Tryz.isAgg172
 z70:=Tryz.sizeOf172
 v70:=Tryz.zeroValue172
 t76:=Tryz.underlying187
 a76:=Tryz.isAgg187
 z76:=Tryz.sizeOf187
 v76:=Tryz.zeroValue187
 t77:=Tryz.underlying188
 a77:=Tryz.isAgg188
 z77:=Tryz.sizeOf188
 v77:=Tryz.zeroValue188 }
end
section
open Go.Shelf
def Tryz.sortBand_ren:Go.Shelf.Ren:=⟨fun|6=>61|15=>67|14=>95|28=>92|29=>108|20=>131|21=>132|22=>133|23=>134|24=>135|25=>136|26=>137|27=>138|46=>158|47=>141|48=>142|49=>159|50=>160|57=>176|n=>n,fun|22=>68|24=>72|25=>100|3=>3|39=>105|0=>0|53=>83|55=>112|4=>4|46=>142|45=>141|50=>130|5=>5|9=>9|66=>168|70=>172|76=>187|77=>188|n=>n,fun|n=>n⟩
theorem Tryz.sortBand:Go.Proofs.SlLaysF0.n6 Tryz.prog Tryz.sortBand_ren:={
 mixed:=by kernel_rfl
 f6:=⟨Tryz.f61.name,by decide,Tryz.func61.trans (congrArg some (by kernel_rfl))⟩
 f14:=⟨Tryz.f95.name,by decide,Tryz.func95.trans (congrArg some (by kernel_rfl))⟩
 f15:=Tryz.func67.trans (congrArg some (by kernel_rfl))
 f20:=⟨Tryz.f131.name,by decide,Tryz.func131.trans (congrArg some (by kernel_rfl))⟩
 f21:=⟨Tryz.f132.name,by decide,Tryz.func132.trans (congrArg some (by kernel_rfl))⟩
 f22:=⟨Tryz.f133.name,by decide,Tryz.func133.trans (congrArg some (by kernel_rfl))⟩
 f23:=⟨Tryz.f134.name,by decide,Tryz.func134.trans (congrArg some (by kernel_rfl))⟩
 f24:=⟨Tryz.f135.name,by decide,Tryz.func135.trans (congrArg some (by kernel_rfl))⟩
 f25:=⟨Tryz.f136.name,by decide,Tryz.func136.trans (congrArg some (by kernel_rfl))⟩
 f26:=⟨Tryz.f137.name,by decide,Tryz.func137.trans (congrArg some (by kernel_rfl))⟩
 f27:=⟨Tryz.f138.name,by decide,Tryz.func138.trans (congrArg some (by kernel_rfl))⟩
 f28:=Tryz.func92.trans (congrArg some (by kernel_rfl))
 f29:=Tryz.func108.trans (congrArg some (by kernel_rfl))
 f46:=⟨Tryz.f158.name,by decide,Tryz.func158.trans (congrArg some (by kernel_rfl))⟩
 f47:=Tryz.func141.trans (congrArg some (by kernel_rfl))
 f48:=Tryz.func142.trans (congrArg some (by kernel_rfl))
 f49:=⟨Tryz.f159.name,by decide,Tryz.func159.trans (congrArg some (by kernel_rfl))⟩
 f50:=⟨Tryz.f160.name,by decide,Tryz.func160.trans (congrArg some (by kernel_rfl))⟩
 f57:=⟨Tryz.f176.name,by decide,Tryz.func176.trans (congrArg some (by kernel_rfl))⟩
 t0:=Tryz.underlying0
 a0:=Tryz.isAgg0
 z0:=Tryz.sizeOf0
 v0:=Tryz.zeroValue0
 t3:=Tryz.underlying3
 a3:=Tryz.isAgg3
 z3:=Tryz.sizeOf3
 v3:=Tryz.zeroValue3
 t4:=Tryz.underlying4
 a4:=Tryz.isAgg4
 z4:=Tryz.sizeOf4
 v4:=Tryz.zeroValue4
 t5:=Tryz.underlying5
 a5:=Tryz.isAgg5
 z5:=Tryz.sizeOf5
 v5:=Tryz.zeroValue5
 t9:=Tryz.underlying9
 a9:=Tryz.isAgg9
 z9:=Tryz.sizeOf9
 v9:=Tryz.zeroValue9
 t22:=Tryz.underlying68
 a22:=Tryz.isAgg68
 z22:=Tryz.sizeOf68
 v22:=Tryz.zeroValue68
 t25:=Tryz.underlying100
 a25:=Tryz.isAgg100
 z25:=Tryz.sizeOf100
 v25:=Tryz.zeroValue100
 t39:=Tryz.underlying105
 a39:=Tryz.isAgg105
 z39:=Tryz.sizeOf105
 v39:=Tryz.zeroValue105
 t45:=Tryz.underlying141
 a45:=Tryz.isAgg141
 z45:=Tryz.sizeOf141
 v45:=Tryz.zeroValue141
 t46:=Tryz.underlying142
 a46:=Tryz.isAgg142
 z46:=Tryz.sizeOf142
 v46:=Tryz.zeroValue142
 t50:=Tryz.underlying130
 a50:=Tryz.isAgg130
 z50:=Tryz.sizeOf130
 v50:=Tryz.zeroValue130
 t53:=Tryz.underlying83
 a53:=Tryz.isAgg83
 z53:=Tryz.sizeOf83
 v53:=Tryz.zeroValue83
 t55:=Tryz.underlying112
 a55:=Tryz.isAgg112
 z55:=Tryz.sizeOf112
 v55:=Tryz.zeroValue112
 t66:=Tryz.underlying168
 a66:=Tryz.isAgg168
 z66:=Tryz.sizeOf168
 v66:=Tryz.zeroValue168
 t70:=Tryz.underlying172
 a70:=Tryz.isAgg172
 z70:=Tryz.sizeOf172
 v70:=Tryz.zeroValue172
 t76:=Tryz.underlying187
 a76:=Tryz.isAgg187
 z76:=Tryz.sizeOf187
 v76:=Tryz.zeroValue187
 t77:=Tryz.underlying188
 a77:=Tryz.isAgg188
 z77:=Tryz.sizeOf188
 v77:=Tryz.zeroValue188 }
end
section
open Tm
def tk (r:R3):Int:=AM r.1 r.2.1 r.2.2
def tt (r:R3):R3:=(IJ r.1 r.2.1 r.2.2,J0 r.1 r.2.1 r.2.2,EQ r.1 r.2.1 r.2.2)
theorem Mr (r:R3):tk r=0\/tk r=1\/tk r=-1:=by
 unfold tk AM;repeat' split
 all_goals simp
def Uj (r:R3):Prop:=norm r.1=r.1/\r.1≠[]/\(lead r.1<0->r.2.2=false)
theorem Eb (n:Int) (L:List (Int×Int)):lead (L.map fun p=>(p.1,n*p.2))=n*lead L:=by cases L<;>simp[lead]
theorem Sk {L:List (Int×Int)} (h:norm L=L) (hn:L≠[]):lead L≠0:=by
 have hp:=BZ L;rw[h]at hp;cases L with
 |nil=>exact absurd rfl hn
 |cons p ps=>exact hp.2.1
theorem F0 {r:R3} (h:tk r=0):Uj (tt r):=by
 obtain ⟨L,K,e⟩:=r;unfold tk at h;unfold Uj tt;dsimp only at h ⊢
 have hn:norm L≠[]:=by intro hn;rw[Fp hn]at h;split at h<;>simp at h
 have hq:Cm (Ai L) (norm L)≠[]:=by intro hh;apply hn;unfold Cm at hh;simpa using hh
 by_cases hf:Da L e=true
 · obtain ⟨e1,e2,e3⟩:=KL h hf;rw[e1,e3];refine ⟨GW L,by simpa using hq,fun hl=>?_⟩;rw[Eb]at hl;unfold Da at hf;simp at hf;omega
 · obtain ⟨e1,e2,e3⟩:=Fq h (by simpa using hf);rw[e1,e3];refine ⟨Ft L,hq,fun hl=>?_⟩;unfold Da at hf;simp at hf;cases e
   · rfl
   · have:=hf rfl;omega
def M7 (b:Bd):Prop:=norm b.S=b.S/\0<lead b.S/\(b.lo.isSome=true\/b.hi.isSome=true)
theorem Cq {L:List (Int×Int)} (h:norm L=L):Bl L=L.map fun p=>(p.1,-1*p.2):=by unfold Bl;rw[Dg (by decide),h]
theorem CO (L:List (Int×Int)):norm (Bl L)=Bl L:=JR _
theorem Ms {r:R3} (h:Uj r):M7 (BL r):=by
 obtain ⟨L,K,e⟩:=r;obtain ⟨h1,h2,h3⟩:=h;dsimp only at h1 h2 h3
 have h0:=Sk h1 h2;unfold BL M7;dsimp only
 by_cases hl:lead L<0
 · rw[if_pos hl];refine ⟨CO L,?_,.inr rfl⟩;dsimp only
   rw[Cq h1,Eb];omega
 · rw[if_neg hl];exact ⟨h1,by dsimp only;omega,.inl rfl⟩
theorem He (f:Int->Int->Int) (a b:Option Int):(strict f a b).isSome=(a.isSome || b.isSome):=by cases a<;>cases b<;>rfl
theorem Jh {a b:Bd} (h:M7 a) (_:M7 b):M7 (D9 a b):=by
 obtain ⟨h1,h2,h3⟩:=h;refine ⟨h1,h2,?_⟩;unfold D9;dsimp only
 rw[He,He];rcases h3 with h3|h3<;>simp[h3]
def NC (b:Bd):Nat:=((BH b).getD []).length
theorem Ol (b:Bd):NC b<=2:=by
 obtain ⟨S,lo,hi⟩:=b;unfold NC BH;dsimp only
 cases lo<;>cases hi<;>dsimp only
 · simp
 · simp
 · simp
 · split
   · simp
   · split<;>simp
def P4 (b:Bd):Nat:=if b.lo.isSome&&b.hi.isSome&&decide (b.lo≠b.hi) then 2 else 1
theorem Tu (b:Bd):NC b<=P4 b:=by
 obtain ⟨S,lo,hi⟩:=b;unfold NC BH P4;dsimp only
 cases lo<;>cases hi<;>dsimp only
 · simp
 · simp
 · simp
 · rename_i x y
   split
   · simp
   · split
     · rename_i h;subst h;simp
     · rename_i h;simp[h]
theorem Ri (b:Bd):1<=P4 b:=by unfold P4;split<;>decide
theorem TZ (b:Bd):P4 b<=2:=by unfold P4;split<;>decide
theorem Sl (r:R3):P4 (BL r)=1:=by
 unfold BL P4;split
 · rfl
 · cases r.2.2<;>simp
def GL (r:List Bd):Nat:=(r.map P4).sum
theorem P5 (r:List Bd) (b:Bd) (hb:P4 b=1):GL (pushB r b)<=GL r+1:=by
 rcases List.eq_nil_or_concat r with rfl|⟨r,x,rfl⟩
 · simp[FA,GL,hb]
 · rw[List.concat_eq_append,CE];have h1:=Ri x;have h2:=TZ (D9 x b);split
   · simp[GL];omega
   · simp[GL,hb];omega
theorem Km (bs:List Bd) (h:∀b∈bs,P4 b=1):GL (BN bs)<=bs.length:=by
 have key:∀(l r:List Bd),(∀b∈l,P4 b=1)->GL (l.foldl pushB r)<=GL r+l.length:=by
  intro l;induction l with
  |nil=>intro r _;simp
  |cons b l ih=> intro r hl;rw[List.foldl_cons];have h1:=ih (pushB r b) (fun c hc=>hl c (by simp[hc]));have h2:=P5 r b (hl b (by simp));rw[List.length_cons];omega
 have:=key bs [] h;simpa[BN,GL] using this
def E6 (bs:List Bd):List R3:=(bs.map fun b=>(BH b).getD []).flatten
theorem KZ (bs:List Bd):(E6 bs).length<=GL bs:=by
 induction bs with
 |nil=>exact Nat.le_refl _
 |cons b bs ih=> have h:=Tu b;unfold E6 GL NC at *;simp only[List.map_cons,List.flatten_cons,List.length_append,List.sum_cons];omega
theorem Ji {b:Bd} {rs:List R3} {r:R3} (hb:M7 b) (h:BH b=some rs) (hr:r∈rs):norm r.1=r.1/\((r.1=b.S/\0<lead r.1)\/(r.1=Bl b.S/\lead r.1<0/\r.2.2=false)):=by
 obtain ⟨S,lo,hi⟩:=b;obtain ⟨h1,h2,-⟩:=hb;dsimp only at h1 h2
 have h3:lead (Bl S)<0:=by rw[Cq h1,Eb];omega
 have h4:=CO S;unfold BH at h;dsimp only at h ⊢
 cases lo<;>cases hi<;>dsimp only at h
 · cases h;simp at hr
 · cases h
   rw[List.mem_singleton]at hr;subst hr;exact ⟨h4,.inr ⟨rfl,h3,rfl⟩⟩
 · cases h
   rw[List.mem_singleton]at hr;subst hr;exact ⟨h1,.inl ⟨rfl,h2⟩⟩
 · split at h
   · cases h
   · split at h
     · cases h
       rw[List.mem_singleton]at hr;subst hr;exact ⟨h1,.inl ⟨rfl,h2⟩⟩
     · cases h
       simp only[List.mem_cons,List.not_mem_nil,or_false]at hr;rcases hr with rfl|rfl
       · exact ⟨h1,.inl ⟨rfl,h2⟩⟩
       · exact ⟨h4,.inr ⟨rfl,h3,rfl⟩⟩
theorem Rj {a b:List (Int×Int)} (ha:norm a=a) (hb:norm b=b) (h:Bl a=Bl b):a=b:=by rw[Cq ha,Cq hb]at h;have h2:=congrArg (List.map fun p:Int×Int=>(p.1,-1*p.2)) h;simpa[List.map_map,Function.comp_def] using h2
theorem Jj {bs:List Bd} (hu:N9 bs) (hok:∀b∈bs,M7 b) (hs:∀b∈bs,BH b≠none):(E6 bs).Pairwise fun a b=>a.1≠b.1:=by
 induction bs with
 |nil=>exact List.Pairwise.nil
 |cons b bs ih=>
  unfold N9 at hu;rw[List.pairwise_cons]at hu;have ih:=ih hu.2 (fun c hc=>hok c (by simp[hc])) (fun c hc=>hs c (by simp[hc]));unfold E6 at *;simp only[List.map_cons,List.flatten_cons];rw[List.pairwise_append];obtain ⟨rs,hrs⟩:=Option.ne_none_iff_exists'.1 (hs b (by simp));have hb:=hok b (by simp);rw[hrs,Option.getD_some];refine ⟨?_,ih,?_⟩
  · obtain ⟨S,lo,hi⟩:=b;unfold BH at hrs;dsimp only at hrs
    have h3:lead (Bl S)<0:=by have h0:norm S=S:=hb.1;have h9:0<lead S:=hb.2.1;rw[Cq h0,Eb];omega
    have h5:=hb.2.1;dsimp only at h5
    cases lo<;>cases hi<;>dsimp only at hrs
    · cases hrs;simp
    · cases hrs;simp
    · cases hrs;simp
    · split at hrs
      · cases hrs
      · split at hrs
        · cases hrs;simp
        · cases hrs
          simp;intro hh;rw[<-hh]at h3;omega
  · intro x hx y hy hxy;obtain ⟨l,hl,hy⟩:=List.mem_flatten.1 hy;obtain ⟨c,hc,rfl⟩:=List.mem_map.1 hl;obtain ⟨rs',hrs'⟩:=Option.ne_none_iff_exists'.1 (hs c (by simp[hc]));rw[hrs',Option.getD_some]at hy;have hcok:=hok c (by simp[hc]);obtain ⟨-,h1⟩:=Ji hb hrs hx;obtain ⟨-,h2⟩:=Ji hcok hrs' hy;have hlt:=hu.1 c hc;have hne:b.S≠c.S:=fun hh=>by rw[hh,Cy.refl]at hlt;omega
    rw[hxy]at h1;rcases h1 with ⟨h1,h1'⟩|⟨h1,h1',-⟩
    · rcases h2 with ⟨h2,h2'⟩|⟨h2,h2',-⟩
      · exact hne (h1.symm.trans h2)
      · omega
    · rcases h2 with ⟨h2,h2'⟩|⟨h2,h2',-⟩
      · omega
      · exact hne (Rj hb.1 hcok.1 (h1.symm.trans h2))
def BI (rs:List R3):List Bd:=(rs.filter fun r=>decide (tk r=0)).map fun r=>BL (tt r)
def G7 (rs:List R3):Option (List R3)->Prop
 |none=>(∃r∈rs,tk r=-1)\/∃bs:List Bd,bs.Perm (BI rs)/\Cp bs/\∃b∈BN bs,BH b=none
 |some out=>(∀r∈rs,tk r≠-1)/\∃bs:List Bd,bs.Perm (BI rs)/\Cp bs/\(∀b∈BN bs,BH b≠none)/\out.Perm (E6 (BN bs))/\out.Pairwise fun a b=>Je a b<=0
theorem E7 (rs:List R3):∀b∈BI rs,M7 b/\P4 b=1:=by intro b hb;obtain ⟨r,hr,rfl⟩:=List.mem_map.1 hb;obtain ⟨-,h2⟩:=List.mem_filter.1 hr;exact ⟨Ms (F0 (by simpa using h2)),Sl _⟩
theorem Mt {rs out:List R3} (h:G7 rs (some out)):out.length<=rs.length:=by
 obtain ⟨hk,bs,hp,hs,hn,ho,hc⟩:=h;have h1:=KZ (BN bs);have h2:=Km bs (fun b hb=>(E7 rs b (hp.mem_iff.1 hb)).2);have h3:=hp.length_eq;have h4:(BI rs).length<=rs.length:=by unfold BI;rw[List.length_map];exact List.length_filter_le _ _
 rw[ho.length_eq];omega
theorem EN {rs out:List R3} (h:G7 rs (some out)):out.Pairwise fun a b=>Je a b<0:=by
 obtain ⟨hk,bs,hp,hs,hn,ho,hc⟩:=h;have hok:∀b∈BN bs,M7 b:=FB M7 (fun x y hx hy _=>Jh hx hy) (fun b hb=>(E7 rs b (hp.mem_iff.1 hb)).1);have hd:=Jj (Cw hs) hok hn;have hd2:out.Pairwise fun a b=>a.1≠b.1:=(ho.pairwise_iff (R:=fun a b:R3=>a.1≠b.1) (fun h h2=>h h2.symm)).2 hd
 have hnn:∀r∈out,norm r.1=r.1:=by intro r hr;obtain ⟨l,hl,hr⟩:=List.mem_flatten.1 (ho.mem_iff.1 hr);obtain ⟨b,hb,rfl⟩:=List.mem_map.1 hl;obtain ⟨l,hl⟩:=Option.ne_none_iff_exists'.1 (hn b hb);rw[hl,Option.getD_some]at hr;exact (Ji (hok b hb) hl hr).1
 have h2:=hc.and hd2;refine List.Pairwise.imp_of_mem (fun {a b} ha hb hh=>?_) h2;obtain ⟨h3,h4⟩:=hh;by_cases h0:Je a b=0
 · exact absurd (congrArg Prod.fst (P0 (hnn a ha) (hnn b hb) h0)) h4
 · omega
end
section
open Go.RowKit
def putAt (cur:Array Value) (off:Nat) (cells:Array Value):Array Value:=(cur.toList.take off++cells.toList++cur.toList.drop (off+cells.size)).toArray
theorem FK {P:Program} {w:World} {o:Oper} {a:Act} {T T2:TypeId} {x y:Operand} {g off:Nat} {cells cur:Array Value} (ho:o.op=.store T x y) (hx:a.eval x=.pointer (some ⟨g,off,none⟩)) (hy:a.eval y=.agg cells) (hg:w.heap[g]?=some (.cells cur T2 (0,0)))
  (hi:(P.info? T).map (·.size)=some cells.size) (hfit:off+cells.size<=cur.size) (h1:cells.all (·.oneCell')=true):∃w',(execOp a.eval o).run P w=.ok .skip w'/\w'.heap[g]?=some (.cells (putAt cur off cells) T2 (0,0))/\Ao g w w':=by
 have hr:=run_storeCells_at (P:=P) g off T2 cells.toList 0 cur w hg (by simpa using hfit) (fun v hv=>(Array.all_eq_true_iff_forall_mem.1 h1) v (by simpa using hv));refine ⟨w.setRow g (putAt cur off cells),?_,setRow_heap w g cur _ _ _ hg,CF w g _⟩;have hst:(storeVar T ⟨g,off,none⟩ (.agg cells)).run P w=.ok () (w.setRow g (putAt cur off cells)):=by
  cases hq:P.info? T with
  |none=>simp[hq]at hi
  |some i=> have hs:cells.size=i.size:=(by simp[hq]at hi;omega);simp only[Nat.add_zero,Array.length_toList]at hr;simp[storeVar,sizeOf,typeInfo,hq,Value.cells,hs];rw[hr];rfl
 unfold execOp;simp only[ho,hx,hy,Instr.storeAt,Instr.sureAddr,Sem.run_bind,Sem.run_pure,Result.andThen_ok,hst]
theorem Does.store_at {P:Program} {w:World} {o:Oper} {a:Act} {T T2:TypeId} {x y g off:Nat} {cells cur:Array Value} {R:Value->World->Prop} (ho:o.op=.store T (.tmp x) (.tmp y)) (hx:a.tmps.getD x undef=.pointer (some ⟨g,off,none⟩)) (hy:a.tmps.getD y undef=.agg cells) (hg:w.heap[g]?=some (.cells cur T2 (0,0)))
  (hi:(P.info? T).map (·.size)=some cells.size) (hfit:off+cells.size<=cur.size) (h1:cells.all (·.oneCell')=true) (hR:∀w',w'.heap[g]?=some (.cells (putAt cur off cells) T2 (0,0))->Ao g w w'->R undef w'):Does P a o w R:=by
 obtain ⟨w',h2,h3,h4⟩:=FK (P:=P) (a:=a) ho hx hy hg hi hfit h1;exact Does.skip h2 (hR w' h3 h4)
theorem Hr {P:Program} {w:World} {ops:Array Oper} {rest:List Oper} {o:Oper} {a:Act} {Q:Exit->Act->World->Prop} (hgd:o.guard=none) (T T2:TypeId) (x y:Operand) (ho:o.op=.store T x y)
  (g off:Nat) (cells:Array Value) (hx:a.eval x=.pointer (some ⟨g,off,none⟩)) (hy:a.eval y=.agg cells) (cur:Array Value) (hg:w.heap[g]?=some (.cells cur T2 (0,0))) (hi:(P.info? T).map (·.size)=some cells.size) (hfit:off+cells.size<=cur.size) (h1:cells.all (·.oneCell')=true)
  (h:∀w',w'.heap[g]?=some (.cells (putAt cur off cells) T2 (0,0))->Ao g w w'->wpList P ops Q rest (a.put o.dst undef) w'):wpList P ops Q (o::rest) a w:=by
 obtain ⟨w',h2,h3,h4⟩:=FK (P:=P) (a:=a) ho hx hy hg hi hfit h1;refine wpList_plain hgd fun K hK=>?_
 unfold Oper.wp;rw[h2];exact hK _ _ (h w' h3 h4)
end
section
open Go.RowKit
open Tm
structure EV where
 g:Bool
 s:Bool
 B:Option Addr
 m:Nat
 d:Nat
 Z:Int
def EV.cells (e:EV):List Value:=[.bool e.g,.bool e.s,.slice e.B e.m e.d]
def EV.agg (e:EV):Value:=.agg #[.bool e.g,.bool e.s,.slice e.B e.m e.d]
def EV.num (e:EV):Value:=.agg #[.bool e.s,.slice e.B e.m e.d]
def EV.opt (e:EV):Option Int:=if e.g=true then some e.Z else none
structure BV where
 A:Option Addr
 n:Nat
 c:Nat
 s:Bool
 B:Option Addr
 m:Nat
 d:Nat
 lo:EV
 hi:EV
 S:List (Int×Int)
def BV.trm (b:BV):Value:=.agg #[.slice b.A b.n b.c,.bool b.s,.slice b.B b.m b.d]
def BV.cells (b:BV):List Value:=[.slice b.A b.n b.c,.bool b.s,.slice b.B b.m b.d,.bool b.lo.g,.bool b.lo.s,.slice b.lo.B b.lo.m b.lo.d,.bool b.hi.g,.bool b.hi.s,.slice b.hi.B b.hi.m b.hi.d]
def BV.agg (b:BV):Value:=.agg #[.slice b.A b.n b.c,.bool b.s,.slice b.B b.m b.d,.bool b.lo.g,.bool b.lo.s,.slice b.lo.B b.lo.m b.lo.d,.bool b.hi.g,.bool b.hi.s,.slice b.hi.B b.hi.m b.hi.d]
def BV.bd (b:BV):Bd:=⟨b.S,b.lo.opt,b.hi.opt⟩
def Ci (w:World) (b:BV) (k:Nat):Prop:=An w b.trm b.S 0 k/\Au w b.lo.num b.lo.Z k/\Au w b.hi.num b.hi.Z k
theorem Ci.below {w w':World} {b:BV} {k:Nat} (h:Ci w b k) (hb:Below w.heap.size w w'):Ci w' b k:=⟨h.1.below hb,h.2.1.below hb,h.2.2.below hb⟩
theorem Ci.mono {w:World} {b:BV} {k j:Nat} (h:Ci w b k) (hj:k<=j):Ci w b j:=⟨h.1.mono hj,h.2.1.mono hj,h.2.2.mono hj⟩
theorem Ci.kt {w w':World} {b:BV} {k:Nat} (h:Ci w b k) (hk:Kt w w'):Ci w' b k:=⟨hk.2 _ _ _ _ h.1,hk.z h.2.1,hk.z h.2.2⟩
def Om (bd:Bd) (k:Nat) (w:World) (e:Ending) (w':World):Prop:=∃b:BV,e=.returned b.agg/\Ci w' b k/\b.bd=bd/\Below w.heap.size w w'
def On (o:Option Int) (k:Nat) (w:World) (e:Ending) (w':World):Prop:=∃x:EV,e=.returned x.agg/\Au w' x.num x.Z k/\x.opt=o/\Below w.heap.size w w'
theorem BV.nis (b:BV):EY b.cells:=by intro u hu;simp[BV.cells]at hu;rcases hu with rfl|rfl|rfl|rfl|rfl|rfl|rfl|rfl|rfl<;>first|exact NI.slice _ _ _|exact NI.bool _
theorem RV.nis (b:RV):EY b.cells:=by intro u hu;simp[RV.cells]at hu;rcases hu with rfl|rfl|rfl|rfl<;>first|exact NI.slice _ _ _|exact NI.bool _
theorem EV.nis (b:EV):EY b.cells:=by intro u hu;simp[EV.cells]at hu;rcases hu with rfl|rfl|rfl<;>first|exact NI.slice _ _ _|exact NI.bool _
theorem Aw.kt {T:TypeId} {w w':World} {g:Nat} {cs:Array Value} (h:Aw T w g cs) (hn:EY cs.toList) (ho:Ao g w w'):Kt w w':=Kt.ni ⟨cs,T,h,hn⟩ ho
theorem Dn {fn:Func} {R:Ending->World->Prop} {a:Act} {w:World} {g p:Nat} {cs:Array Value} (hres:fn.results=#[.cell p 72]) (hp:a.tmps.getD p undef=.pointer (some ⟨g,0,none⟩))
  (hb:Aw 72 w g cs) (hs:cs.size=9) (hd:a.defers=[]) (hR:R (.returned (.agg cs)) w):bodyPost Tryz.prog fn R .ret a w:=
 bodyPost_ret (results_cell_row hres _ _ g _ cs _ _ hp hb Tryz.underlying72 rfl (by rw[hs];kernel_rfl)) hd hR
theorem Cr {fn:Func} {R:Ending->World->Prop} {a:Act} {w:World} {g p:Nat} {cs:Array Value} (hres:fn.results=#[.cell p 70]) (hp:a.tmps.getD p undef=.pointer (some ⟨g,0,none⟩))
  (hb:Aw 70 w g cs) (hs:cs.size=3) (hd:a.defers=[]) (hR:R (.returned (.agg cs)) w):bodyPost Tryz.prog fn R .ret a w:=
 bodyPost_ret (results_cell_row hres _ _ g _ cs _ _ hp hb Tryz.underlying70 rfl (by rw[hs];kernel_rfl)) hd hR
theorem E8 {w:World} {ops:Array Oper} {rest:List Oper} {o:Oper} {a:Act} {Q:Exit->Act->World->Prop} (hgd:o.guard=none) (x y:Operand) (ho:o.op=.store 70 x y)
  (p:Nat) (g s:Bool) (B:Option Addr) (m d:Nat) (hx:a.eval x=.pointer (some ⟨p,0,none⟩)) (hy:a.eval y=.agg #[.bool g,.bool s,.slice B m d]) (u v z:Value) (hb:Aw 70 w p #[u,v,z])
  (h:∀w',Aw 70 w' p #[.bool g,.bool s,.slice B m d]->Ao p w w'->wpList Tryz.prog ops Q rest (a.put o.dst undef) w'):wpList Tryz.prog ops Q (o::rest) a w:=
 Cl hgd 70 x y ho p _ hx hy _ hb (by kernel_rfl) rfl (by simp[Value.oneCell']) h
theorem Eo {w:World} {ops:Array Oper} {rest:List Oper} {o:Oper} {a:Act} {Q:Exit->Act->World->Prop} (hgd:o.guard=none) (x y:Operand) (ho:o.op=.store 72 x y)
  (p:Nat) (A:Option Addr) (n c:Nat) (s:Bool) (B:Option Addr) (m d:Nat) (g1 s1:Bool) (B1:Option Addr) (m1 d1:Nat) (g2 s2:Bool) (B2:Option Addr) (m2 d2:Nat) (hx:a.eval x=.pointer (some ⟨p,0,none⟩)) (hy:a.eval y=.agg #[.slice A n c,.bool s,.slice B m d,.bool g1,.bool s1,.slice B1 m1 d1,.bool g2,.bool s2,.slice B2 m2 d2]) (z0 z1 z2 z3 z4 z5 z6 z7 z8:Value) (hb:Aw 72 w p #[z0,z1,z2,z3,z4,z5,z6,z7,z8])
  (h:∀w',Aw 72 w' p #[.slice A n c,.bool s,.slice B m d,.bool g1,.bool s1,.slice B1 m1 d1,.bool g2,.bool s2,.slice B2 m2 d2]->Ao p w w'->wpList Tryz.prog ops Q rest (a.put o.dst undef) w'):wpList Tryz.prog ops Q (o::rest) a w:=
 Cl hgd 72 x y ho p _ hx hy _ hb (by kernel_rfl) rfl (by simp[Value.oneCell']) h
theorem P6 {T:TypeId} {w:World} {g:Nat} {a0 a1 a2 a3 a4 a5 a6 a7 a8 x y z:Value} (h:w.heap[g]?=some (.cells (putAt #[a0,a1,a2,a3,a4,a5,a6,a7,a8] 6 #[x,y,z]) T (0,0))):Aw T w g #[a0,a1,a2,a3,a4,a5,x,y,z]:=h
theorem Hs {w:World} {ops:Array Oper} {rest:List Oper} {o:Oper} {a:Act} {Q:Exit->Act->World->Prop} (hgd:o.guard=none) (x y:Operand) (ho:o.op=.store 70 x y)
  (p:Nat) (g s:Bool) (B:Option Addr) (m d:Nat) (hx:a.eval x=.pointer (some ⟨p,6,none⟩)) (hy:a.eval y=.agg #[.bool g,.bool s,.slice B m d]) (a0 a1 a2 a3 a4 a5 a6 a7 a8:Value) (hb:Aw 72 w p #[a0,a1,a2,a3,a4,a5,a6,a7,a8])
  (h:∀w',Aw 72 w' p #[a0,a1,a2,a3,a4,a5,.bool g,.bool s,.slice B m d]->Ao p w w'->wpList Tryz.prog ops Q rest (a.put o.dst undef) w'):wpList Tryz.prog ops Q (o::rest) a w:=
 Hr hgd 70 72 x y ho p 6 _ hx hy _ hb (by kernel_rfl) (by simp) (by simp[Value.oneCell']) (fun w' h1 h2=>h w' (P6 h1) h2)
end
section
open Go.RowKit
open Tm
def AL (bs:List BV):List Value:=(bs.map BV.cells).flatten
theorem Jk (b:BV) (bs:List BV):AL (b::bs)=b.cells++AL bs:=rfl
theorem EO (a b:List BV):AL (a++b)=AL a++AL b:=by simp[AL]
theorem BV.one (b:BV):∀v∈b.cells,v.oneCell'=true:=by intro v hv;simp[BV.cells]at hv;rcases hv with rfl|rfl|rfl|rfl|rfl|rfl|rfl|rfl|rfl<;>rfl
theorem RV.one (b:RV):∀v∈b.cells,v.oneCell'=true:=by intro v hv;simp[RV.cells]at hv;rcases hv with rfl|rfl|rfl|rfl<;>rfl
theorem J9 (x y:BV) (k:Nat) (w0:World) (hx:An w0 x.trm x.S 0 k) (hy:An w0 y.trm y.S 0 k) (hl:x.S.length<=1099511) (hm:y.S.length<=1099511) (hk:k<=1099511627) (nx:norm x.S=x.S) (ny:norm y.S=y.S) :
  Calls Tryz.prog 62 #[.agg x.cells.toArray,.agg y.cells.toArray] w0 (fun e w'=>e=.returned (.int .i64 (cmpL x.S y.S))/\Below w0.heap.size w0 w'):=by
 have e1:∀b:BV,b.cells.toArray=#[.slice b.A b.n b.c,.bool b.s,.slice b.B b.m b.d,.bool b.lo.g,.bool b.lo.s,.slice b.lo.B b.lo.m b.lo.d,.bool b.hi.g,.bool b.hi.s,.slice b.hi.B b.hi.m b.hi.d]:=fun b=>rfl
 rw[e1 x,e1 y];obtain ⟨x1,x2,hb,-⟩:=Bh 72 72 w0 #[.slice x.A x.n x.c,.bool x.s,.slice x.B x.m x.d,.bool x.lo.g,.bool x.lo.s,.slice x.lo.B x.lo.m x.lo.d,.bool x.hi.g,.bool x.hi.s,.slice x.hi.B x.hi.m x.hi.d] #[.slice y.A y.n y.c,.bool y.s,.slice y.B y.m y.d,.bool y.lo.g,.bool y.lo.s,.slice y.lo.B y.lo.m y.lo.d,.bool y.hi.g,.bool y.hi.s,.slice y.hi.B y.hi.m y.hi.d];have hc:=IK x.trm y.trm x.S y.S 0 0 k _ (hx.below hb).in_ (hy.below hb).in_ hl hm hk
 rw[show I2 x.S y.S 0 0=cmpL x.S y.S from by unfold I2 EW;rw[nx,ny];split<;>simp_all [AK]]at hc
 unfold BV.trm at hc;have HB:=Ad hb;have a0:=x1.cell 0 _ rfl;have a1:=x1.cell 1 _ rfl;have a2:=x1.cell 2 _ rfl;have b0:=x2.cell 0 _ rfl;have b1:=x2.cell 1 _ rfl;have b2:=x2.cell 2 _ rfl;clear hx hy hb x1 x2 e1 nx ny;go_enter Tryz.func62,Tryz.ntmps62;go_wp2_with fail;refine hc.mono ?_;rintro e w3 ⟨rfl,b3⟩;have HT:=Ad (HB.out.next b3);clear b3 hc a0 a1 a2 b0 b1 b2;go_wp2_with fail;go_ret
 exact ⟨rfl,HT.out⟩
abbrev Sm (w:World) (k:Nat):={ b:BV // Ci w b k/\b.S.length<=1099511/\norm b.S=b.S }
abbrev Sn (w:World) (k:Nat):={ r:RV // An w r.trm r.L r.K k/\r.L.length<=1099511 }
instance (w:World) (k:Nat):Inhabited (Sm w k):=⟨⟨⟨none,0,0,false,none,0,0,⟨false,false,none,0,0,0⟩,⟨false,false,none,0,0,0⟩,[]⟩,⟨⟨none,0,0,false,none,0,0,rfl,Cv.nil _ _ _,Nat.le_refl _,by omega,Au.zero w k⟩,Au.zero w k,Au.zero w k⟩,by simp,rfl⟩⟩
instance (w:World) (k:Nat):Inhabited (Sn w k):=⟨⟨⟨none,0,0,false,none,0,0,false,[],0⟩,⟨none,0,0,false,none,0,0,rfl,Cv.nil _ _ _,Nat.le_refl _,by omega,Au.zero w k⟩,by simp⟩⟩
theorem Oo {α:Type} {P:α->Prop} (ps:List α) (h:∀p∈ps,P p):∃qs:List { a:α // P a },qs.map Subtype.val=ps:=by
 induction ps with
 |nil=>exact ⟨[],rfl⟩
 |cons p ps ih=> obtain ⟨qs,hq⟩:=ih (fun q hq=>h q (List.mem_cons_of_mem _ hq));exact ⟨⟨p,h p (List.mem_cons_self ..)⟩::qs,by rw[List.map_cons,hq]⟩
def P7 (base:Nat) (A:Option Addr) (n c:Nat) (bs:List BV) (w:World) (e:Ending) (w':World):Prop:=
 e=.returned (.tuple #[])/\∃qs:List BV,qs.Perm bs/\LN 72 9 w' base (.slice A n c) n (AL qs)/\Cp (qs.map BV.bd)/\Kt w w'/\w.grownBy w' (Value.slice A n c).ownBlock
def P8 (base:Nat) (A:Option Addr) (n c:Nat) (rs:List RV) (w:World) (e:Ending) (w':World):Prop:=
 e=.returned (.tuple #[])/\∃qs:List RV,qs.Perm rs/\LN 35 4 w' base (.slice A n c) n (AB qs)/\(qs.Pairwise fun a b=>Je a.rd b.rd<=0)/\Kt w w'/\w.grownBy w' (Value.slice A n c).ownBlock
theorem Jl (w:World) (row:Option Nat):w.grownBy w row:=⟨rfl,rfl,rfl,Nat.le_refl _,fun _ _ _=>rfl⟩
theorem JA (base:Nat) (A:Option Addr) (n c k:Nat) (bs:List BV) (w:World) (h:LN 72 9 w base (.slice A n c) n (AL bs)) (hn:n<4611686018427387904) (hb:∀b∈bs,Ci w b k/\b.S.length<=1099511/\norm b.S=b.S) (hk:k<=1099511627) :
   Calls Tryz.prog 61 #[.slice A n c,.func (.func 62) #[] #[]] w (P7 base A n c bs w):=by
 have h0:=h;rcases h.2 with ⟨hv,h1⟩|⟨g,cap,cur,hv,hbase,hh,-,-,-,-,-,-⟩
 · injection hv with e1 e2 e3
   subst e1 e2 e3;refine (KY _ _ w).mono ?_;rintro e w' ⟨rfl,rfl⟩;refine ⟨rfl,bs,List.Perm.refl _,h,?_,Kt.refl _,Jl _ _⟩;have hl:=h.1;have:bs=[]:=by
     cases bs with
     |nil=>rfl
     |cons b bs=>rw[Jk]at hl;simp[BV.cells]at hl
   subst this;exact List.Pairwise.nil
 · injection hv with e1 e2 e3
   subst e1 e3;obtain ⟨ps,hps⟩:=Oo (P:=fun b=>Ci w b k/\b.S.length<=1099511/\norm b.S=b.S) bs hb;have eg:∀args W,(callFunc 62 args).run Tryz.prog W=.ok (.enter 62 args) W:=enters_of Tryz.func62 (by kernel_rfl) rfl;have hf:∀qs:List (Sm w k),(qs.map fun b=>b.1.cells).flatten=AL (qs.map Subtype.val):=fun qs=>by unfold AL;rw[List.map_map];rfl
   have hnb:=h.nib;refine Calls.mono (Kl Tryz.sortBand (α:=Sm w k) 72 9 (by decide) Tryz.isAgg72 Tryz.sizeOf72 (fun b=>b.1.cells) (fun _=>rfl) (fun b=>b.1.one) (fun b=>b.1.nis) (fun a b=>cmpL a.1.S b.1.S) (Cy.on fun a:Sm w k=>a.1.S) 62 #[] base g n c ps w eg ?_ (by rw[hf,hps];exact h) hn) ?_
   · intro W ho x y;have kt:=Kt.ni hnb ho;rw[show (#[Value.agg x.1.cells.toArray,Value.agg y.1.cells.toArray]++(#[]:Array Value))=#[Value.agg x.1.cells.toArray,Value.agg y.1.cells.toArray] from by simp];exact J9 x.1 y.1 k W (kt.2 _ _ _ _ x.2.1.1) (kt.2 _ _ _ _ y.2.1.1) x.2.2.1 y.2.2.1 hk x.2.2.2 y.2.2.2
   · rintro e w' ⟨rfl,qs,hp,hr,hs,ho⟩;rw[hf]at hr;refine ⟨rfl,qs.map Subtype.val,?_,hr,?_,Kt.ni hnb ho,ho⟩
     · rw[<-hps];exact hp.map _
     · unfold Cp;rw[List.map_map,List.pairwise_map];exact hs
theorem La (base:Nat) (A:Option Addr) (n c k:Nat) (rs:List RV) (w:World) (h:LN 35 4 w base (.slice A n c) n (AB rs)) (hn:n<4611686018427387904) (hb:∀r∈rs,An w r.trm r.L r.K k/\r.L.length<=1099511) (hk:k<=1099511627) :
   Calls Tryz.prog 34 #[.slice A n c,.func (.func 12) #[] #[]] w (P8 base A n c rs w):=by
 have h0:=h;rcases h.2 with ⟨hv,h1⟩|⟨g,cap,cur,hv,hbase,hh,-,-,-,-,-,-⟩
 · injection hv with e1 e2 e3
   subst e1 e2 e3;refine (Mq _ _ w).mono ?_;rintro e w' ⟨rfl,rfl⟩;refine ⟨rfl,rs,List.Perm.refl _,h,?_,Kt.refl _,Jl _ _⟩;have hl:=h.1;have:rs=[]:=by
     cases rs with
     |nil=>rfl
     |cons b bs=>rw[FV]at hl;simp[RV.cells]at hl
   subst this;exact List.Pairwise.nil
 · injection hv with e1 e2 e3
   subst e1 e3;obtain ⟨ps,hps⟩:=Oo (P:=fun r:RV=>An w r.trm r.L r.K k/\r.L.length<=1099511) rs hb;have eg:∀args W,(callFunc 12 args).run Tryz.prog W=.ok (.enter 12 args) W:=enters_of Tryz.func12 (by kernel_rfl) rfl;have hf:∀qs:List (Sn w k),(qs.map fun b=>b.1.cells).flatten=AB (qs.map Subtype.val):=fun qs=>by unfold AB;rw[List.map_map];rfl
   have hnb:=h.nib;refine Calls.mono (Kl Tryz.sortRel (α:=Sn w k) 35 4 (by decide) Tryz.isAgg35 Tryz.sizeOf35 (fun b=>b.1.cells) (fun _=>rfl) (fun b=>b.1.one) (fun b=>b.1.nis) (fun a b=>Je a.1.rd b.1.rd) (KX.on fun a:Sn w k=>a.1.rd) 12 #[] base g n c ps w eg ?_ (by rw[hf,hps];exact h) hn) ?_
   · intro W ho x y;have kt:=Kt.ni hnb ho;rw[show (#[Value.agg x.1.cells.toArray,Value.agg y.1.cells.toArray]++(#[]:Array Value))=#[Value.agg x.1.cells.toArray,Value.agg y.1.cells.toArray] from by simp];exact FU (.agg x.1.cells.toArray) (.agg y.1.cells.toArray) x.1.L y.1.L x.1.K y.1.K x.1.f y.1.f k W ⟨_,_,_,_,_,_,_,rfl,(kt.2 _ _ _ _ x.2.1).in_⟩ ⟨_,_,_,_,_,_,_,rfl,(kt.2 _ _ _ _ y.2.1).in_⟩ x.2.2 y.2.2 hk
   · rintro e w' ⟨rfl,qs,hp,hr,hs,ho⟩;rw[hf]at hr;refine ⟨rfl,qs.map Subtype.val,?_,hr,?_,Kt.ni hnb ho,ho⟩
     · rw[<-hps];exact hp.map _
     · rw[List.pairwise_map];exact hs
end
end Go.Proofs.YtemfjdedjcjegaaGreatDoor
