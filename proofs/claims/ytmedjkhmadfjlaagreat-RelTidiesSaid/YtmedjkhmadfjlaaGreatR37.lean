/- Texts of one seat, put together: SortNil LayRel LayBand Sorts TidyE ThreeApps Region4 RefZCmp. -/
import Derived.Test.YtmedjkhmadfjlaaGreatR36
import Derived.Test.YtmedjkhmadfjlaaGreatR25
import Derived.Shelf.SlSortCmp.NoneTotal
import Derived.Test.YtmedjkhmadfjlaaGreatR01
import Derived.Test.YtmedjkhmadfjlaaGreatR33
import Derived.Test.YtmedjkhmadfjlaaGreatR30
import Derived.Test.YtmedjkhmadfjlaaGreatR35
import Derived.Test.YtmedjkhmadfjlaaGreatR28
import Derived.Test.YtmedjkhmadfjlaaGreatR22
import Derived.Test.YtmedjkhmadfjlaaGreatR13
set_option linter.unusedVariables false
set_option linter.unusedSimpArgs false
set_option maxRecDepth 100000
set_option maxHeartbeats 16000000
namespace Go.Proofs.YtmedjkhmadfjlaaGreat
section
open Go.RowKit
theorem KW (f:Nat) (cb:Array Value) (w:World):Calls Tryz.prog 121 #[.slice none 0 0,.int .i64 0,.int .i64 0,.func (.func f) #[] cb] w (fun e w'=>e=.returned (.tuple #[])/\w'=w):=by
 go_enter Tryz.func121,Tryz.ntmps121;go_wp2_with fail;go_loopw [8] (fun i wr=>i=.int .i64 1/\wr=w) (fun _ _=>0)
 case atStart=>exact ⟨rfl,rfl⟩
 case round=> obtain ⟨rfl,rfl⟩:=hrel;go_wp2_with fail;first|exact bodyPost_end (results_none rfl _ _ _) rfl ⟨rfl,rfl⟩|exact bodyPost_ret (results_none rfl _ _ _) rfl ⟨rfl,rfl⟩
theorem OH (f:Nat) (cb:Array Value) (l:Int) (w:World):Calls Tryz.prog 76 #[.slice none 0 0,.int .i64 0,.int .i64 0,.int .i64 l,.func (.func f) #[] cb] w (fun e w'=>e=.returned (.tuple #[])/\w'=w):=by
 have hi:=KW f cb w;go_enter Tryz.func76,Tryz.ntmps76;go_wp2_with fail;go_loopw [1,2] (fun i j wr=>i=.int .i64 0/\j=.int .i64 0/\wr=w) (fun _ _ _=>0)
 case atStart=>exact ⟨rfl,rfl,rfl⟩
 case round=> obtain ⟨rfl,rfl,rfl⟩:=hrel;go_wp2_with fail;refine hi.mono ?_;rintro e w' ⟨rfl,rfl⟩;go_wp2_with fail;first|exact bodyPost_end (results_none rfl _ _ _) rfl ⟨rfl,rfl⟩|exact bodyPost_ret (results_none rfl _ _ _) rfl ⟨rfl,rfl⟩
theorem Ku (f:Nat) (cb:Array Value) (w:World):Calls Tryz.prog 155 #[.slice none 0 0,.int .i64 0,.int .i64 0,.func (.func f) #[] cb] w (fun e w'=>e=.returned (.tuple #[])/\w'=w):=by
 go_enter Tryz.func155,Tryz.ntmps155;go_wp2_with fail;go_loopw [8] (fun i wr=>i=.int .i64 1/\wr=w) (fun _ _=>0)
 case atStart=>exact ⟨rfl,rfl⟩
 case round=> obtain ⟨rfl,rfl⟩:=hrel;go_wp2_with fail;first|exact bodyPost_end (results_none rfl _ _ _) rfl ⟨rfl,rfl⟩|exact bodyPost_ret (results_none rfl _ _ _) rfl ⟨rfl,rfl⟩
theorem N5 (f:Nat) (cb:Array Value) (l:Int) (w:World):Calls Tryz.prog 113 #[.slice none 0 0,.int .i64 0,.int .i64 0,.int .i64 l,.func (.func f) #[] cb] w (fun e w'=>e=.returned (.tuple #[])/\w'=w):=by
 have hi:=Ku f cb w;go_enter Tryz.func113,Tryz.ntmps113;go_wp2_with fail;go_loopw [1,2] (fun i j wr=>i=.int .i64 0/\j=.int .i64 0/\wr=w) (fun _ _ _=>0)
 case atStart=>exact ⟨rfl,rfl,rfl⟩
 case round=> obtain ⟨rfl,rfl,rfl⟩:=hrel;go_wp2_with fail;refine hi.mono ?_;rintro e w' ⟨rfl,rfl⟩;go_wp2_with fail;first|exact bodyPost_end (results_none rfl _ _ _) rfl ⟨rfl,rfl⟩|exact bodyPost_ret (results_none rfl _ _ _) rfl ⟨rfl,rfl⟩
theorem N6 (f:Nat) (cb:Array Value) (w:World):Calls Tryz.prog 23 #[.slice none 0 0,.func (.func f) #[] cb] w (fun e w'=>e=.returned (.tuple #[])/\w'=w):=by have hl:=Tryz.bits_Len 0 w (by decide) (by decide);go_enter Tryz.func23,Tryz.ntmps23;go_wp2_with fail;refine hl.mono ?_;rintro e w' ⟨rfl,rfl⟩;have hp:=OH f cb (Lib.bitLen (Int.toNat 0)) w';go_wp2_with fail;refine hp.mono ?_;rintro e w2 ⟨rfl,rfl⟩;go_wp2_with fail;first|exact bodyPost_end (results_none rfl _ _ _) rfl ⟨rfl,rfl⟩|exact bodyPost_ret (results_none rfl _ _ _) rfl ⟨rfl,rfl⟩
theorem Mu (f:Nat) (cb:Array Value) (w:World):Calls Tryz.prog 67 #[.slice none 0 0,.func (.func f) #[] cb] w (fun e w'=>e=.returned (.tuple #[])/\w'=w):=by have hl:=Tryz.bits_Len 0 w (by decide) (by decide);go_enter Tryz.func67,Tryz.ntmps67;go_wp2_with fail;refine hl.mono ?_;rintro e w' ⟨rfl,rfl⟩;have hp:=N5 f cb (Lib.bitLen (Int.toNat 0)) w';go_wp2_with fail;refine hp.mono ?_;rintro e w2 ⟨rfl,rfl⟩;go_wp2_with fail;first|exact bodyPost_end (results_none rfl _ _ _) rfl ⟨rfl,rfl⟩|exact bodyPost_ret (results_none rfl _ _ _) rfl ⟨rfl,rfl⟩
end
section
open Go.Shelf
def Tryz.sortRel_ren:Go.Shelf.Ren:=⟨fun|6=>23|15=>77|14=>76|28=>129|29=>130|20=>121|21=>122|22=>123|23=>124|24=>125|25=>126|26=>127|27=>128|46=>170|47=>171|48=>172|49=>173|50=>174|57=>204|n=>n,fun|22=>22|24=>42|25=>59|3=>3|39=>106|0=>0|53=>122|55=>126|4=>4|46=>142|45=>141|50=>29|5=>5|9=>9|66=>175|70=>179|76=>199|77=>200|n=>n,fun|n=>n⟩
theorem Tryz.sortRel:Go.Proofs.SlLaysF0.n6 Tryz.prog Tryz.sortRel_ren:={
 mixed:=by kernel_rfl
 f6:=⟨Tryz.f23.name,by decide,Tryz.func23.trans (congrArg some (by kernel_rfl))⟩
 f14:=⟨Tryz.f76.name,by decide,Tryz.func76.trans (congrArg some (by kernel_rfl))⟩
 f15:=Tryz.func77.trans (congrArg some (by kernel_rfl))
 f20:=⟨Tryz.f121.name,by decide,Tryz.func121.trans (congrArg some (by kernel_rfl))⟩
 f21:=⟨Tryz.f122.name,by decide,Tryz.func122.trans (congrArg some (by kernel_rfl))⟩
 f22:=⟨Tryz.f123.name,by decide,Tryz.func123.trans (congrArg some (by kernel_rfl))⟩
 f23:=⟨Tryz.f124.name,by decide,Tryz.func124.trans (congrArg some (by kernel_rfl))⟩
 f24:=⟨Tryz.f125.name,by decide,Tryz.func125.trans (congrArg some (by kernel_rfl))⟩
 f25:=⟨Tryz.f126.name,by decide,Tryz.func126.trans (congrArg some (by kernel_rfl))⟩
 f26:=⟨Tryz.f127.name,by decide,Tryz.func127.trans (congrArg some (by kernel_rfl))⟩
 f27:=⟨Tryz.f128.name,by decide,Tryz.func128.trans (congrArg some (by kernel_rfl))⟩
 f28:=Tryz.func129.trans (congrArg some (by kernel_rfl))
 f29:=Tryz.func130.trans (congrArg some (by kernel_rfl))
 f46:=⟨Tryz.f170.name,by decide,Tryz.func170.trans (congrArg some (by kernel_rfl))⟩
 f47:=Tryz.func171.trans (congrArg some (by kernel_rfl))
 f48:=Tryz.func172.trans (congrArg some (by kernel_rfl))
 f49:=⟨Tryz.f173.name,by decide,Tryz.func173.trans (congrArg some (by kernel_rfl))⟩
 f50:=⟨Tryz.f174.name,by decide,Tryz.func174.trans (congrArg some (by kernel_rfl))⟩
 f57:=⟨Tryz.f204.name,by decide,Tryz.func204.trans (congrArg some (by kernel_rfl))⟩
 t0:=Tryz.underlying0
 a0:=Tryz.isAgg0
 z0:=Tryz.sizeOf0
 v0:=Tryz.zeroValue0
 t3:=Tryz.underlying3
 a3:=Tryz.isAgg3
 z3:=Tryz.sizeOf3
 v3:=Tryz.zeroValue3
 t4:=Tryz.underlying4
 a4:=Tryz.isAgg4
 z4:=Tryz.sizeOf4
 v4:=Tryz.zeroValue4
 t5:=Tryz.underlying5
 a5:=Tryz.isAgg5
 z5:=Tryz.sizeOf5
 v5:=Tryz.zeroValue5
 t9:=Tryz.underlying9
 a9:=Tryz.isAgg9
 z9:=Tryz.sizeOf9
 v9:=Tryz.zeroValue9
 t22:=Tryz.underlying22
 a22:=Tryz.isAgg22
 z22:=Tryz.sizeOf22
 v22:=Tryz.zeroValue22
 t25:=Tryz.underlying59
 a25:=Tryz.isAgg59
 z25:=Tryz.sizeOf59
 v25:=Tryz.zeroValue59
 t39:=Tryz.underlying106
 a39:=Tryz.isAgg106
 z39:=Tryz.sizeOf106
 v39:=Tryz.zeroValue106
 t45:=Tryz.underlying141
 a45:=Tryz.isAgg141
 z45:=Tryz.sizeOf141
 v45:=Tryz.zeroValue141
 t46:=Tryz.underlying142
 a46:=Tryz.isAgg142
 z46:=Tryz.sizeOf142
 v46:=Tryz.zeroValue142
 t50:=Tryz.underlying29
 a50:=Tryz.isAgg29
 z50:=Tryz.sizeOf29
 v50:=Tryz.zeroValue29
 t53:=Tryz.underlying122
 a53:=Tryz.isAgg122
 z53:=Tryz.sizeOf122
 v53:=Tryz.zeroValue122
 t55:=Tryz.underlying126
 a55:=Tryz.isAgg126
 z55:=Tryz.sizeOf126
 v55:=Tryz.zeroValue126
 t66:=Tryz.underlying175
 a66:=Tryz.isAgg175
 z66:=Tryz.sizeOf175
 v66:=Tryz.zeroValue175
 t70:=Tryz.underlying179
 a70:=Tryz.isAgg179
 z70:=Tryz.sizeOf179
 v70:=Tryz.zeroValue179
 t76:=Tryz.underlying199
 a76:=Tryz.isAgg199
 z76:=Tryz.sizeOf199
 v76:=Tryz.zeroValue199
 t77:=Tryz.underlying200
 a77:=Tryz.isAgg200
 z77:=Tryz.sizeOf200
 v77:=Tryz.zeroValue200 }
end
section
open Go.Shelf
def Tryz.sortBand_ren:Go.Shelf.Ren:=⟨fun|6=>67|15=>77|14=>113|28=>129|29=>130|20=>155|21=>156|22=>157|23=>158|24=>159|25=>160|26=>161|27=>162|46=>198|47=>171|48=>172|49=>199|50=>200|57=>216|n=>n,fun|22=>48|24=>54|25=>102|3=>3|39=>106|0=>0|53=>122|55=>126|4=>4|46=>142|45=>141|50=>29|5=>5|9=>9|66=>175|70=>179|76=>199|77=>200|n=>n,fun|n=>n⟩
theorem Tryz.sortBand:Go.Proofs.SlLaysF0.n6 Tryz.prog Tryz.sortBand_ren:={
 mixed:=by kernel_rfl
 f6:=⟨Tryz.f67.name,by decide,Tryz.func67.trans (congrArg some (by kernel_rfl))⟩
 f14:=⟨Tryz.f113.name,by decide,Tryz.func113.trans (congrArg some (by kernel_rfl))⟩
 f15:=Tryz.func77.trans (congrArg some (by kernel_rfl))
 f20:=⟨Tryz.f155.name,by decide,Tryz.func155.trans (congrArg some (by kernel_rfl))⟩
 f21:=⟨Tryz.f156.name,by decide,Tryz.func156.trans (congrArg some (by kernel_rfl))⟩
 f22:=⟨Tryz.f157.name,by decide,Tryz.func157.trans (congrArg some (by kernel_rfl))⟩
 f23:=⟨Tryz.f158.name,by decide,Tryz.func158.trans (congrArg some (by kernel_rfl))⟩
 f24:=⟨Tryz.f159.name,by decide,Tryz.func159.trans (congrArg some (by kernel_rfl))⟩
 f25:=⟨Tryz.f160.name,by decide,Tryz.func160.trans (congrArg some (by kernel_rfl))⟩
 f26:=⟨Tryz.f161.name,by decide,Tryz.func161.trans (congrArg some (by kernel_rfl))⟩
 f27:=⟨Tryz.f162.name,by decide,Tryz.func162.trans (congrArg some (by kernel_rfl))⟩
 f28:=Tryz.func129.trans (congrArg some (by kernel_rfl))
 f29:=Tryz.func130.trans (congrArg some (by kernel_rfl))
 f46:=⟨Tryz.f198.name,by decide,Tryz.func198.trans (congrArg some (by kernel_rfl))⟩
 f47:=Tryz.func171.trans (congrArg some (by kernel_rfl))
 f48:=Tryz.func172.trans (congrArg some (by kernel_rfl))
 f49:=⟨Tryz.f199.name,by decide,Tryz.func199.trans (congrArg some (by kernel_rfl))⟩
 f50:=⟨Tryz.f200.name,by decide,Tryz.func200.trans (congrArg some (by kernel_rfl))⟩
 f57:=⟨Tryz.f216.name,by decide,Tryz.func216.trans (congrArg some (by kernel_rfl))⟩
 t0:=Tryz.underlying0
 a0:=Tryz.isAgg0
 z0:=Tryz.sizeOf0
 v0:=Tryz.zeroValue0
 t3:=Tryz.underlying3
 a3:=Tryz.isAgg3
 z3:=Tryz.sizeOf3
 v3:=Tryz.zeroValue3
 t4:=Tryz.underlying4
 a4:=Tryz.isAgg4
 z4:=Tryz.sizeOf4
 v4:=Tryz.zeroValue4
 t5:=Tryz.underlying5
 a5:=Tryz.isAgg5
 z5:=Tryz.sizeOf5
 v5:=Tryz.zeroValue5
 t9:=Tryz.underlying9
 a9:=Tryz.isAgg9
 z9:=Tryz.sizeOf9
 v9:=Tryz.zeroValue9
 t22:=Tryz.underlying48
 a22:=Tryz.isAgg48
 z22:=Tryz.sizeOf48
 v22:=Tryz.zeroValue48
 t25:=Tryz.underlying102
 a25:=Tryz.isAgg102
 z25:=Tryz.sizeOf102
 v25:=Tryz.zeroValue102
 t39:=Tryz.underlying106
 a39:=Tryz.isAgg106
 z39:=Tryz.sizeOf106
 v39:=Tryz.zeroValue106
 t45:=Tryz.underlying141
 a45:=Tryz.isAgg141
 z45:=Tryz.sizeOf141
 v45:=Tryz.zeroValue141
 t46:=Tryz.underlying142
 a46:=Tryz.isAgg142
 z46:=Tryz.sizeOf142
 v46:=Tryz.zeroValue142
 t50:=Tryz.underlying29
 a50:=Tryz.isAgg29
 z50:=Tryz.sizeOf29
 v50:=Tryz.zeroValue29
 t53:=Tryz.underlying122
 a53:=Tryz.isAgg122
 z53:=Tryz.sizeOf122
 v53:=Tryz.zeroValue122
 t55:=Tryz.underlying126
 a55:=Tryz.isAgg126
 z55:=Tryz.sizeOf126
 v55:=Tryz.zeroValue126
 t66:=Tryz.underlying175
 a66:=Tryz.isAgg175
 z66:=Tryz.sizeOf175
 v66:=Tryz.zeroValue175
 t70:=Tryz.underlying179
 a70:=Tryz.isAgg179
 z70:=Tryz.sizeOf179
 v70:=Tryz.zeroValue179
 t76:=Tryz.underlying199
 a76:=Tryz.isAgg199
 z76:=Tryz.sizeOf199
 v76:=Tryz.zeroValue199
 t77:=Tryz.underlying200
 a77:=Tryz.isAgg200
 z77:=Tryz.sizeOf200
 v77:=Tryz.zeroValue200 }
end
section
open Go.RowKit
open Tm
def Bc (bs:List BV):List Value:=(bs.map BV.cells).flatten
theorem Kv (b:BV) (bs:List BV):Bc (b::bs)=b.cells++Bc bs:=rfl
theorem F5 (a b:List BV):Bc (a++b)=Bc a++Bc b:=by simp[Bc]
theorem BV.one (b:BV):∀v∈b.cells,v.oneCell'=true:=by intro v hv;simp[BV.cells]at hv;rcases hv with rfl|rfl|rfl|rfl|rfl|rfl|rfl|rfl|rfl<;>rfl
theorem RV.one (b:RV):∀v∈b.cells,v.oneCell'=true:=by intro v hv;simp[RV.cells]at hv;rcases hv with rfl|rfl|rfl|rfl<;>rfl
theorem KX (x y:BV) (k:Nat) (w0:World) (hx:Aw w0 x.trm x.S 0 k) (hy:Aw w0 y.trm y.S 0 k) (hl:x.S.length<=1099511) (hm:y.S.length<=1099511) (hk:k<=1099511627) (nx:norm x.S=x.S) (ny:norm y.S=y.S) :
  Calls Tryz.prog 68 #[.agg x.cells.toArray,.agg y.cells.toArray] w0 (fun e w'=>e=.returned (.int .i64 (cmpL x.S y.S))/\Below w0.heap.size w0 w'):=by
 have e1:∀b:BV,b.cells.toArray=#[.slice b.A b.n b.c,.bool b.s,.slice b.B b.m b.d,.bool b.lo.g,.bool b.lo.s,.slice b.lo.B b.lo.m b.lo.d,.bool b.hi.g,.bool b.hi.s,.slice b.hi.B b.hi.m b.hi.d]:=fun b=>rfl
 rw[e1 x,e1 y];obtain ⟨x1,x2,hb,-⟩:=Bi 54 54 w0 #[.slice x.A x.n x.c,.bool x.s,.slice x.B x.m x.d,.bool x.lo.g,.bool x.lo.s,.slice x.lo.B x.lo.m x.lo.d,.bool x.hi.g,.bool x.hi.s,.slice x.hi.B x.hi.m x.hi.d] #[.slice y.A y.n y.c,.bool y.s,.slice y.B y.m y.d,.bool y.lo.g,.bool y.lo.s,.slice y.lo.B y.lo.m y.lo.d,.bool y.hi.g,.bool y.hi.s,.slice y.hi.B y.hi.m y.hi.d];have hc:=Kg x.trm y.trm x.S y.S 0 0 k _ (hx.below hb).in_ (hy.below hb).in_ hl hm hk
 rw[show Hl x.S y.S 0 0=cmpL x.S y.S from by unfold Hl E4;rw[nx,ny];split<;>simp_all [AP]]at hc
 unfold BV.trm at hc;have HB:=Ac hb;have a0:=x1.cell 0 _ rfl;have a1:=x1.cell 1 _ rfl;have a2:=x1.cell 2 _ rfl;have b0:=x2.cell 0 _ rfl;have b1:=x2.cell 1 _ rfl;have b2:=x2.cell 2 _ rfl;clear hx hy hb x1 x2 e1 nx ny;go_enter Tryz.func68,Tryz.ntmps68;go_wp2_with fail;refine hc.mono ?_;rintro e w3 ⟨rfl,b3⟩;have HT:=Ac (HB.out.next b3);clear b3 hc a0 a1 a2 b0 b1 b2;go_wp2_with fail;go_ret
 exact ⟨rfl,HT.out⟩
abbrev Ui (w:World) (k:Nat):={ b:BV // CN w b k/\b.S.length<=1099511/\norm b.S=b.S }
abbrev Uj (w:World) (k:Nat):={ r:RV // Aw w r.trm r.L r.K k/\r.L.length<=1099511 }
instance (w:World) (k:Nat):Inhabited (Ui w k):=⟨⟨⟨none,0,0,false,none,0,0,⟨false,false,none,0,0,0⟩,⟨false,false,none,0,0,0⟩,[]⟩,⟨⟨none,0,0,false,none,0,0,rfl,CY.nil _ _ _,Nat.le_refl _,by omega,Au.zero w k⟩,Au.zero w k,Au.zero w k⟩,by simp,rfl⟩⟩
instance (w:World) (k:Nat):Inhabited (Uj w k):=⟨⟨⟨none,0,0,false,none,0,0,false,[],0⟩,⟨none,0,0,false,none,0,0,rfl,CY.nil _ _ _,Nat.le_refl _,by omega,Au.zero w k⟩,by simp⟩⟩
theorem P6 {α:Type} {P:α->Prop} (ps:List α) (h:∀p∈ps,P p):∃qs:List { a:α // P a },qs.map Subtype.val=ps:=by
 induction ps with
 |nil=>exact ⟨[],rfl⟩
 |cons p ps ih=> obtain ⟨qs,hq⟩:=ih (fun q hq=>h q (List.mem_cons_of_mem _ hq));exact ⟨⟨p,h p (List.mem_cons_self ..)⟩::qs,by rw[List.map_cons,hq]⟩
def QE (base:Nat) (A:Option Addr) (n c:Nat) (bs:List BV) (w:World) (e:Ending) (w':World):Prop:=
 e=.returned (.tuple #[])/\∃qs:List BV,qs.Perm bs/\LN 54 9 w' base (.slice A n c) n (Bc qs)/\CF (qs.map BV.bd)/\Kt w w'/\w.grownBy w' (Value.slice A n c).ownBlock
def QF (base:Nat) (A:Option Addr) (n c:Nat) (rs:List RV) (w:World) (e:Ending) (w':World):Prop:=
 e=.returned (.tuple #[])/\∃qs:List RV,qs.Perm rs/\LN 42 4 w' base (.slice A n c) n (AL qs)/\(qs.Pairwise fun a b=>Eg a.rd b.rd<=0)/\Kt w w'/\w.grownBy w' (Value.slice A n c).ownBlock
theorem Kw (w:World) (row:Option Nat):w.grownBy w row:=⟨rfl,rfl,rfl,Nat.le_refl _,fun _ _ _=>rfl⟩
theorem KY (base:Nat) (A:Option Addr) (n c k:Nat) (bs:List BV) (w:World) (h:LN 54 9 w base (.slice A n c) n (Bc bs)) (hn:n<4611686018427387904) (hb:∀b∈bs,CN w b k/\b.S.length<=1099511/\norm b.S=b.S) (hk:k<=1099511627) :
   Calls Tryz.prog 67 #[.slice A n c,.func (.func 68) #[] #[]] w (QE base A n c bs w):=by
 have h0:=h;rcases h.2 with ⟨hv,h1⟩|⟨g,cap,cur,hv,hbase,hh,-,-,-,-,-,-⟩
 · injection hv with e1 e2 e3
   subst e1 e2 e3;refine (Mu _ _ w).mono ?_;rintro e w' ⟨rfl,rfl⟩;refine ⟨rfl,bs,List.Perm.refl _,h,?_,Kt.refl _,Kw _ _⟩;have hl:=h.1;have:bs=[]:=by
     cases bs with
     |nil=>rfl
     |cons b bs=>rw[Kv]at hl;simp[BV.cells]at hl
   subst this;exact List.Pairwise.nil
 · injection hv with e1 e2 e3
   subst e1 e3;obtain ⟨ps,hps⟩:=P6 (P:=fun b=>CN w b k/\b.S.length<=1099511/\norm b.S=b.S) bs hb;have eg:∀args W,(callFunc 68 args).run Tryz.prog W=.ok (.enter 68 args) W:=enters_of Tryz.func68 (by kernel_rfl) rfl;have hf:∀qs:List (Ui w k),(qs.map fun b=>b.1.cells).flatten=Bc (qs.map Subtype.val):=fun qs=>by unfold Bc;rw[List.map_map];rfl
   have hnb:=h.nib;refine Calls.mono (L9 Tryz.sortBand (α:=Ui w k) 54 9 (by decide) Tryz.isAgg54 Tryz.sizeOf54 (fun b=>b.1.cells) (fun _=>rfl) (fun b=>b.1.one) (fun b=>b.1.nis) (fun a b=>cmpL a.1.S b.1.S) (Dd.on fun a:Ui w k=>a.1.S) 68 #[] base g n c ps w eg ?_ (by rw[hf,hps];exact h) hn) ?_
   · intro W ho x y;have kt:=Kt.ni hnb ho;rw[show (#[Value.agg x.1.cells.toArray,Value.agg y.1.cells.toArray]++(#[]:Array Value))=#[Value.agg x.1.cells.toArray,Value.agg y.1.cells.toArray] from by simp];exact KX x.1 y.1 k W (kt.2 _ _ _ _ x.2.1.1) (kt.2 _ _ _ _ y.2.1.1) x.2.2.1 y.2.2.1 hk x.2.2.2 y.2.2.2
   · rintro e w' ⟨rfl,qs,hp,hr,hs,ho⟩;rw[hf]at hr;refine ⟨rfl,qs.map Subtype.val,?_,hr,?_,Kt.ni hnb ho,ho⟩
     · rw[<-hps];exact hp.map _
     · unfold CF;rw[List.map_map,List.pairwise_map];exact hs
theorem Mv (base:Nat) (A:Option Addr) (n c k:Nat) (rs:List RV) (w:World) (h:LN 42 4 w base (.slice A n c) n (AL rs)) (hn:n<4611686018427387904) (hb:∀r∈rs,Aw w r.trm r.L r.K k/\r.L.length<=1099511) (hk:k<=1099511627) :
   Calls Tryz.prog 23 #[.slice A n c,.func (.func 24) #[] #[]] w (QF base A n c rs w):=by
 have h0:=h;rcases h.2 with ⟨hv,h1⟩|⟨g,cap,cur,hv,hbase,hh,-,-,-,-,-,-⟩
 · injection hv with e1 e2 e3
   subst e1 e2 e3;refine (N6 _ _ w).mono ?_;rintro e w' ⟨rfl,rfl⟩;refine ⟨rfl,rs,List.Perm.refl _,h,?_,Kt.refl _,Kw _ _⟩;have hl:=h.1;have:rs=[]:=by
     cases rs with
     |nil=>rfl
     |cons b bs=>rw[GP]at hl;simp[RV.cells]at hl
   subst this;exact List.Pairwise.nil
 · injection hv with e1 e2 e3
   subst e1 e3;obtain ⟨ps,hps⟩:=P6 (P:=fun r:RV=>Aw w r.trm r.L r.K k/\r.L.length<=1099511) rs hb;have eg:∀args W,(callFunc 24 args).run Tryz.prog W=.ok (.enter 24 args) W:=enters_of Tryz.func24 (by kernel_rfl) rfl;have hf:∀qs:List (Uj w k),(qs.map fun b=>b.1.cells).flatten=AL (qs.map Subtype.val):=fun qs=>by unfold AL;rw[List.map_map];rfl
   have hnb:=h.nib;refine Calls.mono (L9 Tryz.sortRel (α:=Uj w k) 42 4 (by decide) Tryz.isAgg42 Tryz.sizeOf42 (fun b=>b.1.cells) (fun _=>rfl) (fun b=>b.1.one) (fun b=>b.1.nis) (fun a b=>Eg a.1.rd b.1.rd) (Hu.on fun a:Uj w k=>a.1.rd) 24 #[] base g n c ps w eg ?_ (by rw[hf,hps];exact h) hn) ?_
   · intro W ho x y;have kt:=Kt.ni hnb ho;rw[show (#[Value.agg x.1.cells.toArray,Value.agg y.1.cells.toArray]++(#[]:Array Value))=#[Value.agg x.1.cells.toArray,Value.agg y.1.cells.toArray] from by simp];exact O4 (.agg x.1.cells.toArray) (.agg y.1.cells.toArray) x.1.L y.1.L x.1.K y.1.K x.1.f y.1.f k W ⟨_,_,_,_,_,_,_,rfl,(kt.2 _ _ _ _ x.2.1).in_⟩ ⟨_,_,_,_,_,_,_,rfl,(kt.2 _ _ _ _ y.2.1).in_⟩ x.2.2 y.2.2 hk
   · rintro e w' ⟨rfl,qs,hp,hr,hs,ho⟩;rw[hf]at hr;refine ⟨rfl,qs.map Subtype.val,?_,hr,?_,Kt.ni hnb ho,ho⟩
     · rw[<-hps];exact hp.map _
     · rw[List.pairwise_map];exact hs
end
section
open Go.RowKit
open Tm
theorem QG:(Tryz.prog.info? 54).map (fun i=>(i.zero,i.size,i.bytes))=some (some (.agg #[.slice none 0 0,.bool false,.slice none 0 0,.bool false,.bool false,.slice none 0 0,.bool false,.bool false,.slice none 0 0]),9,136):=by kernel_rfl
theorem Es (a:List BV):(Bc a).length=a.length*9:=by
 induction a with
 |nil=>rfl
 |cons x a ih=>rw[Kv,List.length_append,ih,List.length_cons];simp[BV.cells];omega
theorem QH (ps:List BV):∀u∈Bc ps,u.oneCell'=true:=by intro u hu;obtain ⟨l,hl,hu⟩:=List.mem_flatten.1 hu;obtain ⟨p,-,rfl⟩:=List.mem_map.1 hl;exact p.one u hu
theorem N7 (ps:List BV):FD (Bc ps):=by intro u hu;obtain ⟨l,hl,hu⟩:=List.mem_flatten.1 hu;obtain ⟨p,-,rfl⟩:=List.mem_map.1 hl;exact p.nis u hu
theorem N8:FD (Value.agg #[.slice none 0 0,.bool false,.slice none 0 0,.bool false,.bool false,.slice none 0 0,.bool false,.bool false,.slice none 0 0]).cells.toList:=BV.nis ⟨none,0,0,false,none,0,0,⟨false,false,none,0,0,0⟩,⟨false,false,none,0,0,0⟩,[]⟩
theorem Ip {w:World} (base:Nat) (v:Value) (n:Nat) (rs:List BV) (hown:LN 54 9 w base v n (Bc rs)) (ad:Addr) (m c:Nat) (qs:List BV) (hq:qs.length=m) (hc:∀j u,(Bc qs)[j]?=some u->w.cell? (ad.add j)=some u) (hn:n<=1099511) (hm:m<=1099511) (hbase:base<=w.heap.size) :
  ∃v' w',(Builtin.append_ #[48,48] 48 #[v,.slice (some ad) m c]).run Tryz.prog w=.ok v' w'/\LN 54 9 w' base v' (n+m) (Bc (rs++qs))/\Tn v.ownBlock w w':=by
 obtain ⟨i0,hi0,hz0,hz1,hz2⟩:=I8 QG;obtain ⟨v',w',hr,h2,h3,h4⟩:=Fj (P:=Tryz.prog) w FD base 48 48 54 i0 _ 9 136 Tryz.underlying48 hi0 hz0 hz1 hz2 rfl (by decide) N8.nls v n (Bc rs) hown ad m c (Bc qs)
  (by rw[Es,hq]) hc (QH _) (N7 _).nls (by unfold maxLen;omega) (by omega) hbase FD.nil (fun a b _ ha hb=>ha.append hb) (fun a k ha=>ha.take k) (fun a k _ ha=>ha.drop k) (fun k=>N8.zero k (by decide)) (N7 _)
 exact ⟨v',w',hr,by rw[F5];exact h2,h3,hown.kt h3⟩
theorem CW {w:World} {ops:Array Oper} {rest:List Oper} {o:Oper} {a:Act} {Q:Exit->Act->World->Prop} (hgd:o.guard=none) (s x:Operand)
  (ho:o.op=.call { callee:=.builtin .append,args:=#[s,x],argTypes:=#[48,48] }) (hty:o.type=48) (base:Nat) (v:Value) (n:Nat) (rs:List BV) (hs:a.eval s=v) (hown:LN 54 9 w base v n (Bc rs)) (ad:Addr) (m c:Nat) (hx:a.eval x=.slice (some ad) m c) (qs:List BV) (hq:qs.length=m) (hc:∀j u,(Bc qs)[j]?=some u->w.cell? (ad.add j)=some u) (hn:n<=1099511) (hm:m<=1099511) (hbase:base<=w.heap.size)
  (h:∀v' w',LN 54 9 w' base v' (n+m) (Bc (rs++qs))->Tn v.ownBlock w w'->wpList Tryz.prog ops Q rest (a.put o.dst v') w'):wpList Tryz.prog ops Q (o::rest) a w:=by
 obtain ⟨v',w',hr,h2,h3⟩:=Ip (w:=w) base v n rs hown ad m c qs hq hc hn hm hbase;refine wpList_plain hgd fun K hK=>?_
 unfold Oper.wp;rw[Bn ho hs hx (by rw[hty];exact hr)];exact hK _ _ (h v' w' h2 h3)
theorem Bm {w:World} {ops:Array Oper} {rest:List Oper} {o:Oper} {a:Act} {Q:Exit->Act->World->Prop} (hgd:o.guard=none) (s x:Operand)
  (ho:o.op=.call { callee:=.builtin .append,args:=#[s,x],argTypes:=#[22,22] }) (hty:o.type=22) (base:Nat) (v:Value) (n:Nat) (rs:List RV) (hs:a.eval s=v) (hown:LN 42 4 w base v n (AL rs)) (ad:Addr) (m c:Nat) (hx:a.eval x=.slice (some ad) m c) (qs:List RV) (hq:qs.length=m) (hc:∀j u,(AL qs)[j]?=some u->w.cell? (ad.add j)=some u) (hn:n<=1099511) (hm:m<=1099511) (hbase:base<=w.heap.size)
  (h:∀v' w',LN 42 4 w' base v' (n+m) (AL (rs++qs))->Tn v.ownBlock w w'->wpList Tryz.prog ops Q rest (a.put o.dst v') w'):wpList Tryz.prog ops Q (o::rest) a w:=by
 obtain ⟨v',w',hr,h2,h3⟩:=CB (w:=w) base v n rs hown ad m c qs hq hc hn hm hbase;refine wpList_plain hgd fun K hK=>?_
 unfold Oper.wp;rw[Bn ho hs hx (by rw[hty];exact hr)];exact hK _ _ (h v' w' h2 h3)
theorem Bj (rs:List BV) (i:Nat) (b:BV) (h:rs[i]?=some b) (j:Nat) (u:Value) (hj:b.cells[j]?=some u):(Bc rs)[i*9+j]?=some u:=by
 have hj9:j<9:=by have:=(List.getElem?_eq_some_iff.1 hj).1;simpa[BV.cells] using this
 unfold Bc;rw[GU BV.cells 9 (fun _=>rfl) (by decide)];rw[show (i*9+j)/9=i by omega,show (i*9+j)%9=j by omega,h];exact hj
theorem KZ {w w':World} {base g n c:Nat} {rs:List BV} {x y:BV} {cur:Array Value} (h:LN 54 9 w base (.slice (some ⟨g,0,none⟩) n c) n (Bc (rs++[x]))) (hcur:w.heap[g]?=some (.cells cur 54 (0,0)))
   (hw:w'.heap[g]?=some (.cells (putAt cur (rs.length*9) y.cells.toArray) 54 (0,0))):LN 54 9 w' base (.slice (some ⟨g,0,none⟩) n c) n (Bc (rs++[y])):=by
 have hn:n=rs.length+1:=by have:=h.1;rw[Es]at this;simp at this;omega
 rcases h.2 with ⟨hv,-⟩|⟨g',cap,cur',hv,hb,hh,h1,h2,h3,h4,h5,h6⟩
 · cases hv
 injection hv with e1 e2 e3
 injection e1 with e1
 injection e1 with e1
 subst e1 e3;rw[hcur]at hh;injection hh with hh
 injection hh with hh _
 subst hh;have hcl:cur.toList.length=c*9:=by rw[Array.length_toList];exact h3
 have hl:rs.length*9+9<=cur.toList.length:=by omega
 have ht:cur.toList.take (rs.length*9)=Bc rs:=by have:=congrArg (List.take (rs.length*9)) h4;rw[List.take_take,Nat.min_eq_left (by omega),F5]at this;rw[this];have e:rs.length*9=(Bc rs).length:=(Es rs).symm;rw[e,List.take_left]
 refine ⟨by rw[Es];simp[hn],.inr ⟨g,c,_,rfl,hb,hw,h1,h2,?_,?_,?_,?_⟩⟩
 · unfold putAt;simp only[List.size_toArray,List.length_append,List.length_take,List.length_drop,Array.length_toList];have:y.cells.length=9:=rfl;omega
 · unfold putAt;rw[ht];show (Bc rs++y.cells++_).take (n*9)=Bc (rs++[y]);have e:Bc (rs++[y])=Bc rs++y.cells:=(by rw[F5];simp[Bc]);rw[e];have e2:n*9=(Bc rs++y.cells).length:=(by rw[List.length_append,Es];show n*9=rs.length*9+9;omega);rw[e2,List.take_left]
 · unfold putAt;exact ((h5.take _).append y.nis.nls).append (h5.drop _)
 · unfold putAt;exact ((h6.take _).append y.nis).append (h6.drop _)
end
section
open Go.RowKit
open Tm
theorem BR.lit0 {Pt:List Value->Prop} (T:TypeId) (sz:Nat) {w:World} {base:Nat} (hb:base<=w.heap.size) (hp:Pt []):BR Pt T sz (w.alloc (.cells #[] T)) base (.slice (some ⟨w.heap.size,0,none⟩) 0 0) 0 []:=
 ⟨by simp,.inr ⟨w.heap.size,0,#[],rfl,hb,heap_alloc_new w _,Nat.le_refl _,by unfold maxLen;omega,by simp,by simp,(fun u hu=>by cases hu),hp⟩⟩
def WP (W0:World) (N i0 i1 i2 i3:Nat) (ps qs zs:List RV) (l9:Array Bool) (σ:Nat->Value) (w:World):Prop:=
 l9.size=N/\Below W0.heap.size W0 w/\(l9.getD i0 false=true->l9.getD i1 false=false->LN 42 4 w W0.heap.size (σ i0) 0 (AL [])) /\
  (l9.getD i1 false=true->l9.getD i2 false=false->LN 42 4 w W0.heap.size (σ i1) (0+ps.length) (AL ([]++ps))) /\
  (l9.getD i2 false=true->l9.getD i3 false=false->LN 42 4 w W0.heap.size (σ i2) (0+ps.length+qs.length) (AL ([]++ps++qs))) /\
  (l9.getD i3 false=true->LN 42 4 w W0.heap.size (σ i3) (0+ps.length+qs.length+zs.length) (AL ([]++ps++qs++zs)))
section
variable {W0 w w':World} {N i i0 i1 i2 i3:Nat} {ps qs zs:List RV} {l9:Array Bool} {σ:Nat->Value} {v:Value}
end
end
section
open Go.RowKit
structure FA where
 made:Nat
 filled:Nat
 T:TypeId
 zero:Array Value
 ok:Array Value->World->Prop
def GB (W0:World) (N:Nat) (Bs:List FA) (l9:Array Bool) (σ:Nat->Value) (w:World):Prop:=
 l9.size=N/\Below W0.heap.size W0 w /\
 (∀p∈Bs,l9.getD p.made false=true->∃g cs,σ p.made=.pointer (some ⟨g,0,none⟩)/\W0.heap.size<=g/\AK p.T w g cs/\(l9.getD p.filled false=false->cs=p.zero)/\(l9.getD p.filled false=true->p.ok cs w)) /\
 (∀p∈Bs,∀q∈Bs,p.made≠q.made->l9.getD p.made false=true->l9.getD q.made false=true->σ p.made≠σ q.made)
def VK (Bs:List FA) (i:Nat):Bool:=Bs.all fun p=>p.made != i&&p.filled != i
def SN (Bs:List FA):Bool:=Bs.all fun p=>Bs.all fun q=>(p.made != q.filled)&&(p.made==q.made || p.filled != q.filled)
section
variable {W0:World} {N:Nat} {Bs:List FA} {TR:World->World->Prop} {l9:Array Bool} {σ:Nat->Value} {w w':World} {i:Nat} {v:Value}
theorem GB.start (hb:Below W0.heap.size W0 w):GB W0 N Bs (Array.replicate N false) σ w:=
 ⟨by simp,hb,(fun p _ h=>by rw[BZ]at h;cases h),(fun p _ q _ _ h=>by rw[BZ]at h;cases h)⟩
theorem Iq (h:VK Bs i=true) {p:FA} (hp:p∈Bs):p.made≠i/\p.filled≠i:=by have:=List.all_eq_true.1 h p hp;simpa using this
theorem DU (h:SN Bs=true) {p q:FA} (hp:p∈Bs) (hq:q∈Bs):p.made≠q.filled/\(p.made=q.made\/p.filled≠q.filled):=by have h1:=List.all_eq_true.1 h p hp;have h2:=List.all_eq_true.1 h1 q hq;simpa using h2
theorem GB.keep (h:GB W0 N Bs l9 σ w) (hok:∀p∈Bs,∀cs w w',TR w w'->p.ok cs w->p.ok cs w') (hi:VK Bs i=true) (hw:Below w.heap.size w w') (hT:TR w w'):GB W0 N Bs (l9.setIfInBounds i true) (upd σ i v) w':=by
 refine ⟨by simpa using h.1,h.2.1.next hw,fun p hp hl=>?_,fun p hp q hq hne hl1 hl2=>?_⟩
 · obtain ⟨h1,h2⟩:=Iq hi hp;rw[getD_set_ne false (Ne.symm h1)]at hl;obtain ⟨g,cs,e,hg,hx,ha,hb⟩:=h.2.2.1 p hp hl;rw[upd_ne σ v h1,getD_set_ne false (Ne.symm h2)];exact ⟨g,cs,e,hg,hx.next hw,ha,fun hh=>hok p hp _ _ _ hT (hb hh)⟩
 · obtain ⟨h1,-⟩:=Iq hi hp;obtain ⟨h2,-⟩:=Iq hi hq;rw[getD_set_ne false (Ne.symm h1)]at hl1;rw[getD_set_ne false (Ne.symm h2)]at hl2;rw[upd_ne σ v h1,upd_ne σ v h2];exact h.2.2.2 p hp q hq hne hl1 hl2
theorem GB.at_ (h:GB W0 N Bs l9 σ w) {p:FA} (hp:p∈Bs) (hl:l9.getD p.made false=true):∃g cs,σ p.made=.pointer (some ⟨g,0,none⟩)/\W0.heap.size<=g/\AK p.T w g cs/\(l9.getD p.filled false=false->cs=p.zero)/\(l9.getD p.filled false=true->p.ok cs w):=h.2.2.1 p hp hl
theorem GB.made (h:GB W0 N Bs l9 σ w) (hok:∀p∈Bs,∀cs w w',TR w w'->p.ok cs w->p.ok cs w') (hs:SN Bs=true) {p:FA} (hp:p∈Bs) (hi:i=p.made) (hun:l9.getD p.filled false=false) (hsame:∀q∈Bs,q.made=p.made->q=p) (hT:TR w (w.alloc (.cells p.zero p.T))) :
   GB W0 N Bs (l9.setIfInBounds i true) (upd σ i (.pointer (some ⟨w.heap.size,0,none⟩))) (w.alloc (.cells p.zero p.T)):=by
 subst hi;refine ⟨by simpa using h.1,h.2.1.next (Af w _),fun q hq hl=>?_,fun q hq r hr hne hl1 hl2=>?_⟩
 · by_cases hqp:q.made=p.made
   · obtain rfl:=hsame q hq hqp;rw[Cz,getD_set_ne false (DU hs hp hq).1,hun];exact ⟨_,_,rfl,h.2.1.size,AK.new _ _ _,fun _=>rfl,fun hh=>by cases hh⟩
   · rw[getD_set_ne false (Ne.symm hqp)]at hl;obtain ⟨g,cs,e,hg,hx,ha,hb⟩:=h.2.2.1 q hq hl;rw[upd_ne σ _ hqp,getD_set_ne false (DU hs hp hq).1];exact ⟨g,cs,e,hg,hx.alloc _,ha,fun hh=>hok q hq _ _ _ hT (hb hh)⟩
 · by_cases hqp:q.made=p.made
   · have hrp:r.made≠p.made:=fun e=>hne (hqp.trans e.symm)
     rw[getD_set_ne false (Ne.symm hrp)]at hl2;obtain ⟨g,cs,e,-,hx,-⟩:=h.2.2.1 r hr hl2;have hlt:=hx.lt;rw[hqp,Cz,upd_ne σ _ hrp,e];intro hh;injection hh with hh
     injection hh with hh
     injection hh with hh
     omega
   · rw[getD_set_ne false (Ne.symm hqp)]at hl1;rw[upd_ne σ _ hqp];by_cases hrp:r.made=p.made
     · obtain ⟨g,cs,e,-,hx,-⟩:=h.2.2.1 q hq hl1;have hlt:=hx.lt;rw[hrp,Cz,e];intro hh;injection hh with hh
       injection hh with hh
       injection hh with hh
       omega
     · rw[getD_set_ne false (Ne.symm hrp)]at hl2;rw[upd_ne σ _ hrp];exact h.2.2.2 q hq r hr hne hl1 hl2
theorem GB.filled (h:GB W0 N Bs l9 σ w) (hok:∀p∈Bs,∀cs w w',TR w w'->p.ok cs w->p.ok cs w') (hs:SN Bs=true) {p:FA} (hp:p∈Bs) (hi:i=p.filled) (hiN:i<N) {g:Nat} {cs:Array Value}
   (hg:σ p.made=.pointer (some ⟨g,0,none⟩)) (hgg:W0.heap.size<=g) (x:AK p.T w' g cs) (ho:AA g w w') (hc:p.ok cs w') (hT:TR w w') (hl0:l9.getD p.made false=true) (hsame:∀q∈Bs,q.made=p.made->q=p) :
   GB W0 N Bs (l9.setIfInBounds i true) (upd σ i v) w':=by
 subst hi;refine ⟨by simpa using h.1,AE h.2.1 hgg ho,fun q hq hl=>?_,fun q hq r hr hne hl1 hl2=>?_⟩
 · have h1:=(DU hs hq hp).1;rw[getD_set_ne false (Ne.symm h1)]at hl;rw[upd_ne σ v h1];by_cases hqp:q.made=p.made
   · obtain rfl:=hsame q hq hqp;have hlt:q.filled<l9.size:=(by rw[h.1];exact hiN);exact ⟨g,cs,hg,hgg,x,fun hh=>by simp[hlt]at hh,fun _=>hc⟩
   · obtain ⟨g2,cs2,e2,hg2,x2,ha2,hb2⟩:=h.2.2.1 q hq hl;have hne2:g2≠g:=by
      intro e;have:=h.2.2.2 q hq p hp hqp hl hl0;rw[e2,hg,e]at this;exact this rfl
     rw[getD_set_ne false (Ne.symm ((DU hs hq hp).2.resolve_left hqp))];exact ⟨g2,cs2,e2,hg2,x2.other ho hne2,ha2,fun hh=>hok q hq _ _ _ hT (hb2 hh)⟩
 · have h1:=(DU hs hq hp).1;have h2:=(DU hs hr hp).1;rw[getD_set_ne false (Ne.symm h1)]at hl1;rw[getD_set_ne false (Ne.symm h2)]at hl2;rw[upd_ne σ v h1,upd_ne σ v h2];exact h.2.2.2 q hq r hr hne hl1 hl2
end
structure KB (w w':World):Prop where
 kp:Kp w w'
 parts:∀A n ps k,AJ w A n ps k->AJ w' A n ps k
theorem KB.refl (w:World):KB w w:=⟨Kp.refl w,fun _ _ _ _ h=>h⟩
theorem KB.of_below {w w':World} (h:Below w.heap.size w w'):KB w w':=⟨Kp.of_below h,fun _ _ _ _ x=>x.below h⟩
theorem KB.term {g m c d n:Nat} {B C:Option Addr} {s:Bool} {w w':World} (hb:AK 40 w g #[.slice B m c,.bool s,.slice C n d]) (ho:AA g w w'):KB w w':=
 ⟨hb.kp (Te _ _ _ _ _ _ _) ho,fun _ _ _ _ x=>x.keep ho (hb.kp (Te _ _ _ _ _ _ _) ho) (x.offTerm hb (fun i h=>by cases h) (fun i h=>by cases h) (fun i h=>by cases h))⟩
theorem Aw.kb {w w':World} {v:Value} {L:List (Int×Int)} {K:Int} {k:Nat} (h:Aw w v L K k) (t:KB w w'):Aw w' v L K k:=by obtain ⟨A,n,c,s,B,m,d,e,⟨ps,h1,h2,h3⟩,h4,h5,h6⟩:=h;exact ⟨A,n,c,s,B,m,d,e,⟨ps,t.parts _ _ _ _ h1,h2,fun p hp=>(h3 p hp).kp t.kp⟩,h4,h5,h6.kp t.kp⟩
end
section
open Go.RowKit
theorem CH (v u:Value) (Z Y:Int) (k:Nat) (w:World) (hv:BO w v Z k) (hu:BO w u Y k) (hk:k<=137438953472) :
  Calls Tryz.prog 29 #[v,u] w (BE Z Y w):=by
 have hE:=Ac (Si Z Y);have hv0:=hv;have hu0:=hu;obtain ⟨s,A,n,c,xs,rfl,-⟩:=hv;obtain ⟨t,B,m,d,ys,rfl,-⟩:=hu;obtain ⟨x0,y0,z2,-⟩:=Dv w #[.bool s,.slice A n c] #[.bool t,.slice B m d];go_enter Tryz.func29,Tryz.ntmps29;go_wp2_with fail;refine (Ma _ _ Z Y k _ (hv0.below z2) (hu0.below z2) hk).mono ?_;rintro e w1 ⟨v1,rfl,z1,b1⟩;have hs:=Bb v1 (Z-Y) (k+1) w1 z1.in_ (by omega);unfold Dm at hs;rw[hE.out]at hs;go_wp2_with fail;refine hs.mono ?_;rintro e w2 ⟨rfl,b2⟩;go_wp2_with fail
 go_ret
 exact ⟨rfl,(z2.next b1).next b2⟩
end
end Go.Proofs.YtmedjkhmadfjlaaGreat
