/- Texts of one seat, put together: ZintD TermA SortPart ArePlain SortB CloneP DelP. -/
import Derived.Test.YtmedjkhmadfjlaaGreatR13
import Derived.Shelf.SlSortCmp.NoneTotal
import Derived.Test.YtmedjkhmadfjlaaGreatR01
set_option linter.unusedVariables false
set_option linter.unusedSimpArgs false
set_option maxRecDepth 100000
set_option maxHeartbeats 16000000
namespace Go.Proofs.YtmedjkhmadfjlaaGreat
section
open Go.RowKit
open Limb (limb AQ upto upto_succ Az AC)
theorem U1 (n:Int):IntKind.u64.wrap n=n%18446744073709551616:=by simp[IntKind.wrap,IntKind.bits,IntKind.signed]
theorem We (n:Int) (w:World) (h1:-9223372036854775808<=n) (h2:n<=9223372036854775807):Calls Tryz.prog 56 #[.int .i64 n] w (Cn n 2 w):=by
 obtain ⟨z1,z2,-⟩:=DW w #[.bool false,.slice none 0 0];have hl:n.natAbs<18446744073709551616:=by omega
 by_cases hn:n<0
 · have hE:=Ac (show sg true n.natAbs=n by rw[DX];omega);have hd:decide (n<0)=true:=decide_eq_true hn;go_enter Tryz.func56,Tryz.ntmps56;go_wp2_with fail;refine (of_int _ n.natAbs _ (by rw[U1,U1];omega) (by omega)).mono ?_;rintro e w1 ⟨A1,n1,rfl,o1,b1⟩;have hn1:=EC o1;go_wp2_with fail;refine (Bo true A1 n1 n1 _ w1 o1.len (by omega)).mono ?_;rintro e w2 ⟨rfl,b2⟩;have r2:=(Ch (s:=true) (k:=2) o1 (by omega)).below b2;rw[hE.out,hd]at r2;rw[hE.out,hd]
   have k2:=(z1.next b1).next b2;go_wp2_with (with_reducible refine An rfl _ _ rfl w.heap.size _ _ _ _ rfl rfl _ _ k2 ?_;intro w3 k3 ho3);refine Ay rfl rfl k3 rfl ?_;exact ⟨_,rfl,r2.only k2 ho3,AE ((z2.next b1).next b2) (Nat.le_refl _) ho3⟩
 · have hE:=Ac (show sg false n.natAbs=n by rw[DZ];omega);have hd:decide (n<0)=false:=decide_eq_false hn;go_enter Tryz.func56,Tryz.ntmps56;go_wp2_with fail;refine (of_int _ n.natAbs _ (by omega) (by omega)).mono ?_;rintro e w1 ⟨A1,n1,rfl,o1,b1⟩;have hn1:=EC o1;go_wp2_with fail;refine (Bo false A1 n1 n1 _ w1 o1.len (by omega)).mono ?_;rintro e w2 ⟨rfl,b2⟩;have r2:=(Ch (s:=false) (k:=2) o1 (by omega)).below b2;rw[hE.out,hd]at r2;rw[hE.out,hd];have k2:=(z1.next b1).next b2
   go_wp2_with (with_reducible refine An rfl _ _ rfl w.heap.size _ _ _ _ rfl rfl _ _ k2 ?_;intro w3 k3 ho3);refine Ay rfl rfl k3 rfl ?_;exact ⟨_,rfl,r2.only k2 ho3,AE ((z2.next b1).next b2) (Nat.le_refl _) ho3⟩
theorem MX (w:World) (x y:Nat) (us:Array Value) (hus:us=(Cy [x,y]).toArray) (h:x<4294967296) (hy:y<4294967296):Av (w.alloc (.cells us 122)) (some ⟨w.heap.size,0,none⟩) 2 [x,y]:=
 Av.new w [x,y] us hus (Limb.Ok.cons h (Limb.Ok.cons hy Limb.Ok.nil)) 2 rfl
theorem JK (n:Int) (w:World) (h1:-9223372036854775808<=n) (h2:n<=9223372036854775807):Calls Tryz.prog 49 #[.int .i64 n] w (Cn n 2 w):=by
 obtain ⟨z1,z2,z3⟩:=DW w #[.bool false,.slice none 0 0];by_cases hn:n<0
 · obtain ⟨m,rfl⟩:∃m:Nat,n=-(m:Int)-1:=⟨(-n-1).toNat,by omega⟩;have hm:m<=9223372036854775807:=(by omega);have e1:-(m:Int)-1+1=-(m:Int):=(by omega);have e2:0 - -(m:Int)=(m:Int):=(by omega);clear h1 h2;have hx:=MX (w.alloc (.cells #[.bool false,.slice none 0 0] 38)) (m%4294967296) (m/4294967296) #[.int .u32 ((m:Int)%4294967296),.int .u32 ((m:Int)/4294967296)] (by simp[Cy]) (by omega) (by omega)
   have t2:=Af (w.alloc (.cells #[.bool false,.slice none 0 0] 38)) (.cells #[.int .u32 ((m:Int)%4294967296),.int .u32 ((m:Int)/4294967296)] 122);have s2:=size_alloc (w.alloc (.cells #[.bool false,.slice none 0 0] 38)) (.cells #[.int .u32 ((m:Int)%4294967296),.int .u32 ((m:Int)/4294967296)] 122);rw[z3]at hx s2;have hv:=Ac (show Limb.val [m%4294967296,m/4294967296]=m by simp[Limb.val];omega)
   have hy:=Vw ((w.alloc (.cells #[.bool false,.slice none 0 0] 38)).alloc (.cells #[.int .u32 ((m:Int)%4294967296),.int .u32 ((m:Int)/4294967296)] 122)) 1 1 #[.int .u32 1] rfl (by omega) (by omega) rfl;have t3:=Af ((w.alloc (.cells #[.bool false,.slice none 0 0] 38)).alloc (.cells #[.int .u32 ((m:Int)%4294967296),.int .u32 ((m:Int)/4294967296)] 122)) (.cells #[.int .u32 1] 122);rw[s2]at hy;have T:=(z2.next t2).next t3;have K:=(z1.next t2).next t3;have X:=hx.below t3
   have hE:=Ac (show sg true (m+1)=-(m:Int)-1 by rw[DX];omega);clear hx t2 t3 s2 z3;go_enter Tryz.func49,Tryz.ntmps49;go_wp2_with fail;refine (FM _ _ 2 2 1 1 _ _ _ X hy (by omega) (by omega)).mono ?_;rintro e w1 ⟨A1,n1,c1,rfl,o1,l1,m1,b1⟩;rw[hv.out,Limb.val_canon]at o1;have ln1:n1<=2:=AS o1 (by omega);go_wp2_with fail;refine (Co true A1 n1 c1 2 _ w1 o1 ln1 (by omega)).mono ?_;rintro e w2 ⟨v2,rfl,r2,b2⟩;rw[Limb.val_canon,hE.out]at r2;obtain ⟨s2,A2,n2,c2,rfl⟩:=r2.form
   have k2:=(K.next b1).next b2;go_wp2_with (with_reducible refine An rfl _ _ rfl w.heap.size _ _ _ _ rfl rfl _ _ k2 ?_;intro w3 k3 ho3);refine Ay rfl rfl k3 rfl ?_;exact ⟨_,rfl,r2.only k2 ho3,AE ((T.next b1).next b2) (Nat.le_refl _) ho3⟩
 · obtain ⟨m,rfl⟩:=Int.eq_ofNat_of_zero_le (show 0<=n by omega);clear hn h1;have hx:=MX (w.alloc (.cells #[.bool false,.slice none 0 0] 38)) (m%4294967296) (m/4294967296) #[.int .u32 ((m:Int)%4294967296),.int .u32 ((m:Int)/4294967296)] (by simp[Cy]) (by omega) (by omega);have t2:=Af (w.alloc (.cells #[.bool false,.slice none 0 0] 38)) (.cells #[.int .u32 ((m:Int)%4294967296),.int .u32 ((m:Int)/4294967296)] 122);rw[z3]at hx
   have hv:=Ac (show Limb.val [m%4294967296,m/4294967296]=m by simp[Limb.val];omega);have hf:=Co false _ 2 2 2 _ _ hx (by omega) (by omega);rw[hv.out,DZ]at hf;have K:=z1.next t2;have T:=z2.next t2;clear hx t2 z3 hv;go_enter Tryz.func49,Tryz.ntmps49;go_wp2_with fail;refine hf.mono ?_;rintro e w2 ⟨v2,rfl,r2,b2⟩;obtain ⟨s2,A2,n2,c2,rfl⟩:=r2.form;have k2:=K.next b2;go_wp2_with (with_reducible refine An rfl _ _ rfl w.heap.size _ _ _ _ rfl rfl _ _ k2 ?_;intro w3 k3 ho3)
   refine Ay rfl rfl k3 rfl ?_;exact ⟨_,rfl,r2.only k2 ho3,AE (T.next b2) (Nat.le_refl _) ho3⟩
end
section
open Go.RowKit
theorem JL (v:Value) (Z:Int) (k:Nat) (w:World) (hv:BO w v Z k) (hk:k<=1099511627776):Calls Tryz.prog 105 #[v] w (Cn Z k w):=by
 obtain ⟨s,A,n,c,xs,rfl,hx,hc,hm,hn,rfl⟩:=hv;obtain ⟨z0,z1,z2,-⟩:=Dv w #[.bool s,.slice A n c] #[.bool false,.slice none 0 0];have hf:=Fb s A n c k xs _ (hx.below z2) hc hm hn hk;go_enter Tryz.func105,Tryz.ntmps105;go_wp2_with fail;refine hf.mono ?_;rintro e w1 ⟨v1,rfl,r1,b1⟩;obtain ⟨s1,A1,n1,c1,rfl⟩:=r1.form;have k1:=z1.next b1;go_wp2_with (with_reducible refine An rfl _ _ rfl (w.heap.size+1) _ _ _ _ rfl rfl _ _ k1 ?_;intro w3 k3 ho3);refine Ay rfl rfl k3 rfl ?_
 exact ⟨_,rfl,r1.only k1 ho3,AE (z2.next b1) (by omega) ho3⟩
theorem Aw.number {w w':World} {v:Value} {s:Bool} {B:Option Addr} {m d:Nat} {K:Int} {k:Nat} (h:Au w (.agg #[.bool s,.slice B m d]) K k):Aw w (.agg #[.slice none 0 0,.bool s,.slice B m d]) [] K k:=
 ⟨none,0,0,s,B,m,d,rfl,CY.nil _ _ _,Nat.le_refl _,by omega,h⟩
theorem FR (v:Value) (Z:Int) (k:Nat) (w:World) (hv:BO w v Z k) (hk:k<=1099511627776):Calls Tryz.prog 75 #[v] w (BG [] Z k w):=by
 have hv0:=hv;obtain ⟨s,A,n,c,xs,rfl,-⟩:=hv;obtain ⟨z0,z1,z2,-⟩:=Bi 38 40 w #[.bool s,.slice A n c] #[.slice none 0 0,.bool false,.slice none 0 0];have hf:=JL _ Z k _ (hv0.below z2) hk;have c0:=AH.c0 z0;have c1:=AH.c1 z0;go_enter Tryz.func75,Tryz.ntmps75;go_wp2_with fail;refine hf.mono ?_;rintro e w1 ⟨v1,rfl,r1,b1⟩;obtain ⟨s1,A1,n1,c1,rfl⟩:=r1.form;have k1:=z1.next b1
 go_wp2_with (with_reducible refine Be rfl _ _ rfl (w.heap.size+1) _ _ _ _ _ _ _ rfl rfl _ _ _ k1 ?_;intro w3 k3 ho3);refine BJ rfl rfl k3 rfl ?_;exact ⟨_,rfl,(Aw.number r1 (w':=w) (v:=undef)).only k1 ho3,AE (z2.next b1) (by omega) ho3⟩
theorem JM (q:PV) (k:Nat) (w:World) (hz:BO w q.num q.Z k) (hk:k<=1099511627776):Calls Tryz.prog 168 #[q.agg] w (fun e w'=>e=.returned (.bool (decide (q.Z=0)))/\Below w.heap.size w w'):=by
 obtain ⟨x,s,B,m,d,Z⟩:=q;obtain ⟨z0,z1,-⟩:=Bh 47 w #[.int .i64 x,.bool s,.slice B m d];have hs:=Ef _ Z k _ (hz.below z1) hk;unfold CJ at hs;have c1:=z0.c1;have c2:=z0.c2;unfold PV.num at hs;dsimp only at hs
 show Calls _ _ #[.agg #[.int .i64 x,.bool s,.slice B m d]] _ _;by_cases h0:Z=0
 · subst h0;rw[show Int.sign 0=0 from rfl]at hs;rw[show decide ((0:Int)=0)=true from rfl];go_enter Tryz.func168,Tryz.ntmps168;go_wp2_with fail;refine hs.mono ?_;rintro e w1 ⟨rfl,b1⟩;go_wp2_with fail;go_ret
   exact ⟨rfl,z1.next b1⟩
 · have h1:(Z.sign==0)=false:=LZ h0;have h2:decide (Z=0)=false:=(by simpa using h0);dsimp only
   rw[h2];generalize Z.sign=q at *;clear h0 h2;go_enter Tryz.func168,Tryz.ntmps168;go_wp2_with fail;refine hs.mono ?_;rintro e w1 ⟨rfl,b1⟩;go_wp2_with fail;go_ret
   exact ⟨rfl,z1.next b1⟩
end
section
open Go.Shelf
def Tryz.sortPart_ren:Go.Shelf.Ren:=⟨fun|6=>165|15=>77|14=>201|28=>129|29=>130|20=>217|21=>218|22=>219|23=>220|24=>221|25=>222|26=>223|27=>224|46=>228|47=>171|48=>172|49=>229|50=>230|57=>231|n=>n,fun|22=>34|24=>47|25=>137|3=>3|39=>106|0=>0|53=>122|55=>126|4=>4|46=>142|45=>141|50=>29|5=>5|9=>9|66=>175|70=>179|76=>199|77=>200|n=>n,fun|n=>n⟩
theorem Tryz.sortPart:Go.Proofs.SlLaysF0.n6 Tryz.prog Tryz.sortPart_ren:={
 mixed:=by kernel_rfl
 f6:=⟨Tryz.f165.name,by decide,Tryz.func165.trans (congrArg some (by kernel_rfl))⟩
 f14:=⟨Tryz.f201.name,by decide,Tryz.func201.trans (congrArg some (by kernel_rfl))⟩
 f15:=Tryz.func77.trans (congrArg some (by kernel_rfl))
 f20:=⟨Tryz.f217.name,by decide,Tryz.func217.trans (congrArg some (by kernel_rfl))⟩
 f21:=⟨Tryz.f218.name,by decide,Tryz.func218.trans (congrArg some (by kernel_rfl))⟩
 f22:=⟨Tryz.f219.name,by decide,Tryz.func219.trans (congrArg some (by kernel_rfl))⟩
 f23:=⟨Tryz.f220.name,by decide,Tryz.func220.trans (congrArg some (by kernel_rfl))⟩
 f24:=⟨Tryz.f221.name,by decide,Tryz.func221.trans (congrArg some (by kernel_rfl))⟩
 f25:=⟨Tryz.f222.name,by decide,Tryz.func222.trans (congrArg some (by kernel_rfl))⟩
 f26:=⟨Tryz.f223.name,by decide,Tryz.func223.trans (congrArg some (by kernel_rfl))⟩
 f27:=⟨Tryz.f224.name,by decide,Tryz.func224.trans (congrArg some (by kernel_rfl))⟩
 f28:=Tryz.func129.trans (congrArg some (by kernel_rfl))
 f29:=Tryz.func130.trans (congrArg some (by kernel_rfl))
 f46:=⟨Tryz.f228.name,by decide,Tryz.func228.trans (congrArg some (by kernel_rfl))⟩
 f47:=Tryz.func171.trans (congrArg some (by kernel_rfl))
 f48:=Tryz.func172.trans (congrArg some (by kernel_rfl))
 f49:=⟨Tryz.f229.name,by decide,Tryz.func229.trans (congrArg some (by kernel_rfl))⟩
 f50:=⟨Tryz.f230.name,by decide,Tryz.func230.trans (congrArg some (by kernel_rfl))⟩
 f57:=⟨Tryz.f231.name,by decide,Tryz.func231.trans (congrArg some (by kernel_rfl))⟩
 t0:=Tryz.underlying0
 a0:=Tryz.isAgg0
 z0:=Tryz.sizeOf0
 v0:=Tryz.zeroValue0
 t3:=Tryz.underlying3
 a3:=Tryz.isAgg3
 z3:=Tryz.sizeOf3
 v3:=Tryz.zeroValue3
 t4:=Tryz.underlying4
 a4:=Tryz.isAgg4
 z4:=Tryz.sizeOf4
 v4:=Tryz.zeroValue4
 t5:=Tryz.underlying5
 a5:=Tryz.isAgg5
 z5:=Tryz.sizeOf5
 v5:=Tryz.zeroValue5
 t9:=Tryz.underlying9
 a9:=Tryz.isAgg9
 z9:=Tryz.sizeOf9
 v9:=Tryz.zeroValue9
 t22:=Tryz.underlying34
 a22:=Tryz.isAgg34
 z22:=Tryz.sizeOf34
 v22:=Tryz.zeroValue34
 t25:=Tryz.underlying137
 a25:=Tryz.isAgg137
 z25:=Tryz.sizeOf137
 v25:=Tryz.zeroValue137
 t39:=Tryz.underlying106
 a39:=Tryz.isAgg106
 z39:=Tryz.sizeOf106
 v39:=Tryz.zeroValue106
 t45:=Tryz.underlying141
 a45:=Tryz.isAgg141
 z45:=Tryz.sizeOf141
 v45:=Tryz.zeroValue141
 t46:=Tryz.underlying142
 a46:=Tryz.isAgg142
 z46:=Tryz.sizeOf142
 v46:=Tryz.zeroValue142
 t50:=Tryz.underlying29
 a50:=Tryz.isAgg29
 z50:=Tryz.sizeOf29
 v50:=Tryz.zeroValue29
 t53:=Tryz.underlying122
 a53:=Tryz.isAgg122
 z53:=Tryz.sizeOf122
 v53:=Tryz.zeroValue122
 t55:=Tryz.underlying126
 a55:=Tryz.isAgg126
 z55:=Tryz.sizeOf126
 v55:=Tryz.zeroValue126
 t66:=Tryz.underlying175
 a66:=Tryz.isAgg175
 z66:=Tryz.sizeOf175
 v66:=Tryz.zeroValue175
 t70:=Tryz.underlying179
 a70:=Tryz.isAgg179
 z70:=Tryz.sizeOf179
 v70:=Tryz.zeroValue179
 t76:=Tryz.underlying199
 a76:=Tryz.isAgg199
 z76:=Tryz.sizeOf199
 v76:=Tryz.zeroValue199
 t77:=Tryz.underlying200
 a77:=Tryz.isAgg200
 z77:=Tryz.sizeOf200
 v77:=Tryz.zeroValue200 }
end
section
open Go.RowKit
open Tm
def Cm:Int->List (Int×Int)->Bool
 |_,[]=>true
 |b,(u,c)::ps=>decide (b<u)&&(decide (c≠0)&&Cm u ps)
theorem MY (b:Int) (ps:List (Int×Int)):Cm b ps=true↔BI b ps:=by
 induction ps generalizing b with
 |nil=>simp[Cm,BI]
 |cons p ps ih=> obtain ⟨u,c⟩:=p;simp[Cm,BI,ih]
theorem DL {α:Type} {l:List α} {i:Nat} {x:α} (h:l[i]?=some x):l.drop i=x::l.drop (i+1):=by obtain ⟨hlt,rfl⟩:=List.getElem?_eq_some_iff.1 h;exact List.drop_eq_getElem_cons hlt
theorem TM {ps:List PV} {i:Nat} {p:PV} (h:ps[i]?=some p):(Cl ps)[i]?=some (p.v,p.Z):=by unfold Cl;rw[List.getElem?_map,h];rfl
def U2 (b:Bool) (w:World) (e:Ending) (w':World):Prop:=e=.returned (.bool b)/\Below w.heap.size w w'
theorem FE.at_ {w:World} {A:Option Addr} {n k i:Nat} {L:List (Int×Int)} (h:FE w A n L k) (hi:i<n):∃(b o:Nat) (p:PV),A=some ⟨b,o,none⟩/\b<w.heap.size/\L[i]?=some (p.v,p.Z)/\w.cell? ⟨b,o+i*3,none⟩=some (.int .i64 p.v)/\w.cell? ⟨b,o+i*3+1,none⟩=some (.bool p.s)/\w.cell? ⟨b,o+i*3+2,none⟩=some (.slice p.B p.m p.d)/\BO w p.num p.Z k:=by
 obtain ⟨ps,h1,rfl⟩:=h;obtain ⟨b,o,p,e,hp,c0,c1,c2,hz⟩:=h1.at_ hi;have e0:o+3*i=o+i*3:=by omega
 have e1:o+(3*i+1)=o+i*3+1:=by omega
 have e2:o+(3*i+2)=o+i*3+2:=by omega
 rw[e0]at c0;rw[e1]at c1;rw[e2]at c2;exact ⟨b,o,p,e,World.block_lt_of_cell? w _ c0,TM hp,c0,c1,c2,hz⟩
theorem Mc (A:Option Addr) (n c:Nat) (L:List (Int×Int)) (k:Nat) (w:World) (hx:FE w A n L k) (hm:n<=9223372036854775807) (hk:k<=1099511627776) :
  Calls Tryz.prog 163 #[.slice A n c] w (U2 (Cm (-1) L) w):=by
 have hlen:=Ac hx.len;go_enter Tryz.func163,Tryz.ntmps163;go_wp2_with fail;go_loopw [3,8] (fun l i wr=>∃(q:Nat) (b:Int),q<=n/\i=.int .i64 q/\l=.int .i64 b/\Hid (Cm (-1) L=Cm b (L.drop q))/\Below w.heap.size w wr) (fun _ i _=>n-(intOf i).toNat)
 case atStart=>exact ⟨0,-1,Nat.zero_le _,rfl,rfl,Lib.hid (by rw[List.drop_zero]),Below.refl _ _⟩
 case round=>
  obtain ⟨q,b,hq,rfl,rfl,HR,hb⟩:=hrel;by_cases hqn:q<n
  · obtain ⟨bb,o,p,rfl,hlt,hL,c0,c1,c2,hz⟩:=(hx.below hb).at_ hqn;obtain ⟨v,s,B,m,d,Z⟩:=p;dsimp only at hL c0 c1 c2
    have hD:=Ac (DL hL);clear hL;obtain ⟨z0,z1,-⟩:=Bh 47 wr #[.int .i64 v,.bool s,.slice B m d];have x0:=z0.c0;have x1:=z0.c1;have x2:=z0.c2;by_cases hvb:v<=b
    · have HF:=Ac (show Cm b ((v,Z)::L.drop (q+1))=false by simp[Cm];omega);have hd:decide (v<=b)=true:=(by simpa using hvb);go_wp2_with fail;go_ret
      exact ⟨by rw[HR.out,hD.out,HF.out];rfl,hb.next z1⟩
    · have hd:decide (v<=b)=false:=(by simpa using hvb);have hs:=Ef _ Z k _ (hz.below z1) hk;unfold CJ PV.num at hs;dsimp only at hs
      by_cases h0:Z=0
      · subst h0;rw[show Int.sign 0=0 from rfl]at hs;have HF:=Ac (show Cm b ((v,0)::L.drop (q+1))=false by simp[Cm]);go_wp2_with fail;refine hs.mono ?_;rintro e w1 ⟨rfl,b1⟩;go_wp2_with fail;go_ret
        exact ⟨by rw[HR.out,hD.out,HF.out];rfl,(hb.next z1).next b1⟩
      · have h1:(Z.sign==0)=false:=LZ h0;have HT:=Ac (show Cm b ((v,Z)::L.drop (q+1))=Cm v (L.drop (q+1)) by simp[Cm,h0];omega);generalize Z.sign=sg at *;clear h0;go_wp2_with fail;refine hs.mono ?_;rintro e w1 ⟨rfl,b1⟩;have y0:=(z0.next b1).c0;go_wp2_with fail;go_roundw
        case rel=>exact ⟨q+1,v,by omega,by go_num,rfl,Lib.hid (by rw[HR.out,hD.out,HT.out]),(hb.next z1).next b1⟩
        case measure=>simp[intOf]<;>omega
  · have HT:=Ac (show Cm b (L.drop q)=true by rw[List.drop_of_length_le (by have:=hlen.out;omega)];rfl);go_wp2_with fail;go_ret
    exact ⟨by rw[HR.out,HT.out];rfl,hb⟩
theorem Ig (x:Int) (w:World):Calls Tryz.prog 138 #[.int .i64 x] w (fun e w'=>e=.returned (.bool false)/\w'=w):=by
 have h:(x != x)=false:=by simp
 go_enter Tryz.func138,Tryz.ntmps138;go_wp2_with fail;go_ret
 exact ⟨rfl,rfl⟩
theorem Ix (x y:Int) (w:World):Calls Tryz.prog 90 #[.int .i64 x,.int .i64 y] w (fun e w'=>e=.returned (.int .i64 (AP x y))/\w'=w):=by
 rcases Int.lt_trichotomy x y with h|h|h
 · have H:=Ac (show AP x y=-1 by unfold AP;rw[if_pos h]);go_enter Tryz.func90,Tryz.ntmps90;go_wp2_with (go_at_call 138;refine (Ig _ _).mono ?_;rintro e w' ⟨rfl,rfl⟩);go_ret
   exact ⟨by rw[H.out];rfl,rfl⟩
 · have H:=Ac (show AP x y=0 by unfold AP;rw[if_neg (by omega),if_neg (by omega)]);have h1:¬x<y:=(by omega);have h2:¬y<x:=(by omega);clear h;go_enter Tryz.func90,Tryz.ntmps90;go_wp2_with (go_at_call 138;refine (Ig _ _).mono ?_;rintro e w' ⟨rfl,rfl⟩);go_ret
   exact ⟨by rw[H.out];rfl,rfl⟩
 · have H:=Ac (show AP x y=1 by unfold AP;rw[if_neg (by omega),if_pos h]);have h1:¬x<y:=(by omega);go_enter Tryz.func90,Tryz.ntmps90;go_wp2_with (go_at_call 138;refine (Ig _ _).mono ?_;rintro e w' ⟨rfl,rfl⟩);go_ret
   exact ⟨by rw[H.out];rfl,rfl⟩
open Go.Shelf Go.Lib Go.Sort in
theorem On (x y:PV) (W:World):Calls Tryz.prog 166 #[x.agg,y.agg] W (fun e w'=>e=.returned (.int .i64 (AP x.v y.v))/\∃q os',w'=grow (W.drewN q) os'):=by
 obtain ⟨xv,xs,xB,xm,xd,xZ⟩:=x;obtain ⟨yv,ys,yB,ym,yd,yZ⟩:=y;obtain ⟨z0,z1,-,-⟩:=Bi 47 47 W #[.int .i64 xv,.bool xs,.slice xB xm xd] #[.int .i64 yv,.bool ys,.slice yB ym yd];have x0:=z0.c0;have y0:=z1.c0;show Calls _ _ #[.agg #[.int .i64 xv,.bool xs,.slice xB xm xd],.agg #[.int .i64 yv,.bool ys,.slice yB ym yd]] _ _;dsimp only
 go_enter Tryz.func166,Tryz.ntmps166;go_wp2_with (go_at_call 90;refine (Ix _ _ _).mono ?_;rintro e w' ⟨rfl,rfl⟩);go_ret
 exact ⟨rfl,0,_,by rw[alloc_eq_grow,alloc_eq_grow,grow_grow];rfl⟩
end
section
open Go.RowKit
open Tm
instance:Inhabited PV:=⟨⟨0,false,none,0,0,0⟩⟩
theorem PV.one (p:PV):∀v∈p.cells,v.oneCell'=true:=by intro v hv;simp[PV.cells]at hv;rcases hv with rfl|rfl|rfl<;>rfl
theorem PV.nls (p:PV):FB p.cells:=by
 intro v hv;simp[PV.cells]at hv;rcases hv with rfl|rfl|rfl
 · exact NL.i64 _
 · exact NL.bool _
 · exact NL.slice _ _ _
theorem MZ {ps:List PV} {u:Value} (h:u∈flat ps):∃p∈ps,u∈p.cells:=by unfold flat at h;obtain ⟨l,hl,hu⟩:=List.mem_flatten.1 h;obtain ⟨p,hp,rfl⟩:=List.mem_map.1 hl;exact ⟨p,hp,hu⟩
theorem Fc (ps:List PV):∀u∈flat ps,u.oneCell'=true:=fun u hu=>by
 obtain ⟨p,_,h⟩:=MZ hu;exact p.one u h
theorem Ew (ps:List PV):FB (flat ps):=fun u hu=>by
 obtain ⟨p,_,h⟩:=MZ hu;exact p.nls u h
open Go.Shelf Go.Lib Go.Sort in
theorem GI (d:Array PV):(flatK PV.cells 3 d).toList=flat d.toList:=by
 apply List.ext_getElem?;intro t;by_cases ht:t<d.size*3
 · have hq:t/3<d.size:=(by omega);have hg:d.toList[t/3]?=some d[t/3]:=(by simp[hq]);obtain ⟨g0,g1,g2⟩:=flat_get d.toList (t/3) _ hg;have h1:=get_flatK PV.cells 3 d t ht;have hs:t<(flatK PV.cells 3 d).size:=(by rw[size_flatK];exact ht);rw[getElem!_pos _ t hs,getElem!_pos d _ hq]at h1;have h2:(flatK PV.cells 3 d).toList[t]?=some ((d[t/3]).cells[t%3]!):=by
     rw[Array.getElem?_toList,Array.getElem?_eq_getElem hs,h1]
   rw[h2];clear h1 h2 hg;generalize d[t/3]=p at *;have h3:t%3=0\/t%3=1\/t%3=2:=(by omega);rcases h3 with h3|h3|h3
   · rw[show 3*(t/3)=t by omega]at g0;rw[h3,g0];simp[PV.cells]
   · rw[show 3*(t/3)+1=t by omega]at g1;rw[h3,g1];simp[PV.cells]
   · rw[show 3*(t/3)+2=t by omega]at g2;rw[h3,g2];simp[PV.cells]
 · rw[List.getElem?_eq_none (by simpa using ht),List.getElem?_eq_none (by rw[Dp];simp;omega)]
theorem GJ {L:List (Int×Int)} (h:L.Pairwise fun p q=>p.1<=q.1) (b:Int) (hb:∀p∈L,b<=p.1):JG b L:=by
 induction L generalizing b with
 |nil=>trivial
 |cons p L ih=> obtain ⟨v,c⟩:=p;rw[List.pairwise_cons]at h;exact ⟨hb (v,c) (List.mem_cons_self ..),ih h.2 v (fun q hq=>h.1 q hq)⟩
theorem Qp (L:List (Int×Int)):∃b,∀p∈L,b<=p.1:=by
 induction L with
 |nil=>exact ⟨0,fun p hp=>by cases hp⟩
 |cons p L ih=>
  obtain ⟨b,hb⟩:=ih;refine ⟨min b p.1,fun q hq=>?_⟩;rcases List.mem_cons.1 hq with rfl|hq
  · omega
  · have:=hb q hq;omega
open Go.Shelf Go.Lib Go.Sort in
theorem Gi (x y:PV):ltOf (fun a b:PV=>AP a.v b.v) x y=decide (x.v<y.v):=by
 unfold ltOf AP;by_cases h1:x.v<y.v
 · simp[h1]
 · by_cases h2:y.v<x.v
   · simp[h1,h2]
   · simp[h1,h2]
open Go.Shelf Go.Lib Go.Sort in
theorem V6:SWO (ltOf fun a b:PV=>AP a.v b.v) where
 irrefl x:=by rw[Gi];simp
 trans x y z h1 h2:=by rw[Gi]at *;simp at *;omega
 ntrans x y z h1 h2:=by rw[Gi]at *;simp at *;omega
def Sj (base g n c:Nat) (ps:List PV) (w:World) (e:Ending) (w':World):Prop:=
 e=.returned (.tuple #[])/\∃qs:List PV,qs.Perm ps/\AF 47 3 w' base (.slice (some ⟨g,0,none⟩) n c) n (flat qs)/\(∃b,JG b (Cl qs))/\AA g w w'
open Go.Shelf Go.Lib Go.Sort in
theorem Md (base g n c:Nat) (ps:List PV) (w:World) (h:AF 47 3 w base (.slice (some ⟨g,0,none⟩) n c) n (flat ps)) (hn:n<4611686018427387904) :
   Calls Tryz.prog 165 #[.slice (some ⟨g,0,none⟩) n c,.func (.func 166) #[] #[]] w (Sj base g n c ps w):=by
 obtain ⟨hl,hv⟩:=h;rcases hv with ⟨hv,-⟩|⟨g',cap,cur,hv,hbase,hh,h1,h2,h3,h4,h5⟩
 · cases hv
 injection hv with e1 e2 e3
 injection e1 with e1
 injection e1 with e1
 subst e1 e3;have hpn:ps.length=n:=by rw[Dp]at hl;omega
 have eg:∀args w,(callFunc 166 args).run Tryz.prog w=.ok (.enter 166 args) w:=enters_of Tryz.func166 (by kernel_rfl) rfl;have hds:ps.toArray.size=n:=by simpa using hpn
 have hlt:g<w.heap.size:=(Array.getElem?_eq_some_iff.1 hh).1;have hH:HoldsK PV.cells 3 w g 0 ps.toArray:=by
   intro j hj;rw[size_flatK,hds]at hj;have hjs:j<(flatK PV.cells 3 ps.toArray).size:=(by rw[size_flatK,hds];exact hj);have e1:(flatK PV.cells 3 ps.toArray)[j]! = (flatK PV.cells 3 ps.toArray)[j]:=getElem!_pos _ j hjs;have e2:(flat ps)[j]?=some ((flatK PV.cells 3 ps.toArray)[j]):=by have:=GI ps.toArray;rw[show ps.toArray.toList=ps from rfl]at this;rw[<-this,Array.getElem?_toList,Array.getElem?_eq_getElem hjs]
   rw[e1,Nat.zero_add];refine ⟨?_,by simp[World.frozen?,hh]⟩;rw[cell_of_row w g j _ _ _ hh];rw[<-h4,List.getElem?_take_of_lt hj]at e2;simpa using e2
 have hcmp:CmpLays Tryz.prog 166 #[] PV.cells 3 (fun a b:PV=>AP a.v b.v) g 0 ps.toArray.size w:=fun _ _ _ _ x y=>On x y _
 have hcon:=AnyQ.slices_SortFunc Tryz.sortPart 3 Tryz.isAgg47 Tryz.sizeOf47 PV.cells (fun _=>rfl) PV.one (fun a b:PV=>AP a.v b.v) V6 166 #[] g 0 c ps.toArray w eg hcmp hH hlt (by rw[hds];exact hn);rw[hds]at hcon;refine Calls.mono hcon ?_;rintro e w' ⟨rfl,d',m,os,hp,hs,rfl⟩;have hds':d'.size=n:=by rw[hp.1,hds]
 refine ⟨rfl,d'.toList,?_,⟨by rw[Dp];simp[hds'];omega,.inr ⟨g,c,putCells id 0 (flatK PV.cells 3 d') cur,rfl,hbase,?_,h1,h2,?_,?_,?_⟩⟩,?_,?_⟩
 · have:=hp.2.2;rw[show d'.extract 0 n=d' by rw[<-hds'];simp,show ps.toArray.extract 0 n=ps.toArray by rw[<-hds];simp]at this;exact this
 · show (grow _ os).heap[g]?=_;rw[heap_grow_old _ _ (by rw[show (putRowK PV.cells 3 (Sort.ahead w m) g 0 d').heap.size=w.heap.size from size_putRowK _ _ _ _ _ _];exact hlt)];show ((w.heap.modify g (onCells (putCells id 0 (flatK PV.cells 3 d'))))[g]?)=_;rw[Array.getElem?_modify,if_pos rfl,hh];rfl
 · simpa[putCells] using h3
 · have hcs:n*3<=cur.size:=(by rw[h3];exact Nat.mul_le_mul_right _ h1);rw[<-GI d'];apply List.ext_getElem?;intro t;by_cases ht:t<n*3
   · have hts:t<(flatK PV.cells 3 d').size:=(by rw[size_flatK,hds'];exact ht);rw[List.getElem?_take_of_lt ht,Array.getElem?_toList,Array.getElem?_toList,Array.getElem?_eq_getElem hts];unfold putCells;rw[Array.getElem?_mapIdx,Array.getElem?_eq_getElem (by omega),Option.map_some,if_pos ⟨Nat.zero_le _,by omega⟩,Nat.sub_zero,getElem!_pos _ t hts];rfl
   · rw[List.getElem?_eq_none (by simp;omega),List.getElem?_eq_none (by simp[size_flatK,hds'];omega)]
 · intro u hu;unfold putCells at hu;rw[Array.toList_mapIdx]at hu;obtain ⟨i,hi,rfl⟩:=List.mem_mapIdx.1 hu;split
   · rename_i hr
     have hts:i-0<(flatK PV.cells 3 d').size:=(by omega);rw[getElem!_pos (flatK PV.cells 3 d') (i-0) hts];have:(flatK PV.cells 3 d')[i-0]∈flat d'.toList:=by rw[<-GI];simp
     exact Ew _ _ this
   · exact h5 _ (List.getElem_mem hi)
 · obtain ⟨b,hb⟩:=Qp (Cl d'.toList);refine ⟨b,GJ ?_ b hb⟩;unfold Cl;rw[List.pairwise_map];rw[List.pairwise_iff_getElem];intro i j hi hj hij;have h6:=hs i j (Nat.zero_le _) hij (by simp at hj;omega);rw[Gi]at h6;simp at hi hj;rw[getElem!_pos d' i hi,getElem!_pos d' j hj]at h6;simp at h6;simpa[PV.part] using h6
 · refine ⟨rfl,rfl,rfl,?_,fun k hk hne=>?_⟩
   · show w.heap.size<=(grow _ os).heap.size;rw[size_grow,show (putRowK PV.cells 3 (Sort.ahead w m) g 0 d').heap.size=w.heap.size from size_putRowK _ _ _ _ _ _];omega
   · show (grow _ os).heap[k]?=_;rw[heap_grow_old _ _ (by rw[show (putRowK PV.cells 3 (Sort.ahead w m) g 0 d').heap.size=w.heap.size from size_putRowK _ _ _ _ _ _];exact hk)];show ((w.heap.modify g (onCells (putCells id 0 (flatK PV.cells 3 d'))))[k]?)=_;rw[Array.getElem?_modify,if_neg (fun e=>hne (by rw[e]))]
end
section
open Go.RowKit
open Tm
theorem CR:(Tryz.prog.info? 47).map (fun i=>(i.zero,i.size,i.bytes))=some (some (.agg #[.int .i64 0,.bool false,.slice none 0 0]),3,40):=by kernel_rfl
theorem BK:FB (Value.agg #[.int .i64 0,.bool false,.slice none 0 0]).cells.toList:=by
 show FB [.int .i64 0,.bool false,.slice none 0 0];intro u hu;simp at hu;rcases hu with rfl|rfl|rfl
 · exact NL.i64 _
 · exact NL.bool _
 · exact NL.slice _ _ _
theorem addr_add (b o j:Nat):(⟨b,o,none⟩:Addr).add j=⟨b,o+j,none⟩:=by
 by_cases hj0:j=0
 · subst hj0;rfl
 · simp[Addr.add,hj0]
theorem Bv {w:World} {ops:Array Oper} {rest:List Oper} {o:Oper} {a:Act} {Q:Exit->Act->World->Prop} (hgd:o.guard=none) (s x:Operand)
  (ho:o.op=.call { callee:=.builtin .append,args:=#[s,x],argTypes:=#[34,34] }) (base:Nat) (v:Value) (ps:List PV) (hs:a.eval s=v) (hown:AF 47 3 w base v ps.length (flat ps))
  (b q m c:Nat) (qs:List PV) (hx:a.eval x=.slice (some ⟨b,q,none⟩) m c) (hl:qs.length=m) (hnews:∀j u,(flat qs)[j]?=some u->w.cell? ⟨b,q+j,none⟩=some u) (hn:ps.length+m<=1099511627776) (hbase:base<=w.heap.size)
  (h:∀v' w',AF 47 3 w' base v' (ps++qs).length (flat (ps++qs))->w.grownBy w' v.ownBlock->wpList Tryz.prog ops Q rest (a.put o.dst v') w'):wpList Tryz.prog ops Q (o::rest) a w:=by
 obtain ⟨i0,hi0,hz0,hz1,hz2⟩:=info_parts CR;refine Df hgd s x 34 ho base 47 i0 _ 3 40 Tryz.underlying34 hi0 hz0 hz1 hz2 rfl (by decide) BK v ps.length (flat ps) hs hown ⟨b,q,none⟩ m c (flat qs) hx (by rw[Dp];omega)
  (fun j u hu=>by rw[addr_add];exact hnews j u hu) (Fc qs) (Ew qs) (by unfold maxLen;omega) (by omega) hbase ?_
 intro v' w' h1 h2;refine h v' w' ?_ h2;rw[List.length_append,Do,hl];exact h1
theorem GK {P:Program} (w:World) (t e:TypeId) (a:Addr) (n c:Nat) (h:P.underlying t=some (.slice e)):(binOp .eql t (.slice (some a) n c) (.slice none 0 0)).run P w=.ok (.bool false) w:=by simp only[binOp];simp[Op.equal,Op.maxDepth,Lib.run_equalIn_slice_nil w 9999 t e (some a) n c 0 0 h]
def Qq (n:Nat) (ps:List PV) (w:World) (e:Ending) (w':World):Prop:=∃g c,e=.returned (.slice (some ⟨g,0,none⟩) n c)/\AF 47 3 w' w.heap.size (.slice (some ⟨g,0,none⟩) n c) n (flat ps)/\Below w.heap.size w w'
theorem KO (A:Option Addr) (n c:Nat) (ps:List PV) (k:Nat) (w:World) (hx:AJ w A n ps k) (h0:0<n) (hn:n<=1099511627) :
  Calls Tryz.prog 164 #[.slice A n c] w (Qq n ps w):=by
 obtain ⟨b,o,rfl,hc⟩:=hx.2.1 h0;have hl:=hx.1;go_enter Tryz.func164,Tryz.ntmps164;have heq:=fun W=>GK (P:=Tryz.prog) W 34 47 ⟨b,o,none⟩ n c Tryz.underlying34
 have hown:AF 47 3 (w.alloc (.cells #[] 47)) w.heap.size (.slice (some ⟨w.heap.size,0,none⟩) 0 0) ([]:List PV).length (flat []):=AF.made #[] 0 (Nat.le_refl _) (by unfold maxLen;omega) rfl (fun u hu=>by simp at hu);have hnews:∀j u,(flat ps)[j]?=some u->(w.alloc (.cells #[] 47)).cell? ⟨b,o+j,none⟩=some u:=fun j u hu=>by
  have h1:=hc j u hu;have hlt:=World.block_lt_of_cell? w _ h1;exact (World.cell?_of_block (w:=w) (a:=⟨b,o+j,none⟩) ((Af w _).block b hlt)).trans h1
 have hnn:([]:List PV).length+n<=1099511627776:=by simp;omega
 have HO:=Ac hown;have HN:=Ac hnews;clear hown hnews hc;go_wp2_with (at_builtin;refine Bv rfl _ _ rfl w.heap.size _ [] rfl HO.out b o n c ps rfl hl HN.out hnn (by simp) ?_;intro v' w' h1 h2);rw[List.nil_append,hl]at h1;have hb:=HO.out.old (Af w _) h2 (Nat.le_refl _) (Nat.le_refl _);obtain ⟨A',c',rfl,-,-,h5⟩:=h1.len;obtain ⟨g,rfl⟩:=h5 h0;clear h2 heq;go_wp2_with fail;go_ret
 exact ⟨g,c',rfl,h1,hb⟩
end
section
open Go.RowKit
open Tm
def nz (p:PV):Bool:=decide (p.Z≠0)
def TN (ps:List PV) (w:World) (e:Ending) (w':World):Prop:=
 ∃r:Int,e=.returned (.int .i64 r)/\Below w.heap.size w w'/\((r=-1/\∀p∈ps,nz p=true)\/∃i:Nat,r=(i:Int)/\i<ps.length/\(∀p∈ps.take i,nz p=true)/\∀p,ps[i]?=some p->nz p=false)
theorem AJ.at3 {w:World} {A:Option Addr} {n k i:Nat} {ps:List PV} (h:AJ w A n ps k) (hi:i<n):∃(b o:Nat) (p:PV),A=some ⟨b,o,none⟩/\b<w.heap.size/\ps[i]?=some p/\w.cell? ⟨b,o+i*3,none⟩=some (.int .i64 p.v)/\w.cell? ⟨b,o+i*3+1,none⟩=some (.bool p.s)/\w.cell? ⟨b,o+i*3+2,none⟩=some (.slice p.B p.m p.d)/\BO w p.num p.Z k:=by
 obtain ⟨b,o,p,e,hp,c0,c1,c2,hz⟩:=h.at_ hi;have e0:o+3*i=o+i*3:=by omega
 have e1:o+(3*i+1)=o+i*3+1:=by omega
 have e2:o+(3*i+2)=o+i*3+2:=by omega
 rw[e0]at c0;rw[e1]at c1;rw[e2]at c2;exact ⟨b,o,p,e,World.block_lt_of_cell? w _ c0,hp,c0,c1,c2,hz⟩
theorem KP (A:Option Addr) (n c:Nat) (ps:List PV) (k:Nat) (w:World) (hx:AJ w A n ps k) (hn:n<=1099511627) (hk:k<=1099511627776) :
  Calls Tryz.prog 202 #[.slice A n c,.func (.func 168) #[] #[]] w (TN ps w):=by
 have hlen:=Ac hx.1;go_enter Tryz.func202,Tryz.ntmps202;go_wp2_with fail;go_loopw [8] (fun i wr=>∃q:Nat,q<=n/\i=.int .i64 q/\Hid (∀p∈ps.take q,nz p=true)/\Below w.heap.size w wr) (fun i _=>n-(intOf i).toNat)
 case atStart=>exact ⟨0,Nat.zero_le _,rfl,Lib.hid (fun p hp=>by simp at hp),Below.refl _ _⟩
 case round=>
  obtain ⟨q,hq,rfl,HA,hb⟩:=hrel;by_cases hqn:q<n
  · obtain ⟨bb,o,p,rfl,hlt,hp,c0,c1,c2,hz⟩:=(hx.below hb).at3 hqn;have hP:=Ac hp;clear hp;have hcon:=JM p k wr hz hk;unfold PV.agg at hcon;by_cases h0:p.Z=0
    · have hnz:nz p=false:=(by simp[nz,h0]);have HZ:=Ac hnz;rw[show decide (p.Z=0)=true by simpa using h0]at hcon;clear h0 hnz;generalize p.v=pv at *;generalize p.s=psg at *;generalize p.B=pB at *;generalize p.m=pm at *;generalize p.d=pd at *;go_wp2_with fail;refine hcon.mono ?_;rintro e w1 ⟨rfl,b1⟩;go_wp2_with fail;go_ret
      exact ⟨_,rfl,hb.next b1,.inr ⟨q,rfl,by have:=hlen.out;omega,HA.out,fun p' hp'=>by rw[hP.out]at hp';injection hp' with hp';subst hp';exact HZ.out⟩⟩
    · have HZ:=Ac (show nz p=true by simp[nz,h0]);rw[show decide (p.Z=0)=false by simpa using h0]at hcon;clear h0;have HA2:=Ac (show ∀p'∈ps.take (q+1),nz p'=true from fun p' hp'=>by
       rw[List.take_add_one,hP.out]at hp';rcases List.mem_append.1 hp' with h|h
       · exact HA.out p' h
       · simp at h;subst h;exact HZ.out)
      clear hP HZ;generalize p.v=pv at *;generalize p.s=psg at *;generalize p.B=pB at *;generalize p.m=pm at *;generalize p.d=pd at *;go_wp2_with fail;refine hcon.mono ?_;rintro e w1 ⟨rfl,b1⟩;go_wp2_with fail;go_roundw
      case rel=>exact ⟨q+1,by omega,by go_num,HA2,hb.next b1⟩
      case measure=>simp[intOf]<;>omega
  · go_wp2_with fail;go_ret
    refine ⟨-1,rfl,hb,.inl ⟨rfl,fun p hp=>HA.out p ?_⟩⟩;rw[List.take_of_length_le (by have:=hlen.out;omega)];exact hp
theorem Na (rs:List PV) (i:Nat) (p:PV) (h:i<rs.length):(((flat rs).set (i*3) (.int .i64 p.v)).set (i*3+1) (.bool p.s)).set (i*3+2) (.slice p.B p.m p.d)=flat (rs.set i p):=by
 induction rs generalizing i with
 |nil=>simp at h
 |cons q rs ih=>
  cases i with
  |zero=>simp[Dn,PV.cells]
  |succ i=> have:=ih i (by simpa using h);rw[List.set_cons_succ,Dn,Dn,<-this];simp[PV.cells,show (i+1)*3=i*3+1+1+1 by omega]
theorem GL {w:World} {ops:Array Oper} {rest:List Oper} {o:Oper} {a:Act} {Q:Exit->Act->World->Prop} (hgd:o.guard=none) (x:Operand)
   (ho:o.op=.call { callee:=.builtin .clear,args:=#[x],argTypes:=#[34] }) (base g n c i m d:Nat) (rs:List PV) (hl:rs.length=n) (hown:AF 47 3 w base (.slice (some ⟨g,0,none⟩) n c) n (flat rs))
   (hx:a.eval x=.slice (some ⟨g,i*3,none⟩) m d) (hm:0<m) (him:i+m=n)
   (h:∀w',AF 47 3 w' base (.slice (some ⟨g,0,none⟩) i c) i (flat (rs.take i))->AA g w w'->wpList Tryz.prog ops Q rest (a.put o.dst (.tuple #[])) w'):wpList Tryz.prog ops Q (o::rest) a w:=by
 rcases hown.2 with ⟨hv,-⟩|⟨g',cap,cur,hv,hbase,hh,h1,h2,h3,h4,h5⟩
 · cases hv
 injection hv with e1 e2 e3
 injection e1 with e1
 injection e1 with e1
 subst e1 e3;have hzl:(Builtin.zeroCells (Value.agg #[.int .i64 0,.bool false,.slice none 0 0]).cells m).toList.length=m*3:=by simp[Builtin.zeroCells,Value.cells]
 have hzn:FB (Builtin.zeroCells (Value.agg #[.int .i64 0,.bool false,.slice none 0 0]).cells m).toList:=by
   intro u hu;have hu2:u∈(Builtin.zeroCells (Value.agg #[.int .i64 0,.bool false,.slice none 0 0]).cells m):=(by simpa using hu);unfold Builtin.zeroCells at hu2;obtain ⟨q,-,hq⟩:=Array.mem_map.1 hu2;have hlt:q%(Value.agg #[.int .i64 0,.bool false,.slice none 0 0]).cells.size<(Value.agg #[.int .i64 0,.bool false,.slice none 0 0]).cells.size:=Nat.mod_lt _ (by decide);rw[getElem!_pos (Value.agg #[.int .i64 0,.bool false,.slice none 0 0]).cells _ hlt]at hq
   exact BK u (by rw[<-hq];simp)
 have hz1:∀u∈(Builtin.zeroCells (Value.agg #[.int .i64 0,.bool false,.slice none 0 0]).cells m).toList,u.oneCell'=true:=by
   intro u hu;have hu2:u∈(Builtin.zeroCells (Value.agg #[.int .i64 0,.bool false,.slice none 0 0]).cells m):=(by simpa using hu);unfold Builtin.zeroCells at hu2;obtain ⟨q,-,hq⟩:=Array.mem_map.1 hu2;have hlt:q%(Value.agg #[.int .i64 0,.bool false,.slice none 0 0]).cells.size<(Value.agg #[.int .i64 0,.bool false,.slice none 0 0]).cells.size:=Nat.mod_lt _ (by decide);rw[getElem!_pos (Value.agg #[.int .i64 0,.bool false,.slice none 0 0]).cells _ hlt]at hq
   have h6:u∈[Value.int .i64 0,.bool false,.slice none 0 0]:=by
    have:u∈(Value.agg #[.int .i64 0,.bool false,.slice none 0 0]).cells:=by rw[<-hq];simp
    simpa[Value.cells] using this
   simp at h6;rcases h6 with rfl|rfl|rfl<;>rfl
 have hcs:(i+m)*3<=cur.size:=by rw[h3,him];exact Nat.mul_le_mul_right _ h1
 have hst:=run_storeCells_at Tryz.prog g (i*3) 47 (Builtin.zeroCells (Value.agg #[.int .i64 0,.bool false,.slice none 0 0]).cells m).toList 0 cur w hh (by rw[hzl];omega) hz1;simp only[Nat.add_zero]at hst;obtain ⟨m',rfl⟩:∃m',m=m'+1:=⟨m-1,by omega⟩;have hv0:=Tryz.zeroValue47
 have hcl:(Builtin.clear_ #[34] o.type #[.slice (some ⟨g,i*3,none⟩) (m'+1) d]).run Tryz.prog w=.ok (.tuple #[]) (w.setRow g (cur.toList.take (i*3)++(Builtin.zeroCells (Value.agg #[.int .i64 0,.bool false,.slice none 0 0]).cells (m'+1)).toList++cur.toList.drop (i*3+(Builtin.zeroCells (Value.agg #[.int .i64 0,.bool false,.slice none 0 0]).cells (m'+1)).toList.length)).toArray):=by simp only[Builtin.clear_,run_underlying Tryz.underlying34,Sem.run_bind,Sem.run_pure,Result.andThen_ok,hv0,hst];simp[run_underlying Tryz.underlying34,hv0,hst]
 have hrun:(execOp a.eval o).run Tryz.prog w=.ok (.value (.tuple #[])) (w.setRow g (cur.toList.take (i*3)++(Builtin.zeroCells (Value.agg #[.int .i64 0,.bool false,.slice none 0 0]).cells (m'+1)).toList++cur.toList.drop (i*3+(Builtin.zeroCells (Value.agg #[.int .i64 0,.bool false,.slice none 0 0]).cells (m'+1)).toList.length)).toArray):=by unfold execOp;simp only[ho,resolve,invoke,builtin,Sem.run_bind,Sem.run_pure,Result.andThen_ok,List.map_toArray,List.map_cons,List.map_nil,hx,hcl]
 refine wpList_plain hgd fun K hK=>?_
 unfold Oper.wp;rw[hrun];refine hK _ _ (h _ ⟨by rw[Dp,List.length_take];omega,.inr ⟨g,c,_,rfl,hbase,setRow_heap w g cur _ _ _ hh,by omega,h2,?_,?_,?_⟩⟩ (Dl w g _))
 · simp only[List.size_toArray,List.length_append,List.length_take,List.length_drop,Array.length_toList,hzl];omega
 · rw[Qk];have e:flat rs=cur.toList.take (n*3):=h4.symm;rw[e,List.take_take,show min (3*i) (n*3)=i*3 by omega];rw[List.append_assoc,List.take_append_of_le_length (by simp;omega),List.take_take,Nat.min_self]
 · exact ((h5.take _).append hzn).append (h5.drop _)
end
end Go.Proofs.YtmedjkhmadfjlaaGreat
