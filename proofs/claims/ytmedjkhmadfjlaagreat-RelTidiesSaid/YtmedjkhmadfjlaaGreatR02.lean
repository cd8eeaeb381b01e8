/- Texts of one seat, put together: Trim Cmp Inc Mem. -/
import Derived.Test.YtmedjkhmadfjlaaGreatR01
set_option linter.unusedVariables false
set_option linter.unusedSimpArgs false
set_option maxRecDepth 100000
set_option maxHeartbeats 16000000
namespace Go.Proofs.YtmedjkhmadfjlaaGreat
section
open Go.RowKit
def Jp (w:World) (A A':Option Addr) (n m N:Nat):Prop:=m=(Limb.canon N).length/\m<=n/\Av w A' m (Limb.canon N)/\(A'=A\/A'=none)
def M3 (A:Option Addr) (n N:Nat) (w:World) (e:Ending) (w':World):Prop:=∃A' m,e=.returned (.slice A' m m)/\Jp w A A' n m N/\w=w'
theorem Jq (w:World) (A:Option Addr) (xs:List Nat) (n:Nat) (hx:Av w A n xs) (hz:∀j,0<=j->j<n->xs.getD j 0=0):Jp w A none n 0 (Limb.val xs):=by have hc:=Limb.canon_take xs hx.ok 0 (Nat.zero_le _) (fun i _ hi=>hz i (Nat.zero_le _) (by rw[<-hx.len];exact hi)) (fun h=>absurd h (by omega));rw[List.take_zero]at hc;unfold Jp;rw[hc];exact ⟨rfl,Nat.zero_le _,Av.nil _ _,.inr rfl⟩
theorem Jr (w:World) (A:Option Addr) (xs:List Nat) (n k:Nat) (hk:k<=n) (hx:Av w A n xs) (hz:∀j,k<=j->j<n->xs.getD j 0=0) (_h0:k≠0) (hnz:xs.getD (k-1) 0≠0):Jp w A A n k (Limb.val xs):=by have hl:=hx.len;have hc:=Limb.canon_take xs hx.ok k (by omega) (fun i h1 h2=>hz i h1 (by omega)) (fun _=>hnz);unfold Jp;rw[hc];exact ⟨by rw[List.length_take];omega,hk,hx.take hk,.inl rfl⟩
theorem Ct (A:Option Addr) (n c:Nat) (xs:List Nat) (w:World) (hx:Av w A n xs) (hc:n<=c) (hm:c<=9223372036854775807) :
  Calls Tryz.prog 146 #[.slice A n c] w (M3 A n (Limb.val xs) w):=by
 go_enter Tryz.func146,Tryz.ntmps146;go_wp2
 go_loop [3] (fun i=>∃k:Nat,k<=n/\i=.int .i64 k/\Hid (∀j,k<=j->j<n->xs.getD j 0=0)) (fun i=>(intOf i).toNat)
 case atStart=>exact ⟨n,Nat.le_refl _,rfl,fun j h1 h2=>by omega⟩
 case round=>
  obtain ⟨k,hk,rfl,HZ⟩:=hrel;by_cases h0:k=0
  · subst h0;go_wp2
    go_ret
    exact ⟨none,0,rfl,Jq w A xs n hx HZ.out,rfl⟩
  · obtain ⟨b,o,x,rfl,hx1,hx2,hcell⟩:=hx.at_ (i:=k-1) (by omega);have HX:=Lib.hid hx2;have HK:=Lib.hid h0;clear hx2;have hk1:1<=k:=(by omega);clear h0;by_cases hx0:x=0
    · have hb:((x:Int) != 0)=false:=(by simp[hx0]);have HX0:=Lib.hid hx0;clear hx0;go_wp2
      go_round
      case rel=>
       refine ⟨k-1,by omega,by go_num,fun j h1 h2=>?_⟩;by_cases hj:j=k-1
       · subst hj;rw[<-HX.out,HX0.out]
       · exact HZ.out j (by omega) h2
      case measure=>simp[intOf];omega
    · have hb:((x:Int) != 0)=true:=(by simp[hx0]);have HX0:=Lib.hid hx0;clear hx0;go_wp2
      go_ret
      exact ⟨_,k,rfl,Jr w _ xs n k hk hx HZ.out HK.out (by rw[<-HX.out];exact HX0.out),rfl⟩
def IF (A:Option Addr) (N:Nat):Option Addr:=if N=0 then none else A
def L (N:Nat):Nat:=(Limb.canon N).length
theorem FJ (A:Option Addr) {N:Nat} (h:N≠0):IF A N=A:=by unfold IF;rw[if_neg h]
theorem BX (w:World) (A:Option Addr) (xs:List Nat) (n:Nat) (hx:Av w A n xs):Jp w A (IF A (Limb.val xs)) n (L (Limb.val xs)) (Limb.val xs):=by
 have hl:(Limb.canon (Limb.val xs)).length<=n:=by have:=Limb.val_lt xs hx.ok;rw[hx.len]at this;exact Limb.canon_len_le _ _ this
 refine ⟨rfl,hl,?_,?_⟩
 · by_cases h0:Limb.val xs=0
   · rw[h0];exact Av.nil _ _
   · rw[FJ A h0];have h1:=hx.take (k:=L (Limb.val xs)) hl;have h2:Limb.canon (Limb.val xs)=xs.take (L (Limb.val xs)):=by
      have e1:=Limb.canon_eq_fixed xs.length (Limb.val xs) (Limb.val_lt xs hx.ok);rw[Limb.fixed_of_val xs hx.ok]at e1;exact e1
     rw[h2];exact h1
 · by_cases h0:Limb.val xs=0
   · rw[h0];exact .inr rfl
   · rw[FJ A h0];exact .inl rfl
def E7 (A:Option Addr) (N:Nat) (w:World) (e:Ending) (w':World):Prop:=e=.returned (.slice (IF A N) (L N) (L N))/\w=w'
theorem BL (A:Option Addr) (n c:Nat) (xs:List Nat) (w:World) (hx:Av w A n xs) (hc:n<=c) (hm:c<=9223372036854775807) :
  Calls Tryz.prog 146 #[.slice A n c] w (E7 A (Limb.val xs) w):=by
 have HI:=Ac (BX w A xs n hx);go_enter Tryz.func146,Tryz.ntmps146;go_wp2
 go_loop [3] (fun i=>∃k:Nat,k<=n/\i=.int .i64 k/\Hid (∀j,k<=j->j<n->xs.getD j 0=0)) (fun i=>(intOf i).toNat)
 case atStart=>exact ⟨n,Nat.le_refl _,rfl,fun j h1 h2=>by omega⟩
 case round=>
  obtain ⟨k,hk,rfl,HZ⟩:=hrel;by_cases h0:k=0
  · subst h0;go_wp2
    go_ret
    have hv:Limb.val xs=0:=by have:=(Jq w A xs n hx HZ.out).1;exact (Limb.canon_len_zero _).1 this.symm
    exact ⟨by rw[hv];rfl,rfl⟩
  · obtain ⟨b,o,x,rfl,hx1,hx2,hcell⟩:=hx.at_ (i:=k-1) (by omega);have HX:=Lib.hid hx2;have HK:=Lib.hid h0;clear hx2;have hk1:1<=k:=(by omega);clear h0;by_cases hx0:x=0
    · have hb:((x:Int) != 0)=false:=(by simp[hx0]);have HX0:=Lib.hid hx0;clear hx0;go_wp2
      go_round
      case rel=>
       refine ⟨k-1,by omega,by go_num,fun j h1 h2=>?_⟩;by_cases hj:j=k-1
       · subst hj;rw[<-HX.out,HX0.out]
       · exact HZ.out j (by omega) h2
      case measure=>simp[intOf];omega
    · have hb:((x:Int) != 0)=true:=(by simp[hx0]);have HX0:=Lib.hid hx0;clear hx0;have hk2:=(Jr w _ xs n k hk hx HZ.out HK.out (by rw[<-HX.out];exact HX0.out)).1;have hv:Limb.val xs≠0:=by
       intro hv;rw[hv]at hk2;exact HK.out hk2
      have HK2:=Lib.hid hk2;have HV:=Ac hv;clear hk2 hv;go_wp2
      go_ret
      refine ⟨?_,rfl⟩;have hl:L (Limb.val xs)=k:=HK2.out.symm;rw[FJ _ HV.out,hl];rfl
theorem LE (a:Int) (w:World):Calls Tryz.prog 138 #[.int .i64 a] w fun e w'=>e=.returned (.bool false)/\w=w':=by
 go_enter Tryz.func138,Tryz.ntmps138;go_wp2
 go_ret
 exact ⟨by simp,rfl⟩
theorem LF (a:Int) (w:World):Calls Tryz.prog 203 #[.int .u32 a] w fun e w'=>e=.returned (.bool false)/\w=w':=by
 go_enter Tryz.func203,Tryz.ntmps203;go_wp2
 go_ret
 exact ⟨by simp,rfl⟩
def BC (a b:Int):Int:=if a<b then -1 else if b<a then 1 else 0
def OY (a b:Int) (w:World) (e:Ending) (w':World):Prop:=e=.returned (.int .i64 (BC a b))/\w=w'
theorem Is (a b:Int) (w:World):Calls Tryz.prog 90 #[.int .i64 a,.int .i64 b] w (OY a b w):=by
 rcases Int.lt_trichotomy a b with h|h|h
 · have hfin:BC a b=-1:=(by simp[BC,h]);have HF:=Lib.hid hfin;clear hfin;go_enter Tryz.func90,Tryz.ntmps90;go_wp2_with (go_at_call 138;refine (LE _ _).mono ?_;rintro e w' ⟨rfl,rfl⟩);go_ret
   exact ⟨by rw[HF.out];rfl,rfl⟩
 · subst h;have hfin:BC a a=0:=(by simp[BC]);have HF:=Lib.hid hfin;clear hfin;go_enter Tryz.func90,Tryz.ntmps90;go_wp2_with (go_at_call 138;refine (LE _ _).mono ?_;rintro e w' ⟨rfl,rfl⟩);go_ret
   exact ⟨by rw[HF.out];rfl,rfl⟩
 · have hfin:BC a b=1:=(by simp[BC,h];omega);have HF:=Lib.hid hfin;clear hfin;have h2:¬a<b:=(by omega);go_enter Tryz.func90,Tryz.ntmps90;go_wp2_with (go_at_call 138;refine (LE _ _).mono ?_;rintro e w' ⟨rfl,rfl⟩);go_ret
   exact ⟨by rw[HF.out];rfl,rfl⟩
theorem M4 (a b:Int) (w:World):Calls Tryz.prog 169 #[.int .u32 a,.int .u32 b] w (OY a b w):=by
 rcases Int.lt_trichotomy a b with h|h|h
 · have hfin:BC a b=-1:=(by simp[BC,h]);have HF:=Lib.hid hfin;clear hfin;go_enter Tryz.func169,Tryz.ntmps169;go_wp2_with (go_at_call 203;refine (LF _ _).mono ?_;rintro e w' ⟨rfl,rfl⟩);go_ret
   exact ⟨by rw[HF.out];rfl,rfl⟩
 · subst h;have hfin:BC a a=0:=(by simp[BC]);have HF:=Lib.hid hfin;clear hfin;go_enter Tryz.func169,Tryz.ntmps169;go_wp2_with (go_at_call 203;refine (LF _ _).mono ?_;rintro e w' ⟨rfl,rfl⟩);go_ret
   exact ⟨by rw[HF.out];rfl,rfl⟩
 · have hfin:BC a b=1:=(by simp[BC,h];omega);have HF:=Lib.hid hfin;clear hfin;have h2:¬a<b:=(by omega);go_enter Tryz.func169,Tryz.ntmps169;go_wp2_with (go_at_call 203;refine (LF _ _).mono ?_;rintro e w' ⟨rfl,rfl⟩);go_ret
   exact ⟨by rw[HF.out];rfl,rfl⟩
end
section
open Go.RowKit
def Ej (a b:Nat):Int:=BC (a:Int) (b:Int)
theorem OZ {a b:Nat} (h:a<b):Ej a b<0:=by unfold Ej BC;rw[if_pos (by omega)];omega
theorem Pa {a b:Nat} (h:b<=a):0<=Ej a b:=by unfold Ej BC;rw[if_neg (by omega)];split<;>omega
def QY (a b:Nat) (w:World) (e:Ending) (w':World):Prop:=e=.returned (.int .i64 (Ej a b))/\∃k,w'=w.drewN k
theorem QZ (a b:Nat) (h:(Limb.canon a).length≠(Limb.canon b).length):BC ((Limb.canon a).length:Int) ((Limb.canon b).length:Int)=Ej a b:=by
 unfold Ej BC;rcases Nat.lt_or_gt_of_ne h with h1|h1
 · have:=Limb.lt_of_len h1;rw[if_pos (by omega),if_pos (by omega)]
 · have:=Limb.lt_of_len h1;rw[if_neg (by omega),if_pos (by omega),if_neg (by omega),if_pos (by omega)]
theorem Ra (a b i:Nat) (hl:(Limb.canon a).length=(Limb.canon b).length) (hi:i<(Limb.canon a).length) (hd:(Limb.canon a).drop (i+1)=(Limb.canon b).drop (i+1))
   (h:(Limb.canon a).getD i 0≠(Limb.canon b).getD i 0):BC (((Limb.canon a).getD i 0:Nat):Int) (((Limb.canon b).getD i 0:Nat):Int)=Ej a b:=by
 unfold Ej BC;rcases Nat.lt_or_gt_of_ne h with h1|h1
 · have:=Limb.lt_of_top _ _ (Limb.ok_canon a) i hl hi hd h1;rw[Limb.val_canon,Limb.val_canon]at this;rw[if_pos (by omega),if_pos (by omega)]
 · have:=Limb.lt_of_top _ _ (Limb.ok_canon b) i hl.symm (by omega) hd.symm h1;rw[Limb.val_canon,Limb.val_canon]at this;rw[if_neg (by omega),if_pos (by omega),if_neg (by omega),if_pos (by omega)]
theorem PF (a b:Nat) (hl:(Limb.canon a).length=(Limb.canon b).length) (hd:(Limb.canon a).drop 0=(Limb.canon b).drop 0):Ej a b=0:=by have:a=b:=Limb.canon_inj (by simpa using hd);subst this;simp[Ej,BC]
theorem IX (A B:Option Addr) (n c m d:Nat) (xs ys:List Nat) (w:World) (hx:Av w A n xs) (hc:n<=c) (hm:c<=9223372036854775807) (hy:Av w B m ys) (hd:m<=d) (hmd:d<=9223372036854775807) :
   Calls Tryz.prog 120 #[.slice A n c,.slice B m d] w (QY (Limb.val xs) (Limb.val ys) w):=by
 generalize ha:Limb.val xs=a;generalize hb:Limb.val ys=b;have HA:=Lib.hid ha;have HB:=Lib.hid hb;clear ha hb;go_enter Tryz.func120,Tryz.ntmps120;go_wp2_with fail;refine (Ct A n c xs w hx hc hm).mono ?_;rintro e w' ⟨A1,n1,rfl,hcut1,rfl⟩;rw[HA.out]at hcut1;go_wp2_with fail;refine (Ct B m d ys w hy hd hmd).mono ?_;rintro e w' ⟨B1,m1,rfl,hcut2,rfl⟩;rw[HB.out]at hcut2;clear hx hy HA HB;obtain ⟨hn1,hn2,hx1,_⟩:=hcut1;obtain ⟨hm1,hm2,hy1,_⟩:=hcut2;have HN:=Lib.hid hn1
 have HM:=Lib.hid hm1;clear hn1 hm1;have hle1:n1<=9223372036854775807:=by omega
 have hle2:m1<=9223372036854775807:=by omega
 clear hc hm hd hmd hn2 hm2;by_cases hl:n1=m1
 · subst hl;have h0:((n1:Int) != (n1:Int))=false:=(by simp);go_wp2_with fail;go_loopw [5] (fun i wr=>∃k:Nat,k<=n1/\i=.int .i64 ((k:Int)-1)/\(∃q,wr=w.drewN q)/\Hid ((Limb.canon a).drop k=(Limb.canon b).drop k)) (fun i _=>((intOf i)+1).toNat)
   case atStart=>exact ⟨n1,Nat.le_refl _,rfl,⟨0,rfl⟩,by
    show _=_;rw[List.drop_of_length_le (by rw[<-HN.out];exact Nat.le_refl _),List.drop_of_length_le (by rw[<-HM.out];exact Nat.le_refl _)]⟩
   case round=>
    obtain ⟨k,hk,rfl,⟨q,rfl⟩,HD⟩:=hrel;by_cases hk0:k=0
    · subst hk0;go_wp2_with fail;go_ret
      refine ⟨?_,q,rfl⟩;rw[PF a b (by rw[<-HN.out,<-HM.out]) HD.out];rfl
    · have hk1:1<=k:=(by omega);obtain ⟨b1,o1,x,rfl,hxb,hxe,hxc⟩:=hx1.at_ (i:=k-1) (by omega);obtain ⟨b2,o2,y,rfl,hyb,hye,hyc⟩:=hy1.at_ (i:=k-1) (by omega);have HX:=Lib.hid hxe;have HY:=Lib.hid hye;have HK:=Lib.hid hk0;clear hxe hye hk0;by_cases hxy:x=y
      · have h1:((x:Int) != (y:Int))=false:=(by simp[hxy]);have HXY:=Lib.hid hxy;clear hxy;go_wp2_with fail;go_quiet (fail)
        go_wp2_with fail;go_roundw
        case rel=> refine ⟨k-1,by omega,by go_num,⟨_,rfl⟩,?_⟩;have e1:k-1+1=k:=(by omega);exact Limb.drop_eq_step _ _ (k-1) (by rw[<-HN.out,<-HM.out]) (by rw[<-HN.out];omega) (by rw[e1];exact HD.out) (by rw[<-HX.out,<-HY.out];exact HXY.out)
        case measure=>simp[intOf];omega
      · have h1:((x:Int) != (y:Int))=true:=(by simp;omega);have HXY:=Lib.hid hxy;clear hxy;go_wp2_with fail;go_quiet (fail)
        go_wp2_with fail;go_quiet ((go_at_call 169;exact FI (M4 _ _ _)))
        go_wp2_with fail;go_ret
        refine ⟨?_,by simp only[World.drewN_drewN];exact ⟨_,rfl⟩⟩;have e1:k-1+1=k:=(by omega);have e:=Ra a b (k-1) (by rw[<-HN.out,<-HM.out]) (by rw[<-HN.out];omega) (by rw[e1];exact HD.out) (by rw[<-HX.out,<-HY.out];exact HXY.out);rw[<-HX.out,<-HY.out]at e;rw[<-e];rfl
 · have h0:((n1:Int) != (m1:Int))=true:=(by simp;omega);have HL:=Lib.hid hl;clear hl;go_wp2_with (go_at_call 90;refine (Is _ _ _).mono ?_;rintro e w' ⟨rfl,rfl⟩);go_ret
   refine ⟨?_,0,rfl⟩;have e:=QZ a b (by rw[<-HN.out,<-HM.out];exact HL.out);rw[<-e,HN.out,HM.out];rfl
end
section
open Go.RowKit
theorem VW (n:Nat) (h:n<4294967296):n/2147483648=(n.testBit 31).toNat:=by
 rw[Nat.testBit_eq_decide_div_mod_eq];show n/2147483648=(decide (n/2147483648%2=1)).toNat;have h1:n/2147483648<2:=by omega
 by_cases h2:n/2147483648=1
 · rw[h2];rfl
 · have:n/2147483648=0:=by omega
   rw[this];rfl
theorem Js (n:Nat) (h:n<4294967296):n.testBit 31=decide (2147483648<=n):=by rw[Nat.testBit_eq_decide_div_mod_eq];show decide (n/2147483648%2=1)=_;rw[decide_eq_decide];omega
theorem Vv:Nat.testBit 4294967295 31=true:=by decide
theorem Tf (x y z d:Nat) (hx:x<4294967296) (hy:y<4294967296) (hz:z<=1) (hd:d<4294967296) (e:(d+y+z)%4294967296=x) :
  ((4294967295 ^^^ x) &&& y ||| (4294967295 ^^^ (x ^^^ y)) &&& d)/2147483648=if x<y+z then 1 else 0:=by
 have l1:4294967295 ^^^ x<2^32:=Nat.xor_lt_two_pow (by omega) (by omega);have l2:x ^^^ y<2^32:=Nat.xor_lt_two_pow (by omega) (by omega);have l3:4294967295 ^^^ (x ^^^ y)<2^32:=Nat.xor_lt_two_pow (by omega) l2;have l4:(4294967295 ^^^ x) &&& y<2^32:=Nat.and_lt_two_pow _ (by omega);have l5:(4294967295 ^^^ (x ^^^ y)) &&& d<2^32:=Nat.and_lt_two_pow _ (by omega);have l6:(4294967295 ^^^ x) &&& y ||| (4294967295 ^^^ (x ^^^ y)) &&& d<2^32:=Nat.or_lt_two_pow l4 l5
 rw[VW _ l6];simp only[Nat.testBit_or,Nat.testBit_and,Nat.testBit_xor,Vv,Js x hx,Js y hy,Js d hd];by_cases h1:2147483648<=x<;>by_cases h2:2147483648<=y<;>by_cases h3:2147483648<=d<;>simp only[h1,h2,h3,decide_true,decide_false,Bool.true_bne,Bool.false_bne,Bool.not_true,Bool.not_false,Bool.and_true,Bool.and_false,Bool.or_true,Bool.or_false,Bool.toNat_true,Bool.toNat_false]<;>split<;>omega
theorem Rb (x y z:Nat) (hx:x<4294967296) (hy:y<4294967296) (hz:z<=1) :
  bits BinOp.or IntKind.u32 (bits BinOp.and IntKind.u32 (bits BinOp.xor IntKind.u32 IntKind.u32.max x) y)
   (bits BinOp.and IntKind.u32 (bits BinOp.xor IntKind.u32 IntKind.u32.max (bits BinOp.xor IntKind.u32 x y)) (((x:Int)-y-z)%4294967296))/2147483648=((if x<y+z then 1 else 0:Nat):Int):=by
 obtain ⟨d,hd⟩:∃d:Nat,((x:Int)-y-z)%4294967296=(d:Int):=⟨(((x:Int)-y-z)%4294967296).toNat,by omega⟩;have hd1:d<4294967296:=by omega
 have hd2:(d+y+z)%4294967296=x:=by omega
 rw[hd];have em:(IntKind.u32.max:Int)=((4294967295:Nat):Int):=rfl;have l1:4294967295 ^^^ x<2^32:=Nat.xor_lt_two_pow (by omega) (by omega);have l2:x ^^^ y<2^32:=Nat.xor_lt_two_pow (by omega) (by omega);have l3:4294967295 ^^^ (x ^^^ y)<2^32:=Nat.xor_lt_two_pow (by omega) l2;have l4:(4294967295 ^^^ x) &&& y<2^32:=Nat.and_lt_two_pow _ (by omega);have l5:(4294967295 ^^^ (x ^^^ y)) &&& d<2^32:=Nat.and_lt_two_pow _ (by omega)
 rw[em,u32_xor_nat _ _ (by omega) hx,u32_xor_nat _ _ hx hy,u32_xor_nat _ _ (by omega) l2,u32_and_nat _ _ l1 hy,u32_and_nat _ _ l3 hd1,u32_or_nat _ _ l4 l5];have:=Tf x y z d hx hy hz hd1 hd2;omega
def PG (x y z:Nat) (w:World) (e:Ending) (w':World):Prop:=
 ∃s c:Nat,e=.returned (.tuple #[.int .u32 (s:Int),.int .u32 (c:Int)])/\s<4294967296/\c<=1/\Hid (s+4294967296*c=x+y+z)/\w=w'
theorem Lb (x y z:Nat) (w:World) (hx:x<4294967296) (hy:y<4294967296) (hz:z<=1) :
  Calls Tryz.prog 210 #[.int .u32 (x:Int),.int .u32 (y:Int),.int .u32 (z:Int)] w (PG x y z w):=by
 go_enter Tryz.func210,Tryz.ntmps210;go_wp2_with fail;go_ret2
 refine ⟨(x+y+z)%4294967296,(x+y+z)/4294967296,?_,by omega,by omega,by show _=_;omega,rfl⟩;have e1:((((x+y+z)%4294967296:Nat)):Int)=((x:Int)+(y:Int)+(z:Int))%4294967296:=by omega
 have e2:((((x+y+z)/4294967296:Nat)):Int)=((x:Int)+(y:Int)+(z:Int))/4294967296:=by omega
 rw[e1,e2];rfl
def PH (x y z:Nat) (w:World) (e:Ending) (w':World):Prop:=
 ∃s c:Nat,e=.returned (.tuple #[.int .u32 (s:Int),.int .u32 (c:Int)])/\s<4294967296/\c<=1/\Hid (s+y+z=x+4294967296*c)/\w=w'
theorem Lc (x y z:Nat) (w:World) (hx:x<4294967296) (hy:y<4294967296) (hz:z<=1) :
   Calls Tryz.prog 211 #[.int .u32 (x:Int),.int .u32 (y:Int),.int .u32 (z:Int)] w (PH x y z w):=by
 go_enter Tryz.func211,Tryz.ntmps211;go_wp2_with fail;go_ret2
 refine ⟨((x:Int)-y-z).toNat%4294967296+(if x<y+z then x+4294967296-y-z else 0),if x<y+z then 1 else 0,?_,?_,?_,?_,rfl⟩
 · have hb:=Rb x y z hx hy hz;have e1:(((((x:Int)-y-z).toNat%4294967296+(if x<y+z then x+4294967296-y-z else 0):Nat)):Int)=((x:Int)-(y:Int)-(z:Int))%4294967296:=(by split<;>omega);rw[e1,<-hb];rfl
 · split<;>omega
 · split<;>omega
 · show _=_;split<;>omega
def put (zs:List Nat) (o:Nat) (ws:List Nat):List Nat:=zs.take o++(ws++zs.drop (o+ws.length))
theorem AM (zs:List Nat) (o:Nat) (ws:List Nat) (h:o+ws.length<=zs.length):(put zs o ws).length=zs.length:=by simp[put];omega
theorem DD {zs:List Nat} (hz:Limb.Ok zs) (o:Nat) {ws:List Nat} (hw:Limb.Ok ws):Limb.Ok (put zs o ws):=(hz.take o).append (hw.append (hz.drop _))
theorem FK (zs:List Nat) (o:Nat) (ws:List Nat) (h:o+ws.length<=zs.length) (i:Nat) (hi:i<ws.length):(put zs o ws).getD (o+i) 0=ws.getD i 0:=by
 unfold put;have hl:(zs.take o).length=o:=by rw[List.length_take];omega
 rw[List.getD_eq_getElem?_getD,List.getElem?_append_right (by omega),hl,List.getElem?_append_left (by omega),List.getD_eq_getElem?_getD];have:o+i-o=i:=by omega
 rw[this]
theorem GX (zs:List Nat) (o:Nat) (ws:List Nat) (h:o+ws.length<=zs.length) (i v:Nat) (hi:i<ws.length):(put zs o ws).set (o+i) v=put zs o (ws.set i v):=by
 unfold put;have hl:(zs.take o).length=o:=by rw[List.length_take];omega
 rw[List.set_append_right _ _ (by omega),hl,List.set_append_left _ _ (by omega),List.length_set];have:o+i-o=i:=by omega
 rw[this]
theorem FL (zs:List Nat) (o n:Nat) (h:o+n<=zs.length):put zs o ((zs.drop o).take n)=zs:=by
 unfold put;have hl:((zs.drop o).take n).length=n:=by rw[List.length_take,List.length_drop];omega
 rw[hl,<-List.drop_drop,List.take_append_drop,List.take_append_drop]
def win (zs:List Nat) (o n:Nat):List Nat:=(zs.drop o).take n
theorem win_length (zs:List Nat) (o n:Nat) (h:o+n<=zs.length):(win zs o n).length=n:=by unfold win;rw[List.length_take,List.length_drop];omega
theorem H9 {zs:List Nat} (h:Limb.Ok zs) (o n:Nat):Limb.Ok (win zs o n):=(h.drop o).take n
def AA (g:Nat) (w w':World):Prop:=w.grownBy w' (some g)
theorem AA.refl (g:Nat) (w:World):AA g w w:=World.grownBy.refl w _
theorem AA.gb {g:Nat} {w w':World} (h:AA g w w'):w.grownBy w' (some g):=h
theorem AA.trans {g:Nat} {a b c:World} (h:AA g a b) (k:AA g b c):AA g a c:=
 ⟨k.os.trans h.os,k.tape.trans h.tape,k.output.trans h.output,Nat.le_trans h.size k.size,fun i hi hne=>(k.block i (Nat.lt_of_lt_of_le hi h.size) hne).trans (h.block i hi hne)⟩
theorem AA.setCell {g:Nat} {a w:World} (h:AA g a w) (i:Nat) (u:Value):AA g a (w.setCell ⟨g,i,none⟩ u):=
 ⟨h.os,h.tape,h.output,by simpa[World.setCell] using h.size,fun k hk hne=>(Below.heap_setCell w ⟨g,i,none⟩ u k (fun hh=>hne (by rw[hh]))).trans (h.block k hk hne)⟩
theorem AA.drewN {g:Nat} {a w:World} (h:AA g a w) (n:Nat):AA g a (w.drewN n):=⟨h.os,h.tape,h.output,h.size,h.block⟩
theorem AA.drew {g:Nat} {a w:World} (h:AA g a w):AA g a w.drew:=⟨h.os,h.tape,h.output,h.size,h.block⟩
theorem AA.below {g B:Nat} {a w:World} (h:AA g a w) (hB:B<=a.heap.size) (hg:B<=g):Below B a w:=
 ⟨h.os,h.tape,h.output,h.size,fun k hk=>h.block k (by omega) (fun hh=>by injection hh with hh;omega)⟩
def Pb (g o n:Nat) (zs:List Nat) (N:Nat) (w:World) (e:Ending) (w':World):Prop:=
 e=.returned (.tuple #[])/\Row w' g (put zs o (Limb.fixed n N))/\AA g w w'
def ES (g o n:Nat) (zs ys:List Nat) (w:World) (k c:Nat) (wr:World):Prop:=
 ∃cur:List Nat,cur.length=n/\Limb.Ok cur/\Row wr g (put zs o cur)/\AA g w wr/\Limb.val cur+4294967296^k*c=Limb.val (win zs o n)+Limb.val (ys.take k)
theorem ES.start (g o n:Nat) (zs ys:List Nat) (w:World) (hz:Limb.Ok zs) (hr:Row w g zs) (hn:o+n<=zs.length):ES g o n zs ys w 0 0 w:=
 ⟨win zs o n,win_length zs o n hn,H9 hz o n,by unfold win;rw[FL zs o n hn];exact hr,AA.refl g w,by simp[Limb.val]⟩
theorem ES.at_ {g o n:Nat} {zs ys:List Nat} {w:World} {k c:Nat} {wr:World} (h:ES g o n zs ys w k c wr) (hn:o+n<=zs.length) (hk:k<n) :
   ∃z:Nat,z<4294967296/\wr.cell? ⟨g,o+k,none⟩=some (.int .u32 (z:Int))/\wr.frozen? ⟨g,o+k,none⟩=false /\
     ∀x s c':Nat,s<4294967296->s+4294967296*c'=z+x+c->(k<ys.length->x=ys.getD k 0)->(ys.length<=k->x=0) ->
       ES g o n zs ys w (k+1) c' (wr.setCell ⟨g,o+k,none⟩ (.int .u32 (s:Int))):=by
 obtain ⟨cur,hl,ho,hr,hon,hv⟩:=h;have hfit:o+cur.length<=zs.length:=by omega
 refine ⟨cur.getD k 0,ho.getD k,?_,hr.frozen _,fun x s c' hs he hx1 hx2=>?_⟩
 · rw[hr.cell (i:=o+k) (by rw[AM _ _ _ hfit];omega),FK zs o cur hfit k (by omega)]
 · refine ⟨cur.set k s,by simp[hl],ho.set k s hs,?_,hon.setCell _ _,?_⟩
   · rw[<-GX zs o cur hfit k s (by omega)];exact hr.set_ _ _
   · rw[Limb.step_set cur k s x c c' (by omega) _ hv he];by_cases hy:k<ys.length
     · rw[Limb.val_take_succ ys k hy,hx1 hy];omega
     · rw[hx2 (by omega),List.take_of_length_le (by omega),List.take_of_length_le (by omega)];omega
theorem ES.done {g o n:Nat} {zs ys:List Nat} {w:World} {k c:Nat} {wr:World} (h:ES g o n zs ys w k c wr) (hy:ys.length<=k) (hc:c=0\/k=n) :
  Row wr g (put zs o (Limb.fixed n (Limb.val (win zs o n)+Limb.val ys)))/\AA g w wr:=by
 obtain ⟨cur,hl,ho,hr,hon,hv⟩:=h;refine ⟨?_,hon⟩;rw[List.take_of_length_le hy]at hv;have e:cur=Limb.fixed n (Limb.val (win zs o n)+Limb.val ys):=by
  rcases hc with rfl|rfl
  · exact Limb.eq_fixed n _ 0 ho hl (by rw[<-hv];simp)
  · exact Limb.eq_fixed _ _ c ho hl hv
 rw[<-e];exact hr
theorem Ds (g o n c:Nat) (zs:List Nat) (B:Option Addr) (m d:Nat) (ys:List Nat) (w:World) (hr:Row w g zs) (hz:Limb.Ok zs) (hn:o+n<=zs.length) (hc:n<=4611686018427387904)
  (hy:Av w B m ys) (hmn:m<=n) (hap:0<m->Apart B g) :
  Calls Tryz.prog 192 #[.slice (some ⟨g,o,none⟩) n c,.slice B m d] w (Pb g o n zs (Limb.val (win zs o n)+Limb.val ys) w):=by
 have R:=Ac (ES.start g o n zs ys w hz hr hn);clear hr hz;go_enter Tryz.func192,Tryz.ntmps192;go_wp2_with fail;go_loopw [4,10] (fun c i wr=>∃k z:Nat,k<=m/\z<=1/\i=.int .i64 (k:Int)/\c=.int .u32 (z:Int)/\Hid (ES g o n zs ys w k z wr)) (fun _ i _=>m-(intOf i).toNat)
 case atStart=>exact ⟨0,0,Nat.zero_le _,Nat.zero_le _,rfl,rfl,R.out⟩
 case round=>
  clear R;obtain ⟨k,z,hk,hz1,rfl,rfl,R⟩:=hrel;by_cases hkm:k<m
  · obtain ⟨b1,o1,y,rfl,hyb,hye,hyc⟩:=hy.at_ hkm;have hap1:=hap (by omega);have hon:AA g w wr:=(by obtain ⟨_,_,_,_,hon,_⟩:=R.out;exact hon);have hy2:=(hy.grown hon hap1).at_ hkm;obtain ⟨b2,o2,y2,hb2,hyb2,hye2,hyc2⟩:=hy2;obtain ⟨rfl,rfl⟩:b1=b2/\o1=o2:=(by simpa using hb2);obtain rfl:y=y2:=hye.trans hye2.symm;obtain ⟨zz,hzz,hcell,hfroz,hstep⟩:=R.out.at_ hn (by omega);have HY:=Lib.hid hye;have HS:=Ac hstep;clear hye hstep hye2 hyc hb2 hon hap hap1 hyb2
    go_wp2_with (go_at_call 210;refine (Lb _ _ _ _ (by omega) (by omega) (by omega)).mono ?_;rintro e w' ⟨s,c',rfl,hs,hc',HE,rfl⟩);go_roundw
    case rel=>exact ⟨k+1,c',by omega,hc',by go_num,rfl,HS.out y s c' hs HE.out (fun _=>HY.out) (fun h=>by have:=hy.len;omega)⟩
    case measure=>simp[intOf];omega
  · have hkm2:k=m:=(by omega);subst hkm2;clear hkm;go_wp2_with fail;go_loopw [4,7] (fun c i wr=>∃j z:Nat,k<=j/\j<=n/\z<=1/\i=.int .i64 (j:Int)/\c=.int .u32 (z:Int)/\Hid (ES g o n zs ys w j z wr)) (fun _ i _=>n-(intOf i).toNat)
    case atStart=>exact ⟨k,z,Nat.le_refl _,hmn,hz1,rfl,rfl,R⟩
    case round=>
     clear R;obtain ⟨j,z2,hkj,hj,hz2,rfl,rfl,R⟩:=hrel;have hyl:=hy.len;have HYL:=Lib.hid hyl;clear hyl;by_cases hz0:z2=0
     · have h0:((z2:Int) != 0)=false:=(by simp[hz0]);have HZ0:=Lib.hid hz0;clear hz0;go_wp2_with fail;go_end0
       exact ⟨rfl,R.out.done (by rw[HYL.out];exact hkj) (.inl HZ0.out)⟩
     · have h0:((z2:Int) != 0)=true:=(by simp;omega);have hz1:1<=z2:=(by omega);clear hz0;by_cases hjn:j<n
       · obtain ⟨zz,hzz,hcell,hfroz,hstep⟩:=R.out.at_ hn hjn;have HS:=Ac hstep;clear hstep;go_wp2_with (go_at_call 210;refine (Lb zz 0 z2 _ (by omega) (by omega) (by omega)).mono ?_;rintro e w' ⟨s,c',rfl,hs,hc',HE,rfl⟩);go_roundw
         case rel=>exact ⟨j+1,c',by omega,by omega,hc',by go_num,rfl,HS.out 0 s c' hs HE.out (fun h=>by have:=HYL.out;omega) (fun _=>rfl)⟩
         case measure=>simp[intOf];omega
       · go_wp2_with fail;go_end0
         exact ⟨rfl,R.out.done (by rw[HYL.out];exact hkj) (.inr (by omega))⟩
def Ee (g o n:Nat) (zs ys:List Nat) (w:World) (k c:Nat) (wr:World):Prop:=
 ∃cur:List Nat,cur.length=n/\Limb.Ok cur/\Row wr g (put zs o cur)/\AA g w wr/\Limb.val cur+Limb.val (ys.take k)=Limb.val (win zs o n)+4294967296^k*c
theorem Ee.start (g o n:Nat) (zs ys:List Nat) (w:World) (hz:Limb.Ok zs) (hr:Row w g zs) (hn:o+n<=zs.length):Ee g o n zs ys w 0 0 w:=
 ⟨win zs o n,win_length zs o n hn,H9 hz o n,by unfold win;rw[FL zs o n hn];exact hr,AA.refl g w,by simp[Limb.val]⟩
theorem Ee.at_ {g o n:Nat} {zs ys:List Nat} {w:World} {k c:Nat} {wr:World} (h:Ee g o n zs ys w k c wr) (hn:o+n<=zs.length) (hk:k<n) :
   ∃z:Nat,z<4294967296/\wr.cell? ⟨g,o+k,none⟩=some (.int .u32 (z:Int))/\wr.frozen? ⟨g,o+k,none⟩=false /\
     ∀x s c':Nat,s<4294967296->s+x+c=z+4294967296*c'->(k<ys.length->x=ys.getD k 0)->(ys.length<=k->x=0) ->
       Ee g o n zs ys w (k+1) c' (wr.setCell ⟨g,o+k,none⟩ (.int .u32 (s:Int))):=by
 obtain ⟨cur,hl,ho,hr,hon,hv⟩:=h;have hfit:o+cur.length<=zs.length:=by omega
 refine ⟨cur.getD k 0,ho.getD k,?_,hr.frozen _,fun x s c' hs he hx1 hx2=>?_⟩
 · rw[hr.cell (i:=o+k) (by rw[AM _ _ _ hfit];omega),FK zs o cur hfit k (by omega)]
 · refine ⟨cur.set k s,by simp[hl],ho.set k s hs,?_,hon.setCell _ _,?_⟩
   · rw[<-GX zs o cur hfit k s (by omega)];exact hr.set_ _ _
   · rw[<-Limb.step_unset cur k s x c c' (by omega) _ _ hv he];by_cases hy:k<ys.length
     · rw[Limb.val_take_succ ys k hy,hx1 hy]
     · rw[hx2 (by omega),List.take_of_length_le (by omega),List.take_of_length_le (by omega)];omega
theorem Ee.more {g o n:Nat} {zs ys:List Nat} {w:World} {k c:Nat} {wr:World} (h:Ee g o n zs ys w k c wr) (hy:ys.length<=k) (hkn:k<=n) (hle:Limb.val ys<=Limb.val (win zs o n)) (hc:1<=c):k<n:=by obtain ⟨cur,hl,ho,hr,hon,hv⟩:=h;rw[List.take_of_length_le hy]at hv;apply Nat.lt_of_le_of_ne hkn;rintro rfl;have h1:=Limb.val_lt cur ho;rw[hl]at h1;have h2:4294967296^k*1<=4294967296^k*c:=Nat.mul_le_mul_left _ hc;omega
theorem Ee.done {g o n:Nat} {zs ys:List Nat} {w:World} {k:Nat} {wr:World} (h:Ee g o n zs ys w k 0 wr) (hy:ys.length<=k) :
  Row wr g (put zs o (Limb.fixed n (Limb.val (win zs o n)-Limb.val ys)))/\AA g w wr:=by
 obtain ⟨cur,hl,ho,hr,hon,hv⟩:=h;refine ⟨?_,hon⟩;rw[List.take_of_length_le hy]at hv;have e:cur=Limb.fixed n (Limb.val (win zs o n)-Limb.val ys):=Limb.eq_fixed n _ 0 ho hl (by omega);rw[<-e];exact hr
theorem Fs (g o n c:Nat) (zs:List Nat) (B:Option Addr) (m d:Nat) (ys:List Nat) (w:World) (hr:Row w g zs) (hz:Limb.Ok zs) (hn:o+n<=zs.length) (hc:n<=4611686018427387904)
  (hy:Av w B m ys) (hmn:m<=n) (hap:0<m->Apart B g) (hle:Limb.val ys<=Limb.val (win zs o n)) :
  Calls Tryz.prog 193 #[.slice (some ⟨g,o,none⟩) n c,.slice B m d] w (Pb g o n zs (Limb.val (win zs o n)-Limb.val ys) w):=by
 have R:=Ac (Ee.start g o n zs ys w hz hr hn);have HLE:=Ac hle;clear hr hz hle;go_enter Tryz.func193,Tryz.ntmps193;go_wp2_with fail;go_loopw [4,10] (fun c i wr=>∃k z:Nat,k<=m/\z<=1/\i=.int .i64 (k:Int)/\c=.int .u32 (z:Int)/\Hid (Ee g o n zs ys w k z wr)) (fun _ i _=>m-(intOf i).toNat)
 case atStart=>exact ⟨0,0,Nat.zero_le _,Nat.zero_le _,rfl,rfl,R.out⟩
 case round=>
  clear R;obtain ⟨k,z,hk,hz1,rfl,rfl,R⟩:=hrel;by_cases hkm:k<m
  · obtain ⟨b1,o1,y,rfl,hyb,hye,hyc⟩:=hy.at_ hkm;have hap1:=hap (by omega);have hon:AA g w wr:=(by obtain ⟨_,_,_,_,hon,_⟩:=R.out;exact hon);have hy2:=(hy.grown hon hap1).at_ hkm;obtain ⟨b2,o2,y2,hb2,hyb2,hye2,hyc2⟩:=hy2;obtain ⟨rfl,rfl⟩:b1=b2/\o1=o2:=(by simpa using hb2);obtain rfl:y=y2:=hye.trans hye2.symm;obtain ⟨zz,hzz,hcell,hfroz,hstep⟩:=R.out.at_ hn (by omega);have HY:=Lib.hid hye;have HS:=Ac hstep;clear hye hstep hye2 hyc hb2 hon hap hap1 hyb2
    go_wp2_with (go_at_call 211;refine (Lc _ _ _ _ (by omega) (by omega) (by omega)).mono ?_;rintro e w' ⟨s,c',rfl,hs,hc',HE,rfl⟩);go_roundw
    case rel=>exact ⟨k+1,c',by omega,hc',by go_num,rfl,HS.out y s c' hs HE.out (fun _=>HY.out) (fun h=>by have:=hy.len;omega)⟩
    case measure=>simp[intOf];omega
  · have hkm2:k=m:=(by omega);subst hkm2;clear hkm;go_wp2_with fail;go_loopw [4,7] (fun c i wr=>∃j z:Nat,k<=j/\j<=n/\z<=1/\i=.int .i64 (j:Int)/\c=.int .u32 (z:Int)/\Hid (Ee g o n zs ys w j z wr)) (fun _ i _=>n-(intOf i).toNat)
    case atStart=>exact ⟨k,z,Nat.le_refl _,hmn,hz1,rfl,rfl,R⟩
    case round=>
     clear R;obtain ⟨j,z2,hkj,hj,hz2,rfl,rfl,R⟩:=hrel;have hyl:=hy.len;have HYL:=Lib.hid hyl;clear hyl;by_cases hz0:z2=0
     · subst hz0;go_wp2_with fail;go_end0
       exact ⟨rfl,R.out.done (by rw[HYL.out];exact hkj)⟩
     · have h0:((z2:Int) != 0)=true:=(by simp;omega);have hz1:1<=z2:=(by omega);clear hz0;have hjn:j<n:=R.out.more (by rw[HYL.out];exact hkj) hj HLE.out hz1;obtain ⟨zz,hzz,hcell,hfroz,hstep⟩:=R.out.at_ hn hjn;have HS:=Ac hstep;clear hstep;go_wp2_with (go_at_call 211;refine (Lc zz 0 z2 _ (by omega) (by omega) (by omega)).mono ?_;rintro e w' ⟨s,c',rfl,hs,hc',HE,rfl⟩);go_roundw
       case rel=>exact ⟨j+1,c',by omega,by omega,hc',by go_num,rfl,HS.out 0 s c' hs HE.out (fun h=>by have:=HYL.out;omega) (fun _=>rfl)⟩
       case measure=>simp[intOf];omega
theorem LG (A B:Option Addr) (c d:Nat) (w:World) :
  Calls Tryz.prog 193 #[.slice A 0 c,.slice B 0 d] w fun e w'=>e=.returned (.tuple #[])/\w=w':=by
 go_enter Tryz.func193,Tryz.ntmps193;go_wp2_with fail;refine wp_loop_rounds 1 ?_;rw[rounds_succ];go_wp2_with fail;refine wp_loop_rounds 1 ?_;rw[rounds_succ];go_wp2_with fail;go_end0
 exact ⟨rfl,rfl⟩
end
section
open Go.RowKit
theorem Bl (w:World) {ops:Array Oper} {rest:List Oper} {o:Oper} {a:Act} {Q:Exit->Act->World->Prop} (hg:o.guard=none) (l c:Operand) (hop:o.op=Op.makeSlice 36 l c)
  (L:Int) (n:Nat) (hl:a.eval l=.int .i64 L) (hc:a.eval c=.int .i64 L) (hL:L=(n:Int)) (hn:n<=35184372088832)
  (hK:∀w',Row w' w.heap.size (List.replicate n 0)->Below w.heap.size w w'->w.heap.size<w'.heap.size->wpList Tryz.prog ops Q rest (a.put o.dst (.slice (some ⟨w.heap.size,0,none⟩) n n)) w') :
  wpList Tryz.prog ops Q (o::rest) a w:=by
 obtain ⟨i0,hi0,hz0,hz1,hz2⟩:=info_parts Jo;refine wpList_make_full _ hg l c _ hop w.heap.size 122 i0 _ 1 Tryz.underlying36 hi0 hz0 hz1 .i64 .i64 L L n hl hc hL hL (by rw[hz2];omega) (by unfold maxLen;omega) (Nat.le_refl _) ?_;intro w' ho hgr;have hr:=(Row.made (base:=w.heap.size) ho).1;exact hK w' hr ((Below.refl _ _).grown hgr (Nat.le_refl _) (fun k hk=>by cases hk)) hr.lt
theorem Dl (w:World) (g:Nat) (cs:Array Value):AA g w (w.setRow g cs):=
 ⟨rfl,rfl,rfl,by simp[World.setRow],fun k _ hne=>setRow_other w g k cs (fun hh=>hne (by rw[hh]))⟩
theorem Bw {w:World} {ops:Array Oper} {rest:List Oper} {o:Oper} {a:Act} {Q:Exit->Act->World->Prop} (hgd:o.guard=none) (d s:Operand)
   (ho:o.op=.call { callee:=.builtin .copy,args:=#[d,s],argTypes:=#[36,36] })
   (g off:Nat) (D A:Option Addr) (dLen dCap m c:Nat) (hd:a.eval d=.slice D dLen dCap) (hD:0<m->D=some ⟨g,off,none⟩) (hs:a.eval s=.slice A m c)
   (zs xs:List Nat) (hr:Row w g zs) (hx:Av w A m xs) (hm:m<=dLen) (hfit:off+m<=zs.length)
   (h:∀w',Row w' g (put zs off xs)->AA g w w'->wpList Tryz.prog ops Q rest (a.put o.dst (goInt m)) w'):wpList Tryz.prog ops Q (o::rest) a w:=by
 have hl:=hx.len;by_cases h0:m=0
 · subst h0;have hnil:xs=[]:=List.eq_nil_of_length_eq_zero hl;subst hnil;refine wpList_copy_nothing hgd d s _ _ ho 122 Tryz.underlying36 M2 D A dLen dCap 0 c hd hs (by simp) ?_;exact h w (by simpa[put] using hr) (AA.refl g w)
 · obtain ⟨b,q,rfl,hcell⟩:=hx.2.2 (by omega);have hmin:Nat.min m dLen=m:=Nat.min_eq_left hm;have hul:(Cy xs).length=m:=(by rw[Ir,hl]);obtain rfl:=hD (by omega);refine wpList_copy_own hgd d s _ _ ho 122 Tryz.underlying36 M2 g off dLen dCap ⟨b,q,none⟩ m c hd hs (Cy zs).toArray 122 hr (Cy xs) (by rw[hul,hmin]) ?_ (by rw[hul];simp[Ir];omega) (QX xs) ?_
   · intro j v hj;have hjm:j<m:=by
       rcases Nat.lt_or_ge j m with h1|h1
       · exact h1
       · rw[List.getElem?_eq_none (by omega)]at hj;cases hj
     rw[Jm xs j (by omega)]at hj;injection hj with hj
     rw[<-hj,<-hcell j hjm];by_cases hj0:j=0
     · subst hj0;rfl
     · simp[Addr.add,hj0]
   · rw[hul];refine h _ ?_ (Dl w g _);unfold Row at hr ⊢;have e:(List.take off (Cy zs)++(Cy xs++List.drop (off+m) (Cy zs)))=Cy (put zs off xs):=by
       unfold put;rw[FH,FH,PD,PE,hl]
     have hh:=setRow_heap w g _ (List.take off (Cy zs)++(Cy xs++List.drop (off+m) (Cy zs))).toArray _ _ hr;rw[e]at hh;exact (by simpa[e] using hh)
end
end Go.Proofs.YtmedjkhmadfjlaaGreat
