/- Texts of one seat, put together: Zint ZintB ZintC RefM RefZ RefZB ZintD ZBox Late DivMath DivZ CeilZ ParseZ. -/
import Derived.Test.YtgohmojcopajoaaGreatDoorP11
import Derived.Test.YtgohmojcopajoaaGreatDoorP10
set_option linter.unusedVariables false
set_option linter.unusedSimpArgs false
set_option maxRecDepth 100000
set_option maxHeartbeats 16000000
namespace Go.Proofs.YtgohmojcopajoaaGreatDoor.Nu
section
open Go.RowKit
open Limb (limb Bf upto Az AF AA)
def sg (s:Bool) (n:Nat):Int:=if s then -(n:Int) else (n:Int)
theorem Pi (n:Nat):sg true n=-(n:Int):=rfl
theorem MC (n:Nat):sg false n=(n:Int):=rfl
theorem Gt (s:Bool) (n:Nat):(sg s n).natAbs=n:=by cases s<;>simp[sg]
theorem Tx (s:Bool):sg s 0=0:=by cases s<;>rfl
theorem RB (Z:Int):sg (decide (Z<0)) Z.natAbs=Z:=by
 by_cases h:Z<0
 · simp[h,sg];omega
 · simp[h,sg];omega
theorem Va (s:Bool) (n:Nat) (h:0<n):decide (sg s n<0)=s:=by cases s<;>simp[sg]<;>omega
def EP (w:World) (v:Value) (Z:Int) (k:Nat):Prop:=∃s A n c xs,v=.agg #[.bool s,.slice A n c]/\Nums w A n xs/\n<=c/\c<=9223372036854775807/\n<=k/\Z=sg s (Limb.val xs)
def Bt (w:World) (v:Value) (Z:Int) (k:Nat):Prop:=∃A n c,v=.agg #[.bool (decide (Z<0)),.slice A n c]/\Nums w A n (Limb.canon Z.natAbs)/\n<=c/\c<=9223372036854775807/\n<=k
theorem Bt.form {w:World} {v:Value} {Z:Int} {k:Nat} (h:Bt w v Z k):∃s A n c,v=.agg #[.bool s,.slice A n c]:=by obtain ⟨A,n,c,rfl,_⟩:=h;exact ⟨_,A,n,c,rfl⟩
theorem Bt.in_ {w:World} {v:Value} {Z:Int} {k:Nat} (h:Bt w v Z k):EP w v Z k:=by obtain ⟨A,n,c,rfl,h1,h2,h3,h4⟩:=h;exact ⟨_,A,n,c,_,rfl,h1,h2,h3,h4,by rw[Limb.val_canon,RB]⟩
theorem EP.below {w w':World} {v:Value} {Z:Int} {k:Nat} (h:EP w v Z k) (hb:Below w.heap.size w w'):EP w' v Z k:=by obtain ⟨s,A,n,c,xs,rfl,h1,h2,h3,h4,h5⟩:=h;exact ⟨s,A,n,c,xs,rfl,h1.below hb,h2,h3,h4,h5⟩
theorem Bt.below {w w':World} {v:Value} {Z:Int} {k:Nat} (h:Bt w v Z k) (hb:Below w.heap.size w w'):Bt w' v Z k:=by obtain ⟨A,n,c,rfl,h1,h2,h3,h4⟩:=h;exact ⟨A,n,c,rfl,h1.below hb,h2,h3,h4⟩
theorem EP.mono {w:World} {v:Value} {Z:Int} {k j:Nat} (h:EP w v Z k) (hj:k<=j):EP w v Z j:=by obtain ⟨s,A,n,c,xs,rfl,h1,h2,h3,h4,h5⟩:=h;exact ⟨s,A,n,c,xs,rfl,h1,h2,h3,by omega,h5⟩
theorem EP.lt {w:World} {v:Value} {Z:Int} {k:Nat} (h:EP w v Z k):Z.natAbs<4294967296^k:=by obtain ⟨s,A,n,c,xs,rfl,h1,h2,h3,h4,rfl⟩:=h;rw[Gt];exact Nat.lt_of_lt_of_le h1.lt (Limb.pow_mono h4)
theorem Bt.only {w w':World} {v:Value} {Z:Int} {k g:Nat} {s:Bool} {B:Option Addr} {m d:Nat} (h:Bt w v Z k) (hb:Dk w g #[.bool s,.slice B m d]) (ho:An g w w'):Bt w' v Z k:=by obtain ⟨A,n,c,rfl,h1,h2,h3,h4⟩:=h;exact ⟨A,n,c,rfl,h1.keepBlk hb ho,h2,h3,h4⟩
theorem Bt.zero (w:World) (k:Nat):Bt w (.agg #[.bool false,.slice none 0 0]) 0 k:=⟨none,0,0,rfl,Nums.nil _ _,by omega,by omega,by omega⟩
theorem Bt.ofEq {w:World} {v:Value} {Z Y:Int} {k:Nat} (h:Bt w v Z k) (e:Z=Y):Bt w v Y k:=e▸h
def IC (Z:Int) (k:Nat) (w:World) (e:Ending) (w':World):Prop:=∃v,e=.returned v/\Bt w' v Z k/\Below w.heap.size w w'
def NK (s:Bool) (A:Option Addr) (n c N:Nat) (w:World) (e:Ending) (w':World):Prop:=e=.returned (.agg #[.bool (decide (sg s N<0)),.slice A n c])/\Below w.heap.size w w'
theorem CF (s:Bool) (A:Option Addr) (n c N:Nat) (w:World) (hn:n=(Limb.canon N).length) (hm:n<=9223372036854775807) :
   Calls Tryz.prog 119 #[.bool s,.slice A n c] w (NK s A n c N w):=by
 by_cases h0:N=0
 · subst h0;obtain rfl:n=0:=hn;cases s with
   |true=>
    go_enter Tryz.func119,Tryz.ntmps119;go_wp2_with fail;refine BD rfl rfl (Dk.new _ _) rfl ?_;exact ⟨rfl,Ae _ _⟩
   |false=>
    go_enter Tryz.func119,Tryz.ntmps119;go_wp2_with fail;refine BD rfl rfl (Dk.new _ _) rfl ?_;exact ⟨rfl,Ae _ _⟩
 · have hp:0<n:=by
    rcases Nat.eq_zero_or_pos n with h|h
    · exact absurd ((Limb.canon_len_zero N).1 (by omega)) h0
    · exact h
   have hs:=Aa (Va s N (Nat.pos_of_ne_zero h0));clear hn h0;cases s with
   |true=>
    go_enter Tryz.func119,Tryz.ntmps119;go_wp2_with fail;refine BD rfl rfl (Dk.new _ _) rfl ?_;exact ⟨by rw[hs.out],Ae _ _⟩
   |false=> go_enter Tryz.func119,Tryz.ntmps119;go_wp2_with fail;refine BD rfl rfl (Dk.new _ _) rfl ?_;exact ⟨by rw[hs.out],Ae _ _⟩
theorem CG {w w1 w2:World} {g:Nat} (h1:Below w.heap.size w w1) (hg:w.heap.size<=g) (ho:An g w1 w2):Below w.heap.size w w2:=h1.trans (ho.below h1.size hg)
theorem DU {w:World} {base:Nat} {A:Option Addr} {n c N k:Nat} {s:Bool} (o:Own w base A n c N) (hN:N<4294967296^k):Bt w (.agg #[.bool (decide (sg s N<0)),.slice A n c]) (sg s N) k:=by have:=o.2.2.1;exact ⟨A,n,c,rfl,by rw[Gt];exact o.nums,o.2.1,by omega,My o.nums hN⟩
theorem MD (s:Bool) (A:Option Addr) (n c k:Nat) (xs:List Nat) (w:World) (hx:Nums w A n xs) (hc:n<=c) (hm:c<=9223372036854775807) (hk:n<=k) (hb:k<=1099511627776) :
  Calls Tryz.prog 123 #[.bool s,.slice A n c] w (IC (sg s (Limb.val xs)) k w):=by
 obtain ⟨z1,z2,z3⟩:=F9 w #[.bool false,.slice none 0 0];have hlt:=Aa (Nat.lt_of_lt_of_le hx.lt (Limb.pow_mono hk));go_enter Tryz.func123,Tryz.ntmps123;go_wp2_with fail;refine (Mp A n c xs _ (hx.below z2) hc hm (by omega)).mono ?_;rintro e w1 ⟨A1,n1,rfl,o1,b1⟩;have l1:=IB o1;have k1:=z1.next b1;go_wp2_with fail;refine (CF s A1 n1 n1 (Limb.val xs) w1 o1.len (by omega)).mono ?_;rintro e w2 ⟨rfl,b2⟩;have k2:=k1.next b2;have r2:=(DU (s:=s) o1 hlt.out).below b2
 go_wp2_with (with_reducible refine BA rfl _ _ rfl w.heap.size _ _ _ _ rfl rfl _ _ k2 ?_;intro w3 k3 ho3);refine BD rfl rfl k3 rfl ?_;exact ⟨_,rfl,r2.only k2 ho3,CG ((z2.next b1).next b2) (Nat.le_refl _) ho3⟩
def Hp (Z:Int) (w:World) (e:Ending) (w':World):Prop:=e=.returned (.int .i64 Z.sign)/\Below w.heap.size w w'
theorem NM (v:Value) (Z:Int) (k:Nat) (w:World) (hv:EP w v Z k) (hk:k<=1099511627776):Calls Tryz.prog 125 #[v] w (Hp Z w):=by
 obtain ⟨s,A,n,c,xs,rfl,hx,hc,hm,hn,rfl⟩:=hv;obtain ⟨z1,z2,z3⟩:=F9 w #[.bool s,.slice A n c];have hbits:=Rx A n c xs _ (hx.below z2) hc hm (by omega);unfold MA at hbits;generalize Limb.val xs=N at *;by_cases h0:N=0
 · subst h0;rw[show Limb.bl 0=0 from rfl]at hbits;rw[Tx];go_enter Tryz.func125,Tryz.ntmps125;go_wp2_with fail;refine hbits.mono ?_;rintro e w' ⟨rfl,rfl⟩;go_wp2_with fail;go_ret
   exact ⟨rfl,z2⟩
 · have h1:((Limb.bl N:Int)==0)=false:=by
    have:=mt (Limb.bl_eq_zero N).1 h0;simp;omega
   generalize Limb.bl N=q at *;cases s with
   |true=>
    have hs:Hid (Int.sign (sg true N)=-1):=(by show _=_;rw[Pi];exact Int.sign_eq_neg_one_of_neg (by omega));go_enter Tryz.func125,Tryz.ntmps125;go_wp2_with fail;refine hbits.mono ?_;rintro e w' ⟨rfl,rfl⟩;go_wp2_with fail;go_ret
    exact ⟨by rw[hs.out];rfl,z2⟩
   |false=>
    have hs:Hid (Int.sign (sg false N)=1):=(by show _=_;rw[MC];exact Int.sign_eq_one_of_pos (by omega));go_enter Tryz.func125,Tryz.ntmps125;go_wp2_with fail;refine hbits.mono ?_;rintro e w' ⟨rfl,rfl⟩;go_wp2_with fail;go_ret
    exact ⟨by rw[hs.out];rfl,z2⟩
theorem Vb (s:Bool) (n:Nat):sg (!s) n=-sg s n:=by cases s<;>simp[sg]
theorem ME (v:Value) (Z:Int) (k:Nat) (w:World) (hv:EP w v Z k) (hk:k<=1099511627776):Calls Tryz.prog 86 #[v] w (IC (-Z) k w):=by
 obtain ⟨s,A,n,c,xs,rfl,hx,hc,hm,hn,rfl⟩:=hv;obtain ⟨z0,z1,z2,z3⟩:=IQ w #[.bool s,.slice A n c] #[.bool false,.slice none 0 0];have hf:=MD (!s) A n c k xs _ (hx.below z2) hc hm hn hk;rw[Vb]at hf;go_enter Tryz.func86,Tryz.ntmps86;go_wp2_with fail;refine hf.mono ?_;rintro e w1 ⟨v1,rfl,r1,b1⟩;obtain ⟨s1,A1,n1,c1,rfl⟩:=r1.form;have k1:=z1.next b1;go_wp2_with (with_reducible refine BA rfl _ _ rfl (w.heap.size+1) _ _ _ _ rfl rfl _ _ k1 ?_;intro w3 k3 ho3)
 refine BD rfl rfl k3 rfl ?_;exact ⟨_,rfl,r1.only k1 ho3,CG (z2.next b1) (by omega) ho3⟩
end
section
open Go.RowKit
open Limb (limb Bf upto Az AF AA)
def VS (Z Y:Int) (w:World) (e:Ending) (w':World):Prop:=e=.returned (.int .i64 (ED Z Y))/\Below w.heap.size w w'
end
section
open Go.RowKit
open Limb (limb Bf upto Az AF AA)
theorem Vd (s:Bool) (N M:Nat):sg s (N+M)=sg s N+sg s M:=by cases s<;>simp[sg]<;>omega
theorem RD (s t:Bool) (N M:Nat) (h:s≠t) (hle:M<=N):sg s (N-M)=sg s N+sg t M:=by cases s<;>cases t<;>simp[sg] at*<;> omega
theorem Ve (s t:Bool) (N M:Nat):sg (!(s==t)) (N*M)=sg s N*sg t M:=by cases s<;>cases t<;>simp[sg,Int.neg_mul,Int.mul_neg]
theorem VT {w w':World} (h:∃k,w'=w.drewN k):Below w.heap.size w w':=by obtain ⟨k,rfl⟩:=h;exact Ai w k
theorem Vf {w W w':World} (hb:Below w.heap.size w W) (h:∃k,w'=W.drewN k):Below w.heap.size w w':=hb.next (VT h)
theorem U0 (v u:Value) (Z Y:Int) (k:Nat) (w:World) (hv:EP w v Z k) (hu:EP w u Y k) (hk:k<=137438953472):Calls Tryz.prog 93 #[v,u] w (IC (Z+Y) (k+1) w):=by
 have hlv:=Aa hv.lt;have hlu:=Aa hu.lt;obtain ⟨s,A,n,c,xs,rfl,hx,hc,hm,hn,rfl⟩:=hv;obtain ⟨t,B,m,d,ys,rfl,hy,hd,hmd,hmk,rfl⟩:=hu;rw[Gt]at hlv hlu;obtain ⟨x0,y0,r0,z2,-⟩:=Ph w #[.bool s,.slice A n c] #[.bool t,.slice B m d] #[.bool false,.slice none 0 0];by_cases hst:s=t
 · subst hst;rw[<-Vd];have heq:(s==s)=true:=(by simp);have hl:=Aa (add_lt _ _ _ hlv.out hlu.out);go_enter Tryz.func93,Tryz.ntmps93;go_wp2_with fail;go_region_held3 (fun w'=>w'.cell? ⟨w.heap.size,0,none⟩=some (.bool s)/\w'.cell? ⟨w.heap.size,1,none⟩=some (.slice A n c)/\w'.cell? ⟨w.heap.size+1,1,none⟩=some (.slice B m d))
     (first|exact ⟨x0.drew.c0,x0.drew.c1,y0.drew.c1⟩|exact ⟨x1.c0,x1.c1,y1.c1⟩|exact ⟨x2.c0,x2.c1,y2.c1⟩|exact ⟨(x2.other (Cg _ _ _ _) (by omega)).c0,(x2.other (Cg _ _ _ _) (by omega)).c1,(y2.other (Cg _ _ _ _) (by omega)).c1⟩)
     (first
      |(go_at_call 130;(with_reducible refine (Li A B n c m d xs ys _ (hx.below z2).drew hc hm (by omega) (hy.below z2).drew hd hmd (by omega)).mono ?_);rintro e w1 ⟨A1,n1,rfl,o1,b1⟩;have l1:=IB o1;have x1:=x0.drew.next b1;have y1:=y0.drew.next b1)
      |(go_at_call 119;(with_reducible refine (CF s A1 n1 n1 _ w1 o1.len (by omega)).mono ?_);rintro e w2 ⟨rfl,b2⟩;have x2:=x1.next b2;have y2:=y1.next b2;have k2:=(r0.drew.next b1).next b2;have k2a:=k2.c0;have k2b:=k2.c1;have k2c:=k2.fr 0;have k2d:=k2.fr 1))
   go_wp2_with fail;refine BD rfl rfl (k2.set2 _ _) rfl ?_;exact ⟨_,rfl,((DU o1 hl.out).below b2).only k2 (Cg _ _ _ _),CG ((z2.drew.next b1).next b2) (by omega) (Cg _ _ _ _)⟩
 · have hne:(s==t)=false:=(by simpa using hst);by_cases hle:Limb.val ys<=Limb.val xs
   · rw[<-RD s t _ _ hst hle];have hl:=Aa (show Limb.val xs-Limb.val ys<4294967296^(k+1) from Nat.lt_of_le_of_lt (Nat.sub_le _ _) (Nat.lt_of_lt_of_le hlv.out (Limb.pow_mono (by omega))));clear hst;go_enter Tryz.func93,Tryz.ntmps93;go_wp2_with fail;refine (Pd A B n c m d xs ys _ (hx.below z2) hc hm (by omega) (hy.below z2) hd hmd hle).mono ?_;rintro e w1 ⟨A1,n1,rfl,o1,b1⟩;have hn1:=IB o1;have x1:=(x0.next b1).c0;go_wp2_with fail
     refine (CF s A1 n1 n1 _ w1 o1.len (by omega)).mono ?_;rintro e w2 ⟨rfl,b2⟩;have k2:=(r0.next b1).next b2;go_wp2_with (with_reducible refine BA rfl _ _ rfl (w.heap.size+1+1) _ _ _ _ rfl rfl _ _ k2 ?_;intro w3 k3 ho3);refine BD rfl rfl k3 rfl ?_;exact ⟨_,rfl,((DU o1 hl.out).below b2).only k2 ho3,CG ((z2.next b1).next b2) (by omega) ho3⟩
   · rw[Int.add_comm,<-RD t s _ _ (Ne.symm hst) (by omega)];have hl:=Aa (show Limb.val ys-Limb.val xs<4294967296^(k+1) from Nat.lt_of_le_of_lt (Nat.sub_le _ _) (Nat.lt_of_lt_of_le hlu.out (Limb.pow_mono (by omega))));clear hst;go_enter Tryz.func93,Tryz.ntmps93;go_wp2_with fail;refine (UN A B n c m d xs ys _ (hx.below z2) hc hm (hy.below z2) hd hmd (by omega)).mono ?_;rintro e w1 ⟨rfl,hw1⟩;have b1:=Vf z2 hw1;have c1:=VT hw1;clear hw1;have x1:=x0.next c1;have y1:=y0.next c1
     have x1a:=x1.c1;have y1a:=y1.c0;have y1b:=y1.c1;go_wp2_with fail;refine (Pd B A m d n c ys xs _ (hy.below b1) hd hmd (by omega) (hx.below b1) hc hm (by omega)).mono ?_;rintro e w2 ⟨A1,n1,rfl,o1,b2⟩;have hn1:=IB o1;have y2:=(y1.next b2).c0;go_wp2_with fail;refine (CF t A1 n1 n1 _ w2 o1.len (by omega)).mono ?_;rintro e w3 ⟨rfl,b3⟩;have k3:=((r0.next c1).next b2).next b3
     go_wp2_with (with_reducible refine BA rfl _ _ rfl (w.heap.size+1+1) _ _ _ _ rfl rfl _ _ k3 ?_;intro w4 k4 ho4);refine BD rfl rfl k4 rfl ?_;exact ⟨_,rfl,((DU o1 hl.out).below b3).only k3 ho4,CG ((b1.next b2).next b3) (by omega) ho4⟩
theorem VU (v u:Value) (Z Y:Int) (k j:Nat) (w:World) (hv:EP w v Z k) (hu:EP w u Y j) (hk:k<=137438953472) (hj:j<=137438953472):Calls Tryz.prog 128 #[v,u] w (IC (Z*Y) (k+j) w):=by
 have hlv:=Aa hv.lt;have hlu:=Aa hu.lt;obtain ⟨s,A,n,c,xs,rfl,hx,hc,hm,hn,rfl⟩:=hv;obtain ⟨t,B,m,d,ys,rfl,hy,hd,hmd,hmk,rfl⟩:=hu;rw[Gt]at hlv hlu;have hl:=Aa (Ev _ _ _ _ hlv.out hlu.out);rw[<-Ve];obtain ⟨x0,y0,r0,z2,-⟩:=Ph w #[.bool s,.slice A n c] #[.bool t,.slice B m d] #[.bool false,.slice none 0 0];go_enter Tryz.func128,Tryz.ntmps128;go_wp2_with fail
 go_region_held3 (fun w'=>w'.cell? ⟨w.heap.size,0,none⟩=some (.bool s)/\w'.cell? ⟨w.heap.size,1,none⟩=some (.slice A n c)/\w'.cell? ⟨w.heap.size+1,0,none⟩=some (.bool t)/\w'.cell? ⟨w.heap.size+1,1,none⟩=some (.slice B m d))
  (first|exact ⟨x0.drew.c0,x0.drew.c1,y0.drew.c0,y0.drew.c1⟩|exact ⟨x1.c0,x1.c1,y1.c0,y1.c1⟩|exact ⟨x2.c0,x2.c1,y2.c0,y2.c1⟩|exact ⟨(x2.other (Cg _ _ _ _) (by omega)).c0,(x2.other (Cg _ _ _ _) (by omega)).c1,(y2.other (Cg _ _ _ _) (by omega)).c0,(y2.other (Cg _ _ _ _) (by omega)).c1⟩)
  (first
   |(go_at_call 159;(with_reducible refine (Tw A B n c m d xs ys _ (hx.below z2).drew hc hm (hy.below z2).drew hd hmd (by omega)).mono ?_);rintro e w1 ⟨A1,n1,rfl,o1,b1⟩;have l1:=IB o1;have x1:=x0.drew.next b1;have y1:=y0.drew.next b1)
   |(go_at_call 119;(with_reducible refine (CF (!(s==t)) A1 n1 n1 _ w1 o1.len (by omega)).mono ?_);rintro e w2 ⟨rfl,b2⟩;have x2:=x1.next b2;have y2:=y1.next b2;have k2:=(r0.drew.next b1).next b2;have k2a:=k2.c0;have k2b:=k2.c1;have k2c:=k2.fr 0;have k2d:=k2.fr 1))
 go_wp2_with fail;refine BD rfl rfl (k2.set2 _ _) rfl ?_;exact ⟨_,rfl,((DU o1 hl.out).below b2).only k2 (Cg _ _ _ _),CG ((z2.drew.next b1).next b2) (by omega) (Cg _ _ _ _)⟩
end
section
open Go.RowKit
open Limb (limb Bf upto Az AF AA)
end
section
open Go.RowKit
open Limb (limb Bf upto Az AF AA)
def VG (Z:Int) (w:World) (e:Ending) (w':World):Prop:=e=.returned (.int .i64 Z.sign)/\Below w.heap.size w w'
end
section
open Go.RowKit
open Limb (limb Bf upto Az AF AA)
def VH (b:Bool) (w:World) (e:Ending) (w':World):Prop:=e=.returned (.bool b)/\Below w.heap.size w w'
end
section
open Go.RowKit
open Limb (limb Bf upto Az AF AA)
theorem U1 (n:Int):IntKind.u64.wrap n=n%18446744073709551616:=by simp[IntKind.wrap,IntKind.bits,IntKind.signed]
theorem Ln (n:Int) (w:World) (h1:-9223372036854775808<=n) (h2:n<=9223372036854775807):Calls Tryz.prog 84 #[.int .i64 n] w (IC n 2 w):=by
 obtain ⟨z1,z2,-⟩:=F9 w #[.bool false,.slice none 0 0];have hl:n.natAbs<18446744073709551616:=by omega
 by_cases hn:n<0
 · have hE:=Aa (show sg true n.natAbs=n by rw[Pi];omega);have hd:decide (n<0)=true:=decide_eq_true hn;go_enter Tryz.func84,Tryz.ntmps84;go_wp2_with fail;refine (of_int _ n.natAbs _ (by rw[U1,U1];omega) (by omega)).mono ?_;rintro e w1 ⟨A1,n1,rfl,o1,b1⟩;have hn1:=IB o1;go_wp2_with fail;refine (CF true A1 n1 n1 _ w1 o1.len (by omega)).mono ?_;rintro e w2 ⟨rfl,b2⟩;have r2:=(DU (s:=true) (k:=2) o1 (by omega)).below b2;rw[hE.out,hd]at r2;rw[hE.out,hd]
   have k2:=(z1.next b1).next b2;go_wp2_with (with_reducible refine BA rfl _ _ rfl w.heap.size _ _ _ _ rfl rfl _ _ k2 ?_;intro w3 k3 ho3);refine BD rfl rfl k3 rfl ?_;exact ⟨_,rfl,r2.only k2 ho3,CG ((z2.next b1).next b2) (Nat.le_refl _) ho3⟩
 · have hE:=Aa (show sg false n.natAbs=n by rw[MC];omega);have hd:decide (n<0)=false:=decide_eq_false hn;go_enter Tryz.func84,Tryz.ntmps84;go_wp2_with fail;refine (of_int _ n.natAbs _ (by omega) (by omega)).mono ?_;rintro e w1 ⟨A1,n1,rfl,o1,b1⟩;have hn1:=IB o1;go_wp2_with fail;refine (CF false A1 n1 n1 _ w1 o1.len (by omega)).mono ?_;rintro e w2 ⟨rfl,b2⟩;have r2:=(DU (s:=false) (k:=2) o1 (by omega)).below b2;rw[hE.out,hd]at r2;rw[hE.out,hd];have k2:=(z1.next b1).next b2
   go_wp2_with (with_reducible refine BA rfl _ _ rfl w.heap.size _ _ _ _ rfl rfl _ _ k2 ?_;intro w3 k3 ho3);refine BD rfl rfl k3 rfl ?_;exact ⟨_,rfl,r2.only k2 ho3,CG ((z2.next b1).next b2) (Nat.le_refl _) ho3⟩
end
section
open Go.RowKit
def VV (w:World) (L:List (Nat×Value×Value)) (W:World):Prop:=Below w.heap.size w W/\∀p∈L,Dk W p.1 #[p.2.1,p.2.2]/\w.heap.size<=p.1
variable {w W W':World} {L:List (Nat×Value×Value)} {g:Nat} {a b:Value}
def WQ (w:World) (B:Nat) (L:List (Nat×Value×Value)) (W:World):Prop:=VV w L W/\B<=W.heap.size/\w.heap.size<=B/\∀p∈L,p.1<B
variable {B:Nat}
def st2 (W:World) (g:Nat) (x y:Value):World:=(W.setCell ⟨g,0,none⟩ x).setCell ⟨g,1,none⟩ y
theorem Bt.alloc {v:Value} {Z:Int} {k:Nat} (h:Bt W v Z k) (o:Obj):Bt (W.alloc o) v Z k:=h.below (Ae W o)
end
section
open Go.RowKit
section
variable {P:Program} {ops:Array Oper} {Q:Exit->Act->World->Prop} {md:Region.Mode} {S:World->Prop} {late:List Nat}
def UJ (P:Program) (md:Region.Mode) (ops:Array Oper) (Q:Exit->Act->World->Prop) (S:World->Prop) (late:List Nat):Nat->Array Bool->Act->World->Prop
 |0,listed,a,w=>Region.ready md ops listed=[]/\Q .normal a w
 |fuel+1,listed,a,w=>(Region.ready md ops listed=[]->Q .normal a w) /\
  ∀i∈Region.ready md ops listed,wpOp P ops Q i (fun a' w'=>(i ∉ late->S w')/\UJ P md ops Q S late fuel (listed.setIfInBounds i true) a' w') a w
def AY (md:Region.Mode) (ops:Array Oper) (listed:Array Bool):Prop:=
 ∀k o,ops[k]?=some o->listed.getD k false=true->∀e∈o.after,Region.binds md e=true->listed.getD e.on false=true
def Te (md:Region.Mode) (ops:Array Oper) (late:List Nat) (i:Nat):Bool:=
 late.all fun j=>match ops[j]? with
  |none=>true
  |some oj=>oj.after.any fun e=>Region.binds md e&&(e.on==i || match ops[e.on]? with
   |none=>false
   |some ok=>ok.after.any fun e2=>Region.binds md e2&&e2.on==i)
theorem DF {listed:Array Bool} {k:Nat} (h1:listed.getD k false=true) (h0:listed.getD k true=false):False:=by
 rcases Nat.lt_or_ge k listed.size with h|h
 · simp[h]at h0 h1;rw[h0]at h1;cases h1
 · simp[Array.getElem?_eq_none h]at h1
theorem AY.next {listed:Array Bool} {j:Nat} (hc:AY md ops listed) (hr:j∈Region.ready md ops listed):AY md ops (listed.setIfInBounds j true):=by
 intro k o ho hk e he hb;obtain ⟨-,oj,hoj,hall⟩:=mem_ready.1 hr;by_cases hjk:j=k
 · subst hjk;rw[hoj]at ho;injection ho with ho
   subst ho;exact getD_set_true (hall e he hb)
 · rw[getD_set_ne false hjk]at hk;exact getD_set_true (hc k o ho hk e he hb)
theorem AY.zero (n:Nat):AY md ops (Array.replicate n false):=by
 intro k o _ hk;rcases Nat.lt_or_ge k n with h|h
 · simp[h]at hk
 · simp[Nat.not_lt.2 h]at hk
end
end
section
open Go.RowKit
def XH (Z Y:Int):Int:=-((-Z).fdiv Y)
def XI (Z Y:Int):Int:=if Y<=2*Z.fmod Y then Z.fmod Y-Y else Z.fmod Y
end
section
open Go.RowKit
open Limb (limb Bf upto Az AF AA)
theorem NN {fn:Func} {p t:Tmp} (h:fn.results=#[.cell p 54,.tmp t]) (tmps:Array Value) (w:World) (g:Nat) (x y:Value)
  (hp:tmps.getD p undef=.pointer (some ⟨g,0,none⟩)) (hg:Dk w g #[x,y]) :
  (results fn tmps).run Tryz.prog w=.ok (.tuple #[.agg #[x,y],tmps.getD t undef]) w:=by
 have hp':tmps[p]?.getD undef=.pointer (some ⟨g,0,none⟩):=by simpa using hp
 simp[results,h,hp',asAddr,run_loadVar_row w g 54 54 #[x,y] (0,0) _ hg Tryz.underlying54 rfl (by kernel_rfl)]
theorem MF {fn:Func} {R:Ending->World->Prop} {a:Act} {w:World} {g p t:Nat} {x y v:Value} (hres:fn.results=#[.cell p 54,.tmp t]) (hp:a.tmps.getD p undef=.pointer (some ⟨g,0,none⟩))
  (hv:a.tmps.getD t undef=v) (hb:Dk w g #[x,y]) (hd:a.defers=[]) (hR:R (.returned (.tuple #[.agg #[x,y],v])) w):bodyPost Tryz.prog fn R .ret a w:=
 bodyPost_ret (by rw[NN hres _ _ g x y hp hb,hv]) hd hR
def WR (w:World) (e:Ending) (w':World):Prop:=e=.returned (.tuple #[.agg #[.bool false,.slice none 0 0],.agg #[.bool false,.slice none 0 0],.int .i64 10])/\Below w.heap.size w w'
def WB (Z Y:Int) (k j:Nat) (w:World) (e:Ending) (w':World):Prop:=∃u v,e=.returned (.tuple #[u,v,.int .i64 0])/\Bt w' u (Z.fdiv Y) k/\Bt w' v (Z.fmod Y) j/\Below w.heap.size w w'
end
section
open Go.RowKit
def XJ (k:Int) (w:World) (e:Ending) (w':World):Prop:=e=.returned (.tuple #[.agg #[.bool false,.slice none 0 0],.int .i64 k])/\Below w.heap.size w w'
def Yd (Z:Int) (k:Nat) (w:World) (e:Ending) (w':World):Prop:=∃v,e=.returned (.tuple #[v,.int .i64 0])/\Bt w' v Z k/\Below w.heap.size w w'
end
section
open Go.RowKit
instance (s:ByteArray):Decidable (Fa s):=by unfold Fa;infer_instance
def ER (r:ByteArray):Int:=if 4000<r.size then 2 else if Fa r/\r.size≠0 then 0 else 20
def Jw (r:ByteArray):Nat:=if ER r=0 then numOf r r.size else 0
theorem MG {r:ByteArray} (h:ER r≠0):Jw r=0:=by unfold Jw;rw[if_neg h]
theorem PQ (N k j:Nat) (hN:N<10^k) (hk:k<=4000) (hj:446<=j):N<4294967296^j:=by obtain ⟨M,hM⟩:∃M:Nat,M=4000:=⟨_,rfl⟩;refine Nat.lt_of_lt_of_le hN (Nat.le_of_lt (Nat.lt_of_le_of_lt (Nat.pow_le_pow_right (by omega) (show k<=M by omega)) (Nat.lt_of_lt_of_le (Dec.limbs_room M) (Nat.pow_le_pow_right (by omega) (by omega)))))
theorem Ty (r:ByteArray) (j:Nat) (hj:446<=j):Jw r<4294967296^j:=by
 unfold Jw;split
 · rename_i h
   unfold ER at h;split at h
   · omega
   · rename_i hl
     split at h
     · rename_i hd
       exact PQ _ r.size j (MB r hd.1 _ (Nat.le_refl _)) (by omega) hj
     · omega
 · exact Nat.pow_pos (by omega)
def KB (r:ByteArray) (w:World) (e:Ending) (w':World):Prop:=∃A n,e=.returned (.tuple #[.slice A n n,.int .i64 (ER r)])/\Own w' w.heap.size A n n (Jw r)/\Below w.heap.size w w'
theorem PR (r:ByteArray) (w:World) (hs:r.size<=9223372036854775807):Calls Tryz.prog 122 #[.string r] w (KB r w):=by
 unfold KB;by_cases h1:4000<r.size
 · have e1:ER r=2:=(by unfold ER;rw[if_pos h1]);refine (NI r w h1 hs).mono ?_;rintro e w' ⟨rfl,hb⟩;rw[e1,MG (by rw[e1];omega)];exact ⟨none,0,rfl,Own.zero _ _ _ _ (by omega),hb⟩
 · by_cases h2:Fa r/\r.size≠0
   · have e1:ER r=0:=(by unfold ER;rw[if_neg h1,if_pos h2]);have e2:Jw r=numOf r r.size:=(by unfold Jw;rw[if_pos e1]);rw[e1,e2];exact RA r w (by omega) h2.1 h2.2
   · have e1:ER r=20:=(by unfold ER;rw[if_neg h1,if_neg h2]);refine (NJ r w (by omega) h2).mono ?_;rintro e w' ⟨rfl,hb⟩;rw[e1,MG (by rw[e1];omega)];exact ⟨none,0,rfl,Own.zero _ _ _ _ (by omega),hb⟩
def Vg (r:ByteArray) (w:World) (e:Ending) (w':World):Prop:=∃A n c,e=.returned (.tuple #[.slice A n c,.int .i64 (ER r)])/\Nums w' A n (Limb.canon (Jw r))/\n<=c/\c<=9223372036854775807/\Below w.heap.size w w'
theorem PS (s:ByteArray):(body s).size<=s.size:=by
 unfold body;split
 · simp
 · exact Nat.le_refl _
def GM (s:ByteArray):Int:=sg (PI s) (Jw (body s))
def U2 (s:ByteArray):Int:=ER (body s)
def NO (s:ByteArray) (w:World) (e:Ending) (w':World):Prop:=∃v k,e=.returned (.tuple #[v,.int .i64 (U2 s)])/\Bt w' v (GM s) k/\k<=500/\Below w.heap.size w w'
theorem CH (s:ByteArray) (w:World) (hs:s.size<=9223372036854775807):Calls Tryz.prog 85 #[.string s] w (NO s w):=by
 obtain ⟨z1,z2,z3⟩:=F9 w #[.bool false,.slice none 0 0];have hb:=PS s;have hcut:=Tu s (w.alloc (.cells #[.bool false,.slice none 0 0] 54)) hs;have HP:=Aa (fun W=>PR (body s) W (by omega));obtain ⟨k,hk⟩:∃k:Nat,k=446:=⟨_,rfl⟩;have hlt:=Aa (Ty (body s) k (by omega));have hZ:=Aa (show GM s=sg (PI s) (Jw (body s)) from rfl);have hC:=Aa (show U2 s=ER (body s) from rfl);have hk5:k<=500:=by omega
 unfold Ll at hcut;generalize body s=r at *;generalize PI s=neg at *;clear hb hk;go_enter Tryz.func85,Tryz.ntmps85;go_wp2_with fail;refine hcut.mono ?_;rintro e w' ⟨rfl,rfl⟩;clear hcut;go_wp2_with fail;refine (HP.out _).mono ?_;rintro e w1 ⟨A1,n1,rfl,o1,b1⟩;have l1:=IB o1;have k1:=z1.next b1;generalize ER r=q at *;go_wp2_with fail;refine (CF neg A1 n1 n1 (Jw r) w1 o1.len (by omega)).mono ?_;rintro e w2 ⟨rfl,b2⟩;have k2:=k1.next b2;have r2:=(DU (s:=neg) o1 hlt.out).below b2
 go_wp2_with (with_reducible refine BA rfl _ _ rfl w.heap.size _ _ _ _ rfl rfl _ _ k2 ?_;intro w3 k3 ho3);exact MF rfl rfl rfl k3 rfl ⟨_,k,by rw[hC.out];rfl,(r2.only k2 ho3).ofEq hZ.out.symm,hk5,CG ((z2.next b1).next b2) (Nat.le_refl _) ho3⟩
end
end Go.Proofs.YtgohmojcopajoaaGreatDoor.Nu
