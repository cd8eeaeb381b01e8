/- Texts of one seat, put together: Zint ZintB ZintC RefM RefZ RefZB ZintD ZBox Late DivMath DivZ CeilZ ParseZ. -/
import Derived.Test.YtgohmojcopajoaaGreatDoorT11
import Derived.Test.YtgohmojcopajoaaGreatDoorT10
set_option linter.unusedVariables false
set_option linter.unusedSimpArgs false
set_option maxRecDepth 100000
set_option maxHeartbeats 16000000
namespace Go.Proofs.YtgohmojcopajoaaGreatDoor.Nu
section
open Go.RowKit
open Limb (limb AR upto Ax AE Ay)
def sg (s:Bool) (n:Nat):Int:=if s then -(n:Int) else (n:Int)
theorem QE (n:Nat):sg true n=-(n:Int):=rfl
theorem NS (n:Nat):sg false n=(n:Int):=rfl
theorem GI (s:Bool) (n:Nat):(sg s n).natAbs=n:=by cases s<;>simp[sg]
theorem Vk (s:Bool):sg s 0=0:=by cases s<;>rfl
theorem TL (Z:Int):sg (decide (Z<0)) Z.natAbs=Z:=by
 by_cases h:Z<0
 · simp[h,sg];omega
 · simp[h,sg];omega
theorem WR (s:Bool) (n:Nat) (h:0<n):decide (sg s n<0)=s:=by cases s<;>simp[sg]<;>omega
def Fe (w:World) (v:Value) (Z:Int) (k:Nat):Prop:=∃s A n c xs,v=.agg #[.bool s,.slice A n c]/\Nums w A n xs/\n<=c/\c<=9223372036854775807/\n<=k/\Z=sg s (Limb.val xs)
def Bg (w:World) (v:Value) (Z:Int) (k:Nat):Prop:=∃A n c,v=.agg #[.bool (decide (Z<0)),.slice A n c]/\Nums w A n (Limb.canon Z.natAbs)/\n<=c/\c<=9223372036854775807/\n<=k
theorem Bg.form {w:World} {v:Value} {Z:Int} {k:Nat} (h:Bg w v Z k):∃s A n c,v=.agg #[.bool s,.slice A n c]:=by obtain ⟨A,n,c,rfl,_⟩:=h;exact ⟨_,A,n,c,rfl⟩
theorem Bg.in_ {w:World} {v:Value} {Z:Int} {k:Nat} (h:Bg w v Z k):Fe w v Z k:=by obtain ⟨A,n,c,rfl,h1,h2,h3,h4⟩:=h;exact ⟨_,A,n,c,_,rfl,h1,h2,h3,h4,by rw[Limb.val_canon,TL]⟩
theorem Fe.below {w w':World} {v:Value} {Z:Int} {k:Nat} (h:Fe w v Z k) (hb:Below w.heap.size w w'):Fe w' v Z k:=by obtain ⟨s,A,n,c,xs,rfl,h1,h2,h3,h4,h5⟩:=h;exact ⟨s,A,n,c,xs,rfl,h1.below hb,h2,h3,h4,h5⟩
theorem Bg.below {w w':World} {v:Value} {Z:Int} {k:Nat} (h:Bg w v Z k) (hb:Below w.heap.size w w'):Bg w' v Z k:=by obtain ⟨A,n,c,rfl,h1,h2,h3,h4⟩:=h;exact ⟨A,n,c,rfl,h1.below hb,h2,h3,h4⟩
theorem Fe.mono {w:World} {v:Value} {Z:Int} {k j:Nat} (h:Fe w v Z k) (hj:k<=j):Fe w v Z j:=by obtain ⟨s,A,n,c,xs,rfl,h1,h2,h3,h4,h5⟩:=h;exact ⟨s,A,n,c,xs,rfl,h1,h2,h3,by omega,h5⟩
theorem Fe.lt {w:World} {v:Value} {Z:Int} {k:Nat} (h:Fe w v Z k):Z.natAbs<4294967296^k:=by obtain ⟨s,A,n,c,xs,rfl,h1,h2,h3,h4,rfl⟩:=h;rw[GI];exact Nat.lt_of_lt_of_le h1.lt (Limb.pow_mono h4)
theorem Bg.only {w w':World} {v:Value} {Z:Int} {k g:Nat} {s:Bool} {B:Option Addr} {m d:Nat} (h:Bg w v Z k) (hb:Di w g #[.bool s,.slice B m d]) (ho:Ak g w w'):Bg w' v Z k:=by obtain ⟨A,n,c,rfl,h1,h2,h3,h4⟩:=h;exact ⟨A,n,c,rfl,h1.keepBlk hb ho,h2,h3,h4⟩
theorem Bg.zero (w:World) (k:Nat):Bg w (.agg #[.bool false,.slice none 0 0]) 0 k:=⟨none,0,0,rfl,Nums.nil _ _,by omega,by omega,by omega⟩
theorem Bg.ofEq {w:World} {v:Value} {Z Y:Int} {k:Nat} (h:Bg w v Z k) (e:Z=Y):Bg w v Y k:=e▸h
def Jk (Z:Int) (k:Nat) (w:World) (e:Ending) (w':World):Prop:=∃v,e=.returned v/\Bg w' v Z k/\Below w.heap.size w w'
def OV (s:Bool) (A:Option Addr) (n c N:Nat) (w:World) (e:Ending) (w':World):Prop:=e=.returned (.agg #[.bool (decide (sg s N<0)),.slice A n c])/\Below w.heap.size w w'
theorem CE (s:Bool) (A:Option Addr) (n c N:Nat) (w:World) (hn:n=(Limb.canon N).length) (hm:n<=9223372036854775807) :
   Calls Tryz.prog 119 #[.bool s,.slice A n c] w (OV s A n c N w):=by
 by_cases h0:N=0
 · subst h0;obtain rfl:n=0:=hn;cases s with
   |true=>
    go_enter Tryz.func119,Tryz.ntmps119;go_wp2_with fail;refine Bp rfl rfl (Di.new _ _) rfl ?_;exact ⟨rfl,Ae _ _⟩
   |false=>
    go_enter Tryz.func119,Tryz.ntmps119;go_wp2_with fail;refine Bp rfl rfl (Di.new _ _) rfl ?_;exact ⟨rfl,Ae _ _⟩
 · have hp:0<n:=by
    rcases Nat.eq_zero_or_pos n with h|h
    · exact absurd ((Limb.canon_len_zero N).1 (by omega)) h0
    · exact h
   have hs:=Aa (WR s N (Nat.pos_of_ne_zero h0));clear hn h0;cases s with
   |true=>
    go_enter Tryz.func119,Tryz.ntmps119;go_wp2_with fail;refine Bp rfl rfl (Di.new _ _) rfl ?_;exact ⟨by rw[hs.out],Ae _ _⟩
   |false=> go_enter Tryz.func119,Tryz.ntmps119;go_wp2_with fail;refine Bp rfl rfl (Di.new _ _) rfl ?_;exact ⟨by rw[hs.out],Ae _ _⟩
theorem CF {w w1 w2:World} {g:Nat} (h1:Below w.heap.size w w1) (hg:w.heap.size<=g) (ho:Ak g w1 w2):Below w.heap.size w w2:=h1.trans (ho.below h1.size hg)
theorem Ea {w:World} {base:Nat} {A:Option Addr} {n c N k:Nat} {s:Bool} (o:Own w base A n c N) (hN:N<4294967296^k):Bg w (.agg #[.bool (decide (sg s N<0)),.slice A n c]) (sg s N) k:=by have:=o.2.2.1;exact ⟨A,n,c,rfl,by rw[GI];exact o.nums,o.2.1,by omega,NN o.nums hN⟩
theorem NT (s:Bool) (A:Option Addr) (n c k:Nat) (xs:List Nat) (w:World) (hx:Nums w A n xs) (hc:n<=c) (hm:c<=9223372036854775807) (hk:n<=k) (hb:k<=1099511627776) :
  Calls Tryz.prog 123 #[.bool s,.slice A n c] w (Jk (sg s (Limb.val xs)) k w):=by
 obtain ⟨z1,z2,z3⟩:=FN w #[.bool false,.slice none 0 0];have hlt:=Aa (Nat.lt_of_lt_of_le hx.lt (Limb.pow_mono hk));go_enter Tryz.func123,Tryz.ntmps123;go_wp2_with fail;refine (ND A n c xs _ (hx.below z2) hc hm (by omega)).mono ?_;rintro e w1 ⟨A1,n1,rfl,o1,b1⟩;have l1:=Jj o1;have k1:=z1.next b1;go_wp2_with fail;refine (CE s A1 n1 n1 (Limb.val xs) w1 o1.len (by omega)).mono ?_;rintro e w2 ⟨rfl,b2⟩;have k2:=k1.next b2;have r2:=(Ea (s:=s) o1 hlt.out).below b2
 go_wp2_with (with_reducible refine Bo rfl _ _ rfl w.heap.size _ _ _ _ rfl rfl _ _ k2 ?_;intro w3 k3 ho3);refine Bp rfl rfl k3 rfl ?_;exact ⟨_,rfl,r2.only k2 ho3,CF ((z2.next b1).next b2) (Nat.le_refl _) ho3⟩
def Ik (Z:Int) (w:World) (e:Ending) (w':World):Prop:=e=.returned (.int .i64 Z.sign)/\Below w.heap.size w w'
theorem OW (v:Value) (Z:Int) (k:Nat) (w:World) (hv:Fe w v Z k) (hk:k<=1099511627776):Calls Tryz.prog 125 #[v] w (Ik Z w):=by
 obtain ⟨s,A,n,c,xs,rfl,hx,hc,hm,hn,rfl⟩:=hv;obtain ⟨z1,z2,z3⟩:=FN w #[.bool s,.slice A n c];have hbits:=TF A n c xs _ (hx.below z2) hc hm (by omega);unfold NQ at hbits;generalize Limb.val xs=N at *;by_cases h0:N=0
 · subst h0;rw[show Limb.bl 0=0 from rfl]at hbits;rw[Vk];go_enter Tryz.func125,Tryz.ntmps125;go_wp2_with fail;refine hbits.mono ?_;rintro e w' ⟨rfl,rfl⟩;go_wp2_with fail;go_ret
   exact ⟨rfl,z2⟩
 · have h1:((Limb.bl N:Int)==0)=false:=by
    have:=mt (Limb.bl_eq_zero N).1 h0;simp;omega
   generalize Limb.bl N=q at *;cases s with
   |true=>
    have hs:Hid (Int.sign (sg true N)=-1):=(by show _=_;rw[QE];exact Int.sign_eq_neg_one_of_neg (by omega));go_enter Tryz.func125,Tryz.ntmps125;go_wp2_with fail;refine hbits.mono ?_;rintro e w' ⟨rfl,rfl⟩;go_wp2_with fail;go_ret
    exact ⟨by rw[hs.out];rfl,z2⟩
   |false=>
    have hs:Hid (Int.sign (sg false N)=1):=(by show _=_;rw[NS];exact Int.sign_eq_one_of_pos (by omega));go_enter Tryz.func125,Tryz.ntmps125;go_wp2_with fail;refine hbits.mono ?_;rintro e w' ⟨rfl,rfl⟩;go_wp2_with fail;go_ret
    exact ⟨by rw[hs.out];rfl,z2⟩
theorem WS (s:Bool) (n:Nat):sg (!s) n=-sg s n:=by cases s<;>simp[sg]
theorem NU (v:Value) (Z:Int) (k:Nat) (w:World) (hv:Fe w v Z k) (hk:k<=1099511627776):Calls Tryz.prog 86 #[v] w (Jk (-Z) k w):=by
 obtain ⟨s,A,n,c,xs,rfl,hx,hc,hm,hn,rfl⟩:=hv;obtain ⟨z0,z1,z2,z3⟩:=J9 w #[.bool s,.slice A n c] #[.bool false,.slice none 0 0];have hf:=NT (!s) A n c k xs _ (hx.below z2) hc hm hn hk;rw[WS]at hf;go_enter Tryz.func86,Tryz.ntmps86;go_wp2_with fail;refine hf.mono ?_;rintro e w1 ⟨v1,rfl,r1,b1⟩;obtain ⟨s1,A1,n1,c1,rfl⟩:=r1.form;have k1:=z1.next b1;go_wp2_with (with_reducible refine Bo rfl _ _ rfl (w.heap.size+1) _ _ _ _ rfl rfl _ _ k1 ?_;intro w3 k3 ho3)
 refine Bp rfl rfl k3 rfl ?_;exact ⟨_,rfl,r1.only k1 ho3,CF (z2.next b1) (by omega) ho3⟩
end
section
open Go.RowKit
open Limb (limb AR upto Ax AE Ay)
def XX (Z Y:Int) (w:World) (e:Ending) (w':World):Prop:=e=.returned (.int .i64 (EV Z Y))/\Below w.heap.size w w'
end
section
open Go.RowKit
open Limb (limb AR upto Ax AE Ay)
theorem WT (s:Bool) (N M:Nat):sg s (N+M)=sg s N+sg s M:=by cases s<;>simp[sg]<;>omega
theorem TM (s t:Bool) (N M:Nat) (h:s≠t) (hle:M<=N):sg s (N-M)=sg s N+sg t M:=by cases s<;>cases t<;>simp[sg] at*<;> omega
theorem WU (s t:Bool) (N M:Nat):sg (!(s==t)) (N*M)=sg s N*sg t M:=by cases s<;>cases t<;>simp[sg,Int.neg_mul,Int.mul_neg]
theorem Ya {w w':World} (h:∃k,w'=w.drewN k):Below w.heap.size w w':=by obtain ⟨k,rfl⟩:=h;exact Aq w k
theorem WV {w W w':World} (hb:Below w.heap.size w W) (h:∃k,w'=W.drewN k):Below w.heap.size w w':=hb.next (Ya h)
theorem Wd (v u:Value) (Z Y:Int) (k:Nat) (w:World) (hv:Fe w v Z k) (hu:Fe w u Y k) (hk:k<=137438953472):Calls Tryz.prog 93 #[v,u] w (Jk (Z+Y) (k+1) w):=by
 have hlv:=Aa hv.lt;have hlu:=Aa hu.lt;obtain ⟨s,A,n,c,xs,rfl,hx,hc,hm,hn,rfl⟩:=hv;obtain ⟨t,B,m,d,ys,rfl,hy,hd,hmd,hmk,rfl⟩:=hu;rw[GI]at hlv hlu;obtain ⟨x0,y0,r0,z2,-⟩:=QD w #[.bool s,.slice A n c] #[.bool t,.slice B m d] #[.bool false,.slice none 0 0];by_cases hst:s=t
 · subst hst;rw[<-WT];have heq:(s==s)=true:=(by simp);have hl:=Aa (add_lt _ _ _ hlv.out hlu.out);go_enter Tryz.func93,Tryz.ntmps93;go_wp2_with fail;go_region_held3 (fun w'=>w'.cell? ⟨w.heap.size,0,none⟩=some (.bool s)/\w'.cell? ⟨w.heap.size,1,none⟩=some (.slice A n c)/\w'.cell? ⟨w.heap.size+1,1,none⟩=some (.slice B m d))
     (first|exact ⟨x0.drew.c0,x0.drew.c1,y0.drew.c1⟩|exact ⟨x1.c0,x1.c1,y1.c1⟩|exact ⟨x2.c0,x2.c1,y2.c1⟩|exact ⟨(x2.other (Ce _ _ _ _) (by omega)).c0,(x2.other (Ce _ _ _ _) (by omega)).c1,(y2.other (Ce _ _ _ _) (by omega)).c1⟩)
     (first
      |(go_at_call 130;(with_reducible refine (M8 A B n c m d xs ys _ (hx.below z2).drew hc hm (by omega) (hy.below z2).drew hd hmd (by omega)).mono ?_);rintro e w1 ⟨A1,n1,rfl,o1,b1⟩;have l1:=Jj o1;have x1:=x0.drew.next b1;have y1:=y0.drew.next b1)
      |(go_at_call 119;(with_reducible refine (CE s A1 n1 n1 _ w1 o1.len (by omega)).mono ?_);rintro e w2 ⟨rfl,b2⟩;have x2:=x1.next b2;have y2:=y1.next b2;have k2:=(r0.drew.next b1).next b2;have k2a:=k2.c0;have k2b:=k2.c1;have k2c:=k2.fr 0;have k2d:=k2.fr 1))
   go_wp2_with fail;refine Bp rfl rfl (k2.set2 _ _) rfl ?_;exact ⟨_,rfl,((Ea o1 hl.out).below b2).only k2 (Ce _ _ _ _),CF ((z2.drew.next b1).next b2) (by omega) (Ce _ _ _ _)⟩
 · have hne:(s==t)=false:=(by simpa using hst);by_cases hle:Limb.val ys<=Limb.val xs
   · rw[<-TM s t _ _ hst hle];have hl:=Aa (show Limb.val xs-Limb.val ys<4294967296^(k+1) from Nat.lt_of_le_of_lt (Nat.sub_le _ _) (Nat.lt_of_lt_of_le hlv.out (Limb.pow_mono (by omega))));clear hst;go_enter Tryz.func93,Tryz.ntmps93;go_wp2_with fail;refine (Q9 A B n c m d xs ys _ (hx.below z2) hc hm (by omega) (hy.below z2) hd hmd hle).mono ?_;rintro e w1 ⟨A1,n1,rfl,o1,b1⟩;have hn1:=Jj o1;have x1:=(x0.next b1).c0;go_wp2_with fail
     refine (CE s A1 n1 n1 _ w1 o1.len (by omega)).mono ?_;rintro e w2 ⟨rfl,b2⟩;have k2:=(r0.next b1).next b2;go_wp2_with (with_reducible refine Bo rfl _ _ rfl (w.heap.size+1+1) _ _ _ _ rfl rfl _ _ k2 ?_;intro w3 k3 ho3);refine Bp rfl rfl k3 rfl ?_;exact ⟨_,rfl,((Ea o1 hl.out).below b2).only k2 ho3,CF ((z2.next b1).next b2) (by omega) ho3⟩
   · rw[Int.add_comm,<-TM t s _ _ (Ne.symm hst) (by omega)];have hl:=Aa (show Limb.val ys-Limb.val xs<4294967296^(k+1) from Nat.lt_of_le_of_lt (Nat.sub_le _ _) (Nat.lt_of_lt_of_le hlu.out (Limb.pow_mono (by omega))));clear hst;go_enter Tryz.func93,Tryz.ntmps93;go_wp2_with fail;refine (WB A B n c m d xs ys _ (hx.below z2) hc hm (hy.below z2) hd hmd (by omega)).mono ?_;rintro e w1 ⟨rfl,hw1⟩;have b1:=WV z2 hw1;have c1:=Ya hw1;clear hw1;have x1:=x0.next c1;have y1:=y0.next c1
     have x1a:=x1.c1;have y1a:=y1.c0;have y1b:=y1.c1;go_wp2_with fail;refine (Q9 B A m d n c ys xs _ (hy.below b1) hd hmd (by omega) (hx.below b1) hc hm (by omega)).mono ?_;rintro e w2 ⟨A1,n1,rfl,o1,b2⟩;have hn1:=Jj o1;have y2:=(y1.next b2).c0;go_wp2_with fail;refine (CE t A1 n1 n1 _ w2 o1.len (by omega)).mono ?_;rintro e w3 ⟨rfl,b3⟩;have k3:=((r0.next c1).next b2).next b3
     go_wp2_with (with_reducible refine Bo rfl _ _ rfl (w.heap.size+1+1) _ _ _ _ rfl rfl _ _ k3 ?_;intro w4 k4 ho4);refine Bp rfl rfl k4 rfl ?_;exact ⟨_,rfl,((Ea o1 hl.out).below b3).only k3 ho4,CF ((b1.next b2).next b3) (by omega) ho4⟩
theorem Yb (v u:Value) (Z Y:Int) (k j:Nat) (w:World) (hv:Fe w v Z k) (hu:Fe w u Y j) (hk:k<=137438953472) (hj:j<=137438953472):Calls Tryz.prog 128 #[v,u] w (Jk (Z*Y) (k+j) w):=by
 have hlv:=Aa hv.lt;have hlu:=Aa hu.lt;obtain ⟨s,A,n,c,xs,rfl,hx,hc,hm,hn,rfl⟩:=hv;obtain ⟨t,B,m,d,ys,rfl,hy,hd,hmd,hmk,rfl⟩:=hu;rw[GI]at hlv hlu;have hl:=Aa (EK _ _ _ _ hlv.out hlu.out);rw[<-WU];obtain ⟨x0,y0,r0,z2,-⟩:=QD w #[.bool s,.slice A n c] #[.bool t,.slice B m d] #[.bool false,.slice none 0 0];go_enter Tryz.func128,Tryz.ntmps128;go_wp2_with fail
 go_region_held3 (fun w'=>w'.cell? ⟨w.heap.size,0,none⟩=some (.bool s)/\w'.cell? ⟨w.heap.size,1,none⟩=some (.slice A n c)/\w'.cell? ⟨w.heap.size+1,0,none⟩=some (.bool t)/\w'.cell? ⟨w.heap.size+1,1,none⟩=some (.slice B m d))
  (first|exact ⟨x0.drew.c0,x0.drew.c1,y0.drew.c0,y0.drew.c1⟩|exact ⟨x1.c0,x1.c1,y1.c0,y1.c1⟩|exact ⟨x2.c0,x2.c1,y2.c0,y2.c1⟩|exact ⟨(x2.other (Ce _ _ _ _) (by omega)).c0,(x2.other (Ce _ _ _ _) (by omega)).c1,(y2.other (Ce _ _ _ _) (by omega)).c0,(y2.other (Ce _ _ _ _) (by omega)).c1⟩)
  (first
   |(go_at_call 159;(with_reducible refine (Vj A B n c m d xs ys _ (hx.below z2).drew hc hm (hy.below z2).drew hd hmd (by omega)).mono ?_);rintro e w1 ⟨A1,n1,rfl,o1,b1⟩;have l1:=Jj o1;have x1:=x0.drew.next b1;have y1:=y0.drew.next b1)
   |(go_at_call 119;(with_reducible refine (CE (!(s==t)) A1 n1 n1 _ w1 o1.len (by omega)).mono ?_);rintro e w2 ⟨rfl,b2⟩;have x2:=x1.next b2;have y2:=y1.next b2;have k2:=(r0.drew.next b1).next b2;have k2a:=k2.c0;have k2b:=k2.c1;have k2c:=k2.fr 0;have k2d:=k2.fr 1))
 go_wp2_with fail;refine Bp rfl rfl (k2.set2 _ _) rfl ?_;exact ⟨_,rfl,((Ea o1 hl.out).below b2).only k2 (Ce _ _ _ _),CF ((z2.drew.next b1).next b2) (by omega) (Ce _ _ _ _)⟩
end
section
open Go.RowKit
open Limb (limb AR upto Ax AE Ay)
end
section
open Go.RowKit
open Limb (limb AR upto Ax AE Ay)
def XG (Z:Int) (w:World) (e:Ending) (w':World):Prop:=e=.returned (.int .i64 Z.sign)/\Below w.heap.size w w'
end
section
open Go.RowKit
open Limb (limb AR upto Ax AE Ay)
def XH (b:Bool) (w:World) (e:Ending) (w':World):Prop:=e=.returned (.bool b)/\Below w.heap.size w w'
end
section
open Go.RowKit
open Limb (limb AR upto Ax AE Ay)
theorem We (n:Int):IntKind.u64.wrap n=n%18446744073709551616:=by simp[IntKind.wrap,IntKind.bits,IntKind.signed]
theorem MD (n:Int) (w:World) (h1:-9223372036854775808<=n) (h2:n<=9223372036854775807):Calls Tryz.prog 84 #[.int .i64 n] w (Jk n 2 w):=by
 obtain ⟨z1,z2,-⟩:=FN w #[.bool false,.slice none 0 0];have hl:n.natAbs<18446744073709551616:=by omega
 by_cases hn:n<0
 · have hE:=Aa (show sg true n.natAbs=n by rw[QE];omega);have hd:decide (n<0)=true:=decide_eq_true hn;go_enter Tryz.func84,Tryz.ntmps84;go_wp2_with fail;refine (of_int _ n.natAbs _ (by rw[We,We];omega) (by omega)).mono ?_;rintro e w1 ⟨A1,n1,rfl,o1,b1⟩;have hn1:=Jj o1;go_wp2_with fail;refine (CE true A1 n1 n1 _ w1 o1.len (by omega)).mono ?_;rintro e w2 ⟨rfl,b2⟩;have r2:=(Ea (s:=true) (k:=2) o1 (by omega)).below b2;rw[hE.out,hd]at r2;rw[hE.out,hd]
   have k2:=(z1.next b1).next b2;go_wp2_with (with_reducible refine Bo rfl _ _ rfl w.heap.size _ _ _ _ rfl rfl _ _ k2 ?_;intro w3 k3 ho3);refine Bp rfl rfl k3 rfl ?_;exact ⟨_,rfl,r2.only k2 ho3,CF ((z2.next b1).next b2) (Nat.le_refl _) ho3⟩
 · have hE:=Aa (show sg false n.natAbs=n by rw[NS];omega);have hd:decide (n<0)=false:=decide_eq_false hn;go_enter Tryz.func84,Tryz.ntmps84;go_wp2_with fail;refine (of_int _ n.natAbs _ (by omega) (by omega)).mono ?_;rintro e w1 ⟨A1,n1,rfl,o1,b1⟩;have hn1:=Jj o1;go_wp2_with fail;refine (CE false A1 n1 n1 _ w1 o1.len (by omega)).mono ?_;rintro e w2 ⟨rfl,b2⟩;have r2:=(Ea (s:=false) (k:=2) o1 (by omega)).below b2;rw[hE.out,hd]at r2;rw[hE.out,hd];have k2:=(z1.next b1).next b2
   go_wp2_with (with_reducible refine Bo rfl _ _ rfl w.heap.size _ _ _ _ rfl rfl _ _ k2 ?_;intro w3 k3 ho3);refine Bp rfl rfl k3 rfl ?_;exact ⟨_,rfl,r2.only k2 ho3,CF ((z2.next b1).next b2) (Nat.le_refl _) ho3⟩
end
section
open Go.RowKit
def Yc (w:World) (L:List (Nat×Value×Value)) (W:World):Prop:=Below w.heap.size w W/\∀p∈L,Di W p.1 #[p.2.1,p.2.2]/\w.heap.size<=p.1
variable {w W W':World} {L:List (Nat×Value×Value)} {g:Nat} {a b:Value}
def YU (w:World) (B:Nat) (L:List (Nat×Value×Value)) (W:World):Prop:=Yc w L W/\B<=W.heap.size/\w.heap.size<=B/\∀p∈L,p.1<B
variable {B:Nat}
def st2 (W:World) (g:Nat) (x y:Value):World:=(W.setCell ⟨g,0,none⟩ x).setCell ⟨g,1,none⟩ y
theorem Bg.alloc {v:Value} {Z:Int} {k:Nat} (h:Bg W v Z k) (o:Obj):Bg (W.alloc o) v Z k:=h.below (Ae W o)
end
section
open Go.RowKit
section
variable {P:Program} {ops:Array Oper} {Q:Exit->Act->World->Prop} {md:Region.Mode} {S:World->Prop} {late:List Nat}
def Wx (P:Program) (md:Region.Mode) (ops:Array Oper) (Q:Exit->Act->World->Prop) (S:World->Prop) (late:List Nat):Nat->Array Bool->Act->World->Prop
 |0,listed,a,w=>Region.ready md ops listed=[]/\Q .normal a w
 |fuel+1,listed,a,w=>(Region.ready md ops listed=[]->Q .normal a w) /\
  ∀i∈Region.ready md ops listed,wpOp P ops Q i (fun a' w'=>(i ∉ late->S w')/\Wx P md ops Q S late fuel (listed.setIfInBounds i true) a' w') a w
def AM (md:Region.Mode) (ops:Array Oper) (listed:Array Bool):Prop:=
 ∀k o,ops[k]?=some o->listed.getD k false=true->∀e∈o.after,Region.binds md e=true->listed.getD e.on false=true
def UT (md:Region.Mode) (ops:Array Oper) (late:List Nat) (i:Nat):Bool:=
 late.all fun j=>match ops[j]? with
  |none=>true
  |some oj=>oj.after.any fun e=>Region.binds md e&&(e.on==i || match ops[e.on]? with
   |none=>false
   |some ok=>ok.after.any fun e2=>Region.binds md e2&&e2.on==i)
theorem D7 {listed:Array Bool} {k:Nat} (h1:listed.getD k false=true) (h0:listed.getD k true=false):False:=by
 rcases Nat.lt_or_ge k listed.size with h|h
 · simp[h]at h0 h1;rw[h0]at h1;cases h1
 · simp[Array.getElem?_eq_none h]at h1
theorem AM.next {listed:Array Bool} {j:Nat} (hc:AM md ops listed) (hr:j∈Region.ready md ops listed):AM md ops (listed.setIfInBounds j true):=by
 intro k o ho hk e he hb;obtain ⟨-,oj,hoj,hall⟩:=mem_ready.1 hr;by_cases hjk:j=k
 · subst hjk;rw[hoj]at ho;injection ho with ho
   subst ho;exact getD_set_true (hall e he hb)
 · rw[getD_set_ne false hjk]at hk;exact getD_set_true (hc k o ho hk e he hb)
theorem AM.zero (n:Nat):AM md ops (Array.replicate n false):=by
 intro k o _ hk;rcases Nat.lt_or_ge k n with h|h
 · simp[h]at hk
 · simp[Nat.not_lt.2 h]at hk
end
end
section
open Go.RowKit
def ZD (Z Y:Int):Int:=-((-Z).fdiv Y)
def ZE (Z Y:Int):Int:=if Y<=2*Z.fmod Y then Z.fmod Y-Y else Z.fmod Y
end
section
open Go.RowKit
open Limb (limb AR upto Ax AE Ay)
theorem OX {fn:Func} {p t:Tmp} (h:fn.results=#[.cell p 54,.tmp t]) (tmps:Array Value) (w:World) (g:Nat) (x y:Value)
  (hp:tmps.getD p undef=.pointer (some ⟨g,0,none⟩)) (hg:Di w g #[x,y]) :
  (results fn tmps).run Tryz.prog w=.ok (.tuple #[.agg #[x,y],tmps.getD t undef]) w:=by
 have hp':tmps[p]?.getD undef=.pointer (some ⟨g,0,none⟩):=by simpa using hp
 simp[results,h,hp',asAddr,run_loadVar_row w g 54 54 #[x,y] (0,0) _ hg Tryz.underlying54 rfl (by kernel_rfl)]
theorem NV {fn:Func} {R:Ending->World->Prop} {a:Act} {w:World} {g p t:Nat} {x y v:Value} (hres:fn.results=#[.cell p 54,.tmp t]) (hp:a.tmps.getD p undef=.pointer (some ⟨g,0,none⟩))
  (hv:a.tmps.getD t undef=v) (hb:Di w g #[x,y]) (hd:a.defers=[]) (hR:R (.returned (.tuple #[.agg #[x,y],v])) w):bodyPost Tryz.prog fn R .ret a w:=
 bodyPost_ret (by rw[OX hres _ _ g x y hp hb,hv]) hd hR
def YV (w:World) (e:Ending) (w':World):Prop:=e=.returned (.tuple #[.agg #[.bool false,.slice none 0 0],.agg #[.bool false,.slice none 0 0],.int .i64 10])/\Below w.heap.size w w'
def YH (Z Y:Int) (k j:Nat) (w:World) (e:Ending) (w':World):Prop:=∃u v,e=.returned (.tuple #[u,v,.int .i64 0])/\Bg w' u (Z.fdiv Y) k/\Bg w' v (Z.fmod Y) j/\Below w.heap.size w w'
end
section
open Go.RowKit
def ZF (k:Int) (w:World) (e:Ending) (w':World):Prop:=e=.returned (.tuple #[.agg #[.bool false,.slice none 0 0],.int .i64 k])/\Below w.heap.size w w'
def ZT (Z:Int) (k:Nat) (w:World) (e:Ending) (w':World):Prop:=∃v,e=.returned (.tuple #[v,.int .i64 0])/\Bg w' v Z k/\Below w.heap.size w w'
end
section
open Go.RowKit
instance (s:ByteArray):Decidable (Fs s):=by unfold Fs;infer_instance
def Ff (r:ByteArray):Int:=if 4000<r.size then 2 else if Fs r/\r.size≠0 then 0 else 20
def Ki (r:ByteArray):Nat:=if Ff r=0 then numOf r r.size else 0
theorem NW {r:ByteArray} (h:Ff r≠0):Ki r=0:=by unfold Ki;rw[if_neg h]
theorem Rz (N k j:Nat) (hN:N<10^k) (hk:k<=4000) (hj:446<=j):N<4294967296^j:=by obtain ⟨M,hM⟩:∃M:Nat,M=4000:=⟨_,rfl⟩;refine Nat.lt_of_lt_of_le hN (Nat.le_of_lt (Nat.lt_of_le_of_lt (Nat.pow_le_pow_right (by omega) (show k<=M by omega)) (Nat.lt_of_lt_of_le (Dec.limbs_room M) (Nat.pow_le_pow_right (by omega) (by omega)))))
theorem Vl (r:ByteArray) (j:Nat) (hj:446<=j):Ki r<4294967296^j:=by
 unfold Ki;split
 · rename_i h
   unfold Ff at h;split at h
   · omega
   · rename_i hl
     split at h
     · rename_i hd
       exact Rz _ r.size j (NR r hd.1 _ (Nat.le_refl _)) (by omega) hj
     · omega
 · exact Nat.pow_pos (by omega)
def LC (r:ByteArray) (w:World) (e:Ending) (w':World):Prop:=∃A n,e=.returned (.tuple #[.slice A n n,.int .i64 (Ff r)])/\Own w' w.heap.size A n n (Ki r)/\Below w.heap.size w w'
theorem R9 (r:ByteArray) (w:World) (hs:r.size<=9223372036854775807):Calls Tryz.prog 122 #[.string r] w (LC r w):=by
 unfold LC;by_cases h1:4000<r.size
 · have e1:Ff r=2:=(by unfold Ff;rw[if_pos h1]);refine (OT r w h1 hs).mono ?_;rintro e w' ⟨rfl,hb⟩;rw[e1,NW (by rw[e1];omega)];exact ⟨none,0,rfl,Own.zero _ _ _ _ (by omega),hb⟩
 · by_cases h2:Fs r/\r.size≠0
   · have e1:Ff r=0:=(by unfold Ff;rw[if_neg h1,if_pos h2]);have e2:Ki r=numOf r r.size:=(by unfold Ki;rw[if_pos e1]);rw[e1,e2];exact TJ r w (by omega) h2.1 h2.2
   · have e1:Ff r=20:=(by unfold Ff;rw[if_neg h1,if_neg h2]);refine (OU r w (by omega) h2).mono ?_;rintro e w' ⟨rfl,hb⟩;rw[e1,NW (by rw[e1];omega)];exact ⟨none,0,rfl,Own.zero _ _ _ _ (by omega),hb⟩
def WW (r:ByteArray) (w:World) (e:Ending) (w':World):Prop:=∃A n c,e=.returned (.tuple #[.slice A n c,.int .i64 (Ff r)])/\Nums w' A n (Limb.canon (Ki r))/\n<=c/\c<=9223372036854775807/\Below w.heap.size w w'
theorem RA (s:ByteArray):(body s).size<=s.size:=by
 unfold body;split
 · simp
 · exact Nat.le_refl _
def Hh (s:ByteArray):Int:=sg (Rs s) (Ki (body s))
def Wg (s:ByteArray):Int:=Ff (body s)
def OY (s:ByteArray) (w:World) (e:Ending) (w':World):Prop:=∃v k,e=.returned (.tuple #[v,.int .i64 (Wg s)])/\Bg w' v (Hh s) k/\k<=500/\Below w.heap.size w w'
theorem CG (s:ByteArray) (w:World) (hs:s.size<=9223372036854775807):Calls Tryz.prog 85 #[.string s] w (OY s w):=by
 obtain ⟨z1,z2,z3⟩:=FN w #[.bool false,.slice none 0 0];have hb:=RA s;have hcut:=Vg s (w.alloc (.cells #[.bool false,.slice none 0 0] 54)) hs;have HP:=Aa (fun W=>R9 (body s) W (by omega));obtain ⟨k,hk⟩:∃k:Nat,k=446:=⟨_,rfl⟩;have hlt:=Aa (Vl (body s) k (by omega));have hZ:=Aa (show Hh s=sg (Rs s) (Ki (body s)) from rfl);have hC:=Aa (show Wg s=Ff (body s) from rfl);have hk5:k<=500:=by omega
 unfold MB at hcut;generalize body s=r at *;generalize Rs s=neg at *;clear hb hk;go_enter Tryz.func85,Tryz.ntmps85;go_wp2_with fail;refine hcut.mono ?_;rintro e w' ⟨rfl,rfl⟩;clear hcut;go_wp2_with fail;refine (HP.out _).mono ?_;rintro e w1 ⟨A1,n1,rfl,o1,b1⟩;have l1:=Jj o1;have k1:=z1.next b1;generalize Ff r=q at *;go_wp2_with fail;refine (CE neg A1 n1 n1 (Ki r) w1 o1.len (by omega)).mono ?_;rintro e w2 ⟨rfl,b2⟩;have k2:=k1.next b2;have r2:=(Ea (s:=neg) o1 hlt.out).below b2
 go_wp2_with (with_reducible refine Bo rfl _ _ rfl w.heap.size _ _ _ _ rfl rfl _ _ k2 ?_;intro w3 k3 ho3);exact NV rfl rfl rfl k3 rfl ⟨_,k,by rw[hC.out];rfl,(r2.only k2 ho3).ofEq hZ.out.symm,hk5,CF ((z2.next b1).next b2) (Nat.le_refl _) ho3⟩
end
end Go.Proofs.YtgohmojcopajoaaGreatDoor.Nu
