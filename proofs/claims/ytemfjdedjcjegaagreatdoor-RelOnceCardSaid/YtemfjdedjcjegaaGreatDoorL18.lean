/- Texts of one seat, put together: DivZ CeilZ ExactZ HatZ RefDivB RDivZ RefGcd GcdZ TContent. -/
import Derived.Test.YtemfjdedjcjegaaGreatDoorL11
import Derived.Test.YtemfjdedjcjegaaGreatDoorL08
import Derived.Test.YtemfjdedjcjegaaGreatDoorL09
import Derived.Test.YtemfjdedjcjegaaGreatDoorL17
import Derived.Test.YtemfjdedjcjegaaGreatDoorL07
import Derived.Deep.DeepCutAuto
set_option linter.unusedVariables false
set_option linter.unusedSimpArgs false
set_option maxRecDepth 100000
set_option maxHeartbeats 16000000
namespace Go.Proofs.YtemfjdedjcjegaaGreatDoor
section
open Go.RowKit
open Limb (limb AE upto upto_succ Ap Aq)
theorem RR (w:World) (X Y Z U:Array Value):AY ((((w.alloc (.cells X 31)).alloc (.cells Y 31)).alloc (.cells Z 31)).alloc (.cells U 31)) w.heap.size X/\AY ((((w.alloc (.cells X 31)).alloc (.cells Y 31)).alloc (.cells Z 31)).alloc (.cells U 31)) (w.heap.size+1) Y /\
  AY ((((w.alloc (.cells X 31)).alloc (.cells Y 31)).alloc (.cells Z 31)).alloc (.cells U 31)) (w.heap.size+1+1) Z/\AY ((((w.alloc (.cells X 31)).alloc (.cells Y 31)).alloc (.cells Z 31)).alloc (.cells U 31)) (w.heap.size+1+1+1) U /\
  Below w.heap.size w ((((w.alloc (.cells X 31)).alloc (.cells Y 31)).alloc (.cells Z 31)).alloc (.cells U 31))/\((((w.alloc (.cells X 31)).alloc (.cells Y 31)).alloc (.cells Z 31)).alloc (.cells U 31)).heap.size=w.heap.size+4:=by
 obtain ⟨h1,h2,h3,h4,h5⟩:=ED w X Y Z;obtain ⟨k1,k2,k3⟩:=CV (((w.alloc (.cells X 31)).alloc (.cells Y 31)).alloc (.cells Z 31)) U;rw[h5]at k1 k3;have e2:w.heap.size+3=w.heap.size+1+1+1:=rfl;rw[e2]at k1;exact ⟨h1.alloc _,h2.alloc _,h3.alloc _,k1,h4.next (Ae _ _),by omega⟩
theorem LZ {fn:Func} {p q t:Tmp} (h:fn.results=#[.cell p 31,.cell q 31,.tmp t]) (tmps:Array Value) (w:World) (g k:Nat) (x y x' y':Value)
  (hp:tmps.getD p undef=.pointer (some ⟨g,0,none⟩)) (hq:tmps.getD q undef=.pointer (some ⟨k,0,none⟩)) (hg:AY w g #[x,y]) (hk:AY w k #[x',y']) :
  (results fn tmps).run Tryz.prog w=.ok (.tuple #[.agg #[x,y],.agg #[x',y'],tmps.getD t undef]) w:=by
 have hp':tmps[p]?.getD undef=.pointer (some ⟨g,0,none⟩):=by simpa using hp
 have hq':tmps[q]?.getD undef=.pointer (some ⟨k,0,none⟩):=by simpa using hq
 simp[results,h,hp',hq',asAddr,run_loadVar_row w g 31 31 #[x,y] (0,0) _ hg Tryz.underlying31 rfl (by kernel_rfl),run_loadVar_row w k 31 31 #[x',y'] (0,0) _ hk Tryz.underlying31 rfl (by kernel_rfl)]
theorem EJ {fn:Func} {R:Ending->World->Prop} {a:Act} {w:World} {g k p q t:Nat} {x y x' y' v:Value} (hres:fn.results=#[.cell p 31,.cell q 31,.tmp t]) (hp:a.tmps.getD p undef=.pointer (some ⟨g,0,none⟩)) (hq:a.tmps.getD q undef=.pointer (some ⟨k,0,none⟩))
  (hv:a.tmps.getD t undef=v) (hb:AY w g #[x,y]) (hk:AY w k #[x',y']) (hd:a.defers=[]) (hR:R (.returned (.tuple #[.agg #[x,y],.agg #[x',y'],v])) w):bodyPost Tryz.prog fn R .ret a w:=
 bodyPost_ret (by rw[LZ hres _ _ g k x y x' y' hp hq hb hk,hv]) hd hR
def U0 (w:World) (e:Ending) (w':World):Prop:=e=.returned (.tuple #[.agg #[.bool false,.slice none 0 0],.agg #[.bool false,.slice none 0 0],.int .i64 10])/\Below w.heap.size w w'
def RS (Z Y:Int) (k j:Nat) (w:World) (e:Ending) (w':World):Prop:=∃u v,e=.returned (.tuple #[u,v,.int .i64 0])/\Au w' u (Z.fdiv Y) k/\Au w' v (Z.fmod Y) j/\Below w.heap.size w w'
theorem DZ {W:World} {g k:Nat} {u v u' v' x y x' y':Value} (hg:AY W g #[u,v]) (hk:AY W k #[u',v']) (hne:g≠k):AY (st2 (st2 W g x y) k x' y') g #[x,y]/\AY (st2 (st2 W g x y) k x' y') k #[x',y']:=
 ⟨(hg.set2 x y).stOther hne,(hk.stOther (Ne.symm hne)).set2 x' y'⟩
theorem BK {W:World} {v:Value} {Z:Int} {j g k n m c d:Nat} {s t:Bool} {A B:Option Addr} {x y x' y':Value} (h:Au W v Z j) (hg:AY W g #[.bool s,.slice A n c]) (hk:AY W k #[.bool t,.slice B m d]) (hne:g≠k):Au (st2 (st2 W g x y) k x' y') v Z j:=
 (h.st hg).st (hk.stOther (Ne.symm hne))
theorem Nn (s t:Bool) (N M:Nat) (hM:0<M) (h0:N%M=0):(sg s N).fdiv (sg t M)=sg (!(s==t)) (N/M)/\(sg s N).fmod (sg t M)=sg s (N%M):=by
 rw[h0,Gj];by_cases h:s=t
 · subst h;have:=JZ s N M hM;rw[h0,Gj]at this;simpa using this
 · have:=Ka s t N M h hM h0;have e:(!(s==t))=true:=(by simpa using h);rw[e];exact this
theorem Jz {t:Bool} {M:Nat} (h:sg t M≠0):M≠0:=fun h0=>h (by rw[h0,Gj])
theorem Ma (v u:Value) (Z Y:Int) (k j:Nat) (w:World) (hv:BF w v Z k) (hu:BF w u Y j) (hY:Y≠0) (hk:k<=68719476736) (hj:j<=68719476736):Calls Tryz.prog 27 #[v,u] w (RS Z Y k j w):=by
 have hqs:=Ad (Nl Z Y k hv.lt);have hrs:=Ad (Nm Z Y j hY hu.lt);have hlv:=Ad hv.lt;have hlu:=Ad hu.lt;have hu0:=hu;obtain ⟨s,A,n,c,xs,rfl,hx,hc,hm,hn,rfl⟩:=hv;obtain ⟨t,B,m,d,ys,rfl,hy,hd,hmd,hmk,rfl⟩:=hu;have hM0:=Ad (Jz hY);rw[CH]at hlv hlu;obtain ⟨x0,y0,q0,r0,z2,z4⟩:=RR w #[.bool s,.slice A n c] #[.bool t,.slice B m d] #[.bool false,.slice none 0 0] #[.bool false,.slice none 0 0]
 have hdy:=RH A B n c m d xs ys _ (hx.below z2) hc hm (by omega) (hy.below z2) hd hmd (by omega) hM0.out;have hq1:=Ad (Nat.lt_of_le_of_lt (Nat.div_le_self (Limb.val xs) (Limb.val ys)) hlv.out);have hr1:=Ad (Nat.lt_trans (Nat.mod_lt (Limb.val xs) (Nat.pos_of_ne_zero hM0.out)) hlu.out);have same:=Ad (JZ s (Limb.val xs) (Limb.val ys) (Nat.pos_of_ne_zero hM0.out));have even:=Ad (fun hst h0=>Ka s t (Limb.val xs) (Limb.val ys) hst (Nat.pos_of_ne_zero hM0.out) h0)
 have odd:=Ad (fun hst h0=>QM s t (Limb.val xs) (Limb.val ys) hst (Nat.pos_of_ne_zero hM0.out) h0);clear hY;by_cases h0:Limb.val xs%Limb.val ys=0
 · have HE:=Ad (Nn s t (Limb.val xs) (Limb.val ys) (Nat.pos_of_ne_zero hM0.out) h0);have H0:=Ad h0;clear same even odd h0;have K0:=Ay.mk2 (B:=w.heap.size+2) (((Cf.nil z2).add y0 (by omega)).add x0 (by omega)) (by rw[z4];omega) (by omega) (by omega) (by omega);go_enter Tryz.func27,Tryz.ntmps27;go_wp2_with fail;refine hdy.mono ?_;rintro e wa ⟨Aa,na,ca,Ba,ma,da,rfl,oa,pa,ba⟩;have K1:=K0.call ba;have HK:=Ad K1
   have SOF:=Ad (show ∀W,Ay w (w.heap.size+2) [(w.heap.size,.bool s,.slice A n c),(w.heap.size+1,.bool t,.slice B m d)] W->(fun W=>Ay w (w.heap.size+2) [(w.heap.size,.bool s,.slice A n c),(w.heap.size+1,.bool t,.slice B m d)] W/\W.cell? ⟨w.heap.size,0,none⟩=some (.bool s)/\W.cell? ⟨w.heap.size,1,none⟩=some (.slice A n c)/\W.cell? ⟨w.heap.size+1,0,none⟩=some (.bool t)/\W.cell? ⟨w.heap.size+1,1,none⟩=some (.slice B m d)) W from fun W k=>⟨k,(k.keeps.blk (List.Mem.head _)).c0,(k.keeps.blk (List.Mem.head _)).c1,(k.keeps.blk (List.Mem.tail _ (List.Mem.head _))).c0,(k.keeps.blk (List.Mem.tail _ (List.Mem.head _))).c1⟩)
   go_wp2_with fail;go_region_held3 (fun W=>Ay w (w.heap.size+2) [(w.heap.size,.bool s,.slice A n c),(w.heap.size+1,.bool t,.slice B m d)] W/\W.cell? ⟨w.heap.size,0,none⟩=some (.bool s)/\W.cell? ⟨w.heap.size,1,none⟩=some (.slice A n c)/\W.cell? ⟨w.heap.size+1,0,none⟩=some (.bool t)/\W.cell? ⟨w.heap.size+1,1,none⟩=some (.slice B m d))
     (with_reducible first|(simp only[Dl];refine SOF.out _ ?_;(repeat (first|refine Ay.alloc ?_ _|refine Ay.st ?_ _ _ (by omega)));exact K3.out)|exact SOF.out _ HK.out.drew|exact SOF.out _ (Ay.call (And.left (a:=Ay w (w.heap.size+2) _ _) (by assumption)) (by assumption)))
     (first
       |(go_at_call 54;(have kk:=(And.left (a:=Ay w (w.heap.size+2) _ _) (by assumption)));(with_reducible refine (AX (!(s==t)) Aa na ca _ _ oa.len (by have:=Ek oa;omega)).mono ?_);rintro e w2 ⟨rfl,b2⟩;have hz2:=Ad (kk.call b2).size;have K2:=Ad (kk.call b2);clear kk)
       |(go_at_call 54;(have kk:=(And.left (a:=Ay w (w.heap.size+2) _ _) (by assumption)));(with_reducible refine (AX s Ba ma da _ _ pa.len (by have:=Ek pa;omega)).mono ?_);rintro e w3 ⟨rfl,b3⟩;have hz3:=Ad (kk.call b3).size;have K3:=Ad (kk.call b3);clear kk;have q3:=((q0.next ba).drew.next b2).next b3;have r3:=((r0.next ba).drew.next b2).next b3;have q3a:=q3.c0;have q3b:=q3.c1;have q3c:=q3.fr 0;have q3d:=q3.fr 1;have r3a:=r3.c0;have r3b:=r3.c1;have r3c:=r3.fr 0;have r3d:=r3.fr 1))
   clear HK SOF q3a q3b q3c q3d r3a r3b r3c r3d;simp only[Dl];have zq:=(((BJ (s:=(!(s==t))) oa hq1.out).below (Ak wa 1)).below b2).below b3;have zr:=(((BJ (s:=s) pa hr1.out).below (Ak wa 1)).below b2).below b3;obtain ⟨W5,hW5⟩:∃W5,W5=st2 (st2 w3 (w.heap.size+1+1) (.bool (decide (sg (!(s==t)) (Limb.val xs/Limb.val ys)<0))) (.slice Aa na ca)) (w.heap.size+1+1+1) (.bool (decide (sg s (Limb.val xs%Limb.val ys)<0))) (.slice Ba ma da):=⟨_,rfl⟩;rw[<-hW5]
   have q5:=(DZ (x:=.bool (decide (sg (!(s==t)) (Limb.val xs/Limb.val ys)<0))) (y:=.slice Aa na ca) (x':=.bool (decide (sg s (Limb.val xs%Limb.val ys)<0))) (y':=.slice Ba ma da) q3 r3 (by omega)).1;have r5:=(DZ (x:=.bool (decide (sg (!(s==t)) (Limb.val xs/Limb.val ys)<0))) (y:=.slice Aa na ca) (x':=.bool (decide (sg s (Limb.val xs%Limb.val ys)<0))) (y':=.slice Ba ma da) q3 r3 (by omega)).2
   have zq:=BK (x:=.bool (decide (sg (!(s==t)) (Limb.val xs/Limb.val ys)<0))) (y:=.slice Aa na ca) (x':=.bool (decide (sg s (Limb.val xs%Limb.val ys)<0))) (y':=.slice Ba ma da) zq q3 r3 (by omega);have zr:=BK (x:=.bool (decide (sg (!(s==t)) (Limb.val xs/Limb.val ys)<0))) (y:=.slice Aa na ca) (x':=.bool (decide (sg s (Limb.val xs%Limb.val ys)<0))) (y':=.slice Ba ma da) zr q3 r3 (by omega)
   have K5:=(K3.out.st (g:=w.heap.size+1+1) (.bool (decide (sg (!(s==t)) (Limb.val xs/Limb.val ys)<0))) (.slice Aa na ca) (by omega)).st (g:=w.heap.size+1+1+1) (.bool (decide (sg s (Limb.val xs%Limb.val ys)<0))) (.slice Ba ma da) (by omega);rw[<-hW5]at q5 r5 zq zr K5;have T5:=K5.old;clear hW5 q3 r3 K3 K1 K2 hz2 hz3 x0 y0 q0 r0 K0 hdy oa b2 b3 ba z2 z4;generalize hu1:decide (sg (!(s==t)) (Limb.val xs/Limb.val ys)<0)=u1 at *
   generalize hu2:decide (sg s (Limb.val xs%Limb.val ys)<0)=u2 at *;clear hu1 hu2;have x5a:=(K5.keeps.blk (List.Mem.head _)).c0;have y5a:=(K5.keeps.blk (List.Mem.tail _ (List.Mem.head _))).c0;have q5a:=q5.c0;have q5b:=q5.c1;have q5c:=q5.fr 0;have q5d:=q5.fr 1;have r5a:=r5.c0;have r5b:=r5.c1;have r5c:=r5.fr 0;have r5d:=r5.fr 1;have hma:ma=0:=(by rw[pa.len,H0.out];rfl);subst hma;clear pa;go_wp2_with fail;go_region
   go_wp2_with fail;simp only[Dl];have q7:=DZ (x:=.bool u1) (y:=.slice Aa na ca) (x':=.bool u2) (y':=.slice Ba 0 da) q5 r5 (by omega);have z7:=(BK (x:=.bool u1) (y:=.slice Aa na ca) (x':=.bool u2) (y':=.slice Ba 0 da) zq q5 r5 (by omega)).below (Ak _ 1);have z8:=(BK (x:=.bool u1) (y:=.slice Aa na ca) (x':=.bool u2) (y':=.slice Ba 0 da) zr q5 r5 (by omega)).below (Ak _ 1)
   exact EJ rfl rfl rfl rfl q7.1.drew q7.2.drew rfl ⟨_,_,rfl,z7.ofEq HE.out.1.symm,z8.ofEq HE.out.2.symm,((K5.st (g:=w.heap.size+1+1) (.bool u1) (.slice Aa na ca) (by omega)).st (g:=w.heap.size+1+1+1) (.bool u2) (.slice Ba 0 da) (by omega)).old.drew⟩
 · have H0:=Ad h0;have hpos:Hid (0<(Limb.val xs%Limb.val ys)):=Nat.pos_of_ne_zero h0;clear h0;by_cases hst:s=t
   · subst hst;have heq:(s==s)=true:=(by simp);clear even odd;have K0:=Ay.mk2 (B:=w.heap.size+2) (((Cf.nil z2).add y0 (by omega)).add x0 (by omega)) (by rw[z4];omega) (by omega) (by omega) (by omega);go_enter Tryz.func27,Tryz.ntmps27;go_wp2_with fail;refine hdy.mono ?_;rintro e wa ⟨Aa,na,ca,Ba,ma,da,rfl,oa,pa,ba⟩;have K1:=K0.call ba;have HK:=Ad K1
     have SOF:=Ad (show ∀W,Ay w (w.heap.size+2) [(w.heap.size,.bool s,.slice A n c),(w.heap.size+1,.bool s,.slice B m d)] W->(fun W=>Ay w (w.heap.size+2) [(w.heap.size,.bool s,.slice A n c),(w.heap.size+1,.bool s,.slice B m d)] W/\W.cell? ⟨w.heap.size,0,none⟩=some (.bool s)/\W.cell? ⟨w.heap.size,1,none⟩=some (.slice A n c)/\W.cell? ⟨w.heap.size+1,0,none⟩=some (.bool s)/\W.cell? ⟨w.heap.size+1,1,none⟩=some (.slice B m d)) W from fun W k=>⟨k,(k.keeps.blk (List.Mem.head _)).c0,(k.keeps.blk (List.Mem.head _)).c1,(k.keeps.blk (List.Mem.tail _ (List.Mem.head _))).c0,(k.keeps.blk (List.Mem.tail _ (List.Mem.head _))).c1⟩)
     go_wp2_with fail;go_region_held3 (fun W=>Ay w (w.heap.size+2) [(w.heap.size,.bool s,.slice A n c),(w.heap.size+1,.bool s,.slice B m d)] W/\W.cell? ⟨w.heap.size,0,none⟩=some (.bool s)/\W.cell? ⟨w.heap.size,1,none⟩=some (.slice A n c)/\W.cell? ⟨w.heap.size+1,0,none⟩=some (.bool s)/\W.cell? ⟨w.heap.size+1,1,none⟩=some (.slice B m d))
       (with_reducible first|(simp only[Dl];refine SOF.out _ ?_;(repeat (first|refine Ay.alloc ?_ _|refine Ay.st ?_ _ _ (by omega)));exact K3.out)|exact SOF.out _ HK.out.drew|exact SOF.out _ (Ay.call (And.left (a:=Ay w (w.heap.size+2) _ _) (by assumption)) (by assumption)))
       (first
        |(go_at_call 54;(have kk:=(And.left (a:=Ay w (w.heap.size+2) _ _) (by assumption)));(with_reducible refine (AX false Aa na ca _ _ oa.len (by have:=Ek oa;omega)).mono ?_);rintro e w2 ⟨rfl,b2⟩;have hz2:=Ad (kk.call b2).size;have K2:=Ad (kk.call b2);clear kk)
        |(go_at_call 54;(have kk:=(And.left (a:=Ay w (w.heap.size+2) _ _) (by assumption)));(with_reducible refine (AX s Ba ma da _ _ pa.len (by have:=Ek pa;omega)).mono ?_);rintro e w3 ⟨rfl,b3⟩;have hz3:=Ad (kk.call b3).size;have K3:=Ad (kk.call b3);clear kk;have q3:=((q0.next ba).drew.next b2).next b3;have r3:=((r0.next ba).drew.next b2).next b3;have q3a:=q3.c0;have q3b:=q3.c1;have q3c:=q3.fr 0;have q3d:=q3.fr 1;have r3a:=r3.c0;have r3b:=r3.c1;have r3c:=r3.fr 0;have r3d:=r3.fr 1))
     clear HK SOF q3a q3b q3c q3d r3a r3b r3c r3d;simp only[Dl];have zq:=(((BJ (s:=false) oa hq1.out).below (Ak wa 1)).below b2).below b3;have zr:=(((BJ (s:=s) pa hr1.out).below (Ak wa 1)).below b2).below b3;obtain ⟨W5,hW5⟩:∃W5,W5=st2 (st2 w3 (w.heap.size+1+1) (.bool (decide (sg false (Limb.val xs/Limb.val ys)<0))) (.slice Aa na ca)) (w.heap.size+1+1+1) (.bool (decide (sg s (Limb.val xs%Limb.val ys)<0))) (.slice Ba ma da):=⟨_,rfl⟩;rw[<-hW5]
     have q5:=(DZ (x:=.bool (decide (sg false (Limb.val xs/Limb.val ys)<0))) (y:=.slice Aa na ca) (x':=.bool (decide (sg s (Limb.val xs%Limb.val ys)<0))) (y':=.slice Ba ma da) q3 r3 (by omega)).1;have r5:=(DZ (x:=.bool (decide (sg false (Limb.val xs/Limb.val ys)<0))) (y:=.slice Aa na ca) (x':=.bool (decide (sg s (Limb.val xs%Limb.val ys)<0))) (y':=.slice Ba ma da) q3 r3 (by omega)).2
     have zq:=BK (x:=.bool (decide (sg false (Limb.val xs/Limb.val ys)<0))) (y:=.slice Aa na ca) (x':=.bool (decide (sg s (Limb.val xs%Limb.val ys)<0))) (y':=.slice Ba ma da) zq q3 r3 (by omega);have zr:=BK (x:=.bool (decide (sg false (Limb.val xs/Limb.val ys)<0))) (y:=.slice Aa na ca) (x':=.bool (decide (sg s (Limb.val xs%Limb.val ys)<0))) (y':=.slice Ba ma da) zr q3 r3 (by omega)
     have K5:=(K3.out.st (g:=w.heap.size+1+1) (.bool (decide (sg false (Limb.val xs/Limb.val ys)<0))) (.slice Aa na ca) (by omega)).st (g:=w.heap.size+1+1+1) (.bool (decide (sg s (Limb.val xs%Limb.val ys)<0))) (.slice Ba ma da) (by omega);rw[<-hW5]at q5 r5 zq zr K5;have T5:=K5.old;clear hW5 q3 r3 K3 K1 K2 hz2 hz3 x0 y0 q0 r0 K0 hdy oa b2 b3 ba z2 z4;generalize hu1:decide (sg false (Limb.val xs/Limb.val ys)<0)=u1 at *
     generalize hu2:decide (sg s (Limb.val xs%Limb.val ys)<0)=u2 at *;clear hu1 hu2;have x5a:=(K5.keeps.blk (List.Mem.head _)).c0;have y5a:=(K5.keeps.blk (List.Mem.tail _ (List.Mem.head _))).c0;have q5a:=q5.c0;have q5b:=q5.c1;have q5c:=q5.fr 0;have q5d:=q5.fr 1;have r5a:=r5.c0;have r5b:=r5.c1;have r5c:=r5.fr 0;have r5d:=r5.fr 1;have hma:0<ma:=(by rcases Nat.eq_zero_or_pos ma with h|h;exact absurd ((Limb.canon_len_zero _).1 (by rw[<-pa.len];exact h)) H0.out;exact h)
     clear pa;go_wp2_with fail;go_region
     go_wp2_with fail;simp only[Dl];have q7:=DZ (x:=.bool u1) (y:=.slice Aa na ca) (x':=.bool u2) (y':=.slice Ba ma da) q5 r5 (by omega);have z7:=(BK (x:=.bool u1) (y:=.slice Aa na ca) (x':=.bool u2) (y':=.slice Ba ma da) zq q5 r5 (by omega)).below (Ak _ 1);have z8:=(BK (x:=.bool u1) (y:=.slice Aa na ca) (x':=.bool u2) (y':=.slice Ba ma da) zr q5 r5 (by omega)).below (Ak _ 1)
     exact EJ rfl rfl rfl rfl q7.1.drew q7.2.drew rfl ⟨_,_,rfl,z7.ofEq same.out.1.symm,z8.ofEq same.out.2.symm,((K5.st (g:=w.heap.size+1+1) (.bool u1) (.slice Aa na ca) (by omega)).st (g:=w.heap.size+1+1+1) (.bool u2) (.slice Ba ma da) (by omega)).old.drew⟩
   · have hne:(s==t)=false:=(by simpa using hst);replace odd:=Ad (odd.out hst hpos.out);clear same even hst;have K0:=Ay.mk2 (B:=w.heap.size+2) (((Cf.nil z2).add y0 (by omega)).add x0 (by omega)) (by rw[z4];omega) (by omega) (by omega) (by omega);go_enter Tryz.func27,Tryz.ntmps27;go_wp2_with fail;refine hdy.mono ?_;rintro e wa ⟨Aa,na,ca,Ba,ma,da,rfl,oa,pa,ba⟩;have K1:=K0.call ba;have HK:=Ad K1
     have SOF:=Ad (show ∀W,Ay w (w.heap.size+2) [(w.heap.size,.bool s,.slice A n c),(w.heap.size+1,.bool t,.slice B m d)] W->(fun W=>Ay w (w.heap.size+2) [(w.heap.size,.bool s,.slice A n c),(w.heap.size+1,.bool t,.slice B m d)] W/\W.cell? ⟨w.heap.size,0,none⟩=some (.bool s)/\W.cell? ⟨w.heap.size,1,none⟩=some (.slice A n c)/\W.cell? ⟨w.heap.size+1,0,none⟩=some (.bool t)/\W.cell? ⟨w.heap.size+1,1,none⟩=some (.slice B m d)) W from fun W k=>⟨k,(k.keeps.blk (List.Mem.head _)).c0,(k.keeps.blk (List.Mem.head _)).c1,(k.keeps.blk (List.Mem.tail _ (List.Mem.head _))).c0,(k.keeps.blk (List.Mem.tail _ (List.Mem.head _))).c1⟩)
     go_wp2_with fail;go_region_held3 (fun W=>Ay w (w.heap.size+2) [(w.heap.size,.bool s,.slice A n c),(w.heap.size+1,.bool t,.slice B m d)] W/\W.cell? ⟨w.heap.size,0,none⟩=some (.bool s)/\W.cell? ⟨w.heap.size,1,none⟩=some (.slice A n c)/\W.cell? ⟨w.heap.size+1,0,none⟩=some (.bool t)/\W.cell? ⟨w.heap.size+1,1,none⟩=some (.slice B m d))
       (with_reducible first|(simp only[Dl];refine SOF.out _ ?_;(repeat (first|refine Ay.alloc ?_ _|refine Ay.st ?_ _ _ (by omega)));exact K3.out)|exact SOF.out _ HK.out.drew|exact SOF.out _ (Ay.call (And.left (a:=Ay w (w.heap.size+2) _ _) (by assumption)) (by assumption)))
       (first
        |(go_at_call 54;(have kk:=(And.left (a:=Ay w (w.heap.size+2) _ _) (by assumption)));(with_reducible refine (AX true Aa na ca _ _ oa.len (by have:=Ek oa;omega)).mono ?_);rintro e w2 ⟨rfl,b2⟩;have hz2:=Ad (kk.call b2).size;have K2:=Ad (kk.call b2);clear kk)
        |(go_at_call 54;(have kk:=(And.left (a:=Ay w (w.heap.size+2) _ _) (by assumption)));(with_reducible refine (AX s Ba ma da _ _ pa.len (by have:=Ek pa;omega)).mono ?_);rintro e w3 ⟨rfl,b3⟩;have hz3:=Ad (kk.call b3).size;have K3:=Ad (kk.call b3);clear kk;have q3:=((q0.next ba).drew.next b2).next b3;have r3:=((r0.next ba).drew.next b2).next b3;have q3a:=q3.c0;have q3b:=q3.c1;have q3c:=q3.fr 0;have q3d:=q3.fr 1;have r3a:=r3.c0;have r3b:=r3.c1;have r3c:=r3.fr 0;have r3d:=r3.fr 1))
     clear HK SOF q3a q3b q3c q3d r3a r3b r3c r3d;simp only[Dl];have zq:=(((BJ (s:=true) oa hq1.out).below (Ak wa 1)).below b2).below b3;have zr:=(((BJ (s:=s) pa hr1.out).below (Ak wa 1)).below b2).below b3;obtain ⟨W5,hW5⟩:∃W5,W5=st2 (st2 w3 (w.heap.size+1+1) (.bool (decide (sg true (Limb.val xs/Limb.val ys)<0))) (.slice Aa na ca)) (w.heap.size+1+1+1) (.bool (decide (sg s (Limb.val xs%Limb.val ys)<0))) (.slice Ba ma da):=⟨_,rfl⟩;rw[<-hW5]
     have q5:=(DZ (x:=.bool (decide (sg true (Limb.val xs/Limb.val ys)<0))) (y:=.slice Aa na ca) (x':=.bool (decide (sg s (Limb.val xs%Limb.val ys)<0))) (y':=.slice Ba ma da) q3 r3 (by omega)).1;have r5:=(DZ (x:=.bool (decide (sg true (Limb.val xs/Limb.val ys)<0))) (y:=.slice Aa na ca) (x':=.bool (decide (sg s (Limb.val xs%Limb.val ys)<0))) (y':=.slice Ba ma da) q3 r3 (by omega)).2
     have zq:=BK (x:=.bool (decide (sg true (Limb.val xs/Limb.val ys)<0))) (y:=.slice Aa na ca) (x':=.bool (decide (sg s (Limb.val xs%Limb.val ys)<0))) (y':=.slice Ba ma da) zq q3 r3 (by omega);have zr:=BK (x:=.bool (decide (sg true (Limb.val xs/Limb.val ys)<0))) (y:=.slice Aa na ca) (x':=.bool (decide (sg s (Limb.val xs%Limb.val ys)<0))) (y':=.slice Ba ma da) zr q3 r3 (by omega)
     have K5:=(K3.out.st (g:=w.heap.size+1+1) (.bool (decide (sg true (Limb.val xs/Limb.val ys)<0))) (.slice Aa na ca) (by omega)).st (g:=w.heap.size+1+1+1) (.bool (decide (sg s (Limb.val xs%Limb.val ys)<0))) (.slice Ba ma da) (by omega);rw[<-hW5]at q5 r5 zq zr K5;have T5:=K5.old;clear hW5 q3 r3 K3 K1 K2 hz2 hz3 x0 y0 q0 r0 K0 hdy oa b2 b3 ba z2 z4;generalize hu1:decide (sg true (Limb.val xs/Limb.val ys)<0)=u1 at *
     generalize hu2:decide (sg s (Limb.val xs%Limb.val ys)<0)=u2 at *;clear hu1 hu2;have x5a:=(K5.keeps.blk (List.Mem.head _)).c0;have y5a:=(K5.keeps.blk (List.Mem.tail _ (List.Mem.head _))).c0;have q5a:=q5.c0;have q5b:=q5.c1;have q5c:=q5.fr 0;have q5d:=q5.fr 1;have r5a:=r5.c0;have r5b:=r5.c1;have r5c:=r5.fr 0;have r5d:=r5.fr 1;have hma:0<ma:=(by rcases Nat.eq_zero_or_pos ma with h|h;exact absurd ((Limb.canon_len_zero _).1 (by rw[<-pa.len];exact h)) H0.out;exact h)
     clear pa;have K5:Ay w (w.heap.size+2) [(w.heap.size+1,.bool t,.slice B m d)] W5:=⟨(Cf.nil T5).add (K5.keeps.blk (List.Mem.tail _ (List.Mem.head _))) (by omega),K5.size,K5.2.2.1,fun p hp=>K5.2.2.2 p (List.Mem.tail _ hp)⟩;have y5:=K5.keeps.blk (List.Mem.head _);have k6:=Ad (K5.drew);have q6:=Ad q5.drew;have r6:=Ad r5.drew;have y6:=Ad y5.drew;have zq6:=Ad (zq.below (Ak _ 1));have zr6:=Ad (zr.below (Ak _ 1));clear K5 zq zr T5 r5 q5;have y5b:=y5.c0;clear y5
     go_wp2_with fail;clear x5a y5a q5a q5b q5c q5d r5a r5b r5c r5d y5b;refine Is (by kernel_rfl) [6,7] (fun W=>W.cell? ⟨w.heap.size+1+1,0,none⟩=some (.bool u1)/\W.cell? ⟨w.heap.size+1+1,1,none⟩=some (.slice Aa na ca)/\W.cell? ⟨w.heap.size+1+1+1,0,none⟩=some (.bool u2)/\W.cell? ⟨w.heap.size+1+1+1,1,none⟩=some (.slice Ba ma da)/\W.cell? ⟨w.heap.size+1,0,none⟩=some (.bool t)/\W.cell? ⟨w.heap.size+1,1,none⟩=some (.slice B m d)) (fun hc=>?_)
     refine De.take (i:=0) (oi:={ dst:=some 44,op:=Op.load 31 (Operand.tmp 4),type:=31,pos:="div.go:17",after:=#[],guard:=none }) (v:=?_) rfl (by kernel_rfl) (by kernel_rfl) (by kernel_rfl) (by kernel_rfl) (fun _ _ _ h=>h) hc (Or.inl ⟨by rfl,?_⟩) ⟨q6.out.c0,q6.out.c1,r6.out.c0,r6.out.c1,y6.out.c0,y6.out.c1⟩ (fun hc=>?_);rotate_left
     · intro W hSw;(try dsimp only at hSw)
       go_simp;(try with_reducible rfl)
     (try simp only[Act.put,List.setIfInBounds_toArray,List.set_cons_zero,List.set_cons_succ])
     refine De.take (i:=3) (oi:={ dst:=some 47,op:=Op.load 31 (Operand.tmp 5),type:=31,pos:="div.go:17",after:=#[],guard:=none }) (v:=?_) rfl (by kernel_rfl) (by kernel_rfl) (by kernel_rfl) (by kernel_rfl) (fun _ _ _ h=>h) hc (Or.inl ⟨by rfl,?_⟩) ⟨q6.out.c0,q6.out.c1,r6.out.c0,r6.out.c1,y6.out.c0,y6.out.c1⟩ (fun hc=>?_);rotate_left
     · intro W hSw;(try dsimp only at hSw)
       go_simp;(try with_reducible rfl)
     (try simp only[Act.put,List.setIfInBounds_toArray,List.set_cons_zero,List.set_cons_succ])
     refine De.take (i:=4) (oi:={ dst:=some 48,op:=Op.load 31 (Operand.tmp 3),type:=31,pos:="div.go:17",after:=#[],guard:=none }) (v:=?_) rfl (by kernel_rfl) (by kernel_rfl) (by kernel_rfl) (by kernel_rfl) (fun _ _ _ h=>h) hc (Or.inl ⟨by rfl,?_⟩) ⟨q6.out.c0,q6.out.c1,r6.out.c0,r6.out.c1,y6.out.c0,y6.out.c1⟩ (fun hc=>?_);rotate_left
     · intro W hSw;(try dsimp only at hSw)
       go_simp;(try with_reducible rfl)
     (try simp only[Act.put,List.setIfInBounds_toArray,List.set_cons_zero,List.set_cons_succ])
     clear hc;refine De.one (i:=1) (oi:={ dst:=some 45,op:=Op.call { callee:=Callee.value (Operand.func 44),args:=#[Operand.const (Value.int IntKind.i64 1)],argTypes:=#[2] },type:=31,pos:="div.go:17",after:=#[],guard:=none }) (by kernel_rfl) rfl (by rfl) (fun KK hK=>?_);go_simp;refine (TQ 1 _ (by omega) (by omega)).mono ?_;rintro e w7 ⟨v7,rfl,z7,b7⟩;have q7:=q6.out.next b7;have r7:=r6.out.next b7;have y7:=y6.out.next b7;have zq7:=zq6.out.below b7
     have zr7:=zr6.out.below b7;have k7:=Ad (k6.out.call b7);go_wp2_with fail;refine hK.out _ _ (fun _=>⟨q7.c0,q7.c1,r7.c0,r7.c1,y7.c0,y7.c1⟩) ?_;clear hK;(try simp only[Act.put,List.setIfInBounds_toArray,List.set_cons_zero,List.set_cons_succ])
     refine De.one (i:=2) (oi:={ dst:=some 46,op:=Op.call { callee:=Callee.value (Operand.func 55),args:=#[Operand.tmp 44,Operand.tmp 45],argTypes:=#[31,31] },type:=31,pos:="div.go:17",after:=#[{ on:=0,ground:=Ground.data },{ on:=1,ground:=Ground.data },{ on:=1,ground:=Ground.chain }],guard:=none }) (by kernel_rfl) rfl (by rfl) (fun KK hK=>?_);go_simp;refine (TJ _ _ _ 1 (k+2) _ (zq7.in_.mono (by omega)) (z7.in_.mono (by omega)) (by omega)).mono ?_
     rintro e w8 ⟨v8,rfl,z8,b8⟩;have q8:=q7.next b8;have r8:=r7.next b8;have y8:=y7.next b8;have zr8:=zr7.below b8;have k8:=Ad (k7.out.call b8);replace z8:=(z8.ofEq odd.out.1.symm).short hqs.out;go_wp2_with fail;refine hK.out _ _ (fun _=>⟨q8.c0,q8.c1,r8.c0,r8.c1,y8.c0,y8.c1⟩) ?_;clear hK;(try simp only[Act.put,List.setIfInBounds_toArray,List.set_cons_zero,List.set_cons_succ])
     refine De.one (i:=5) (oi:={ dst:=some 49,op:=Op.call { callee:=Callee.value (Operand.func 56),args:=#[Operand.tmp 47,Operand.tmp 48],argTypes:=#[31,31] },type:=31,pos:="div.go:17",after:=#[{ on:=3,ground:=Ground.data },{ on:=4,ground:=Ground.data },{ on:=2,ground:=Ground.chain }],guard:=none }) (by kernel_rfl) rfl (by rfl) (fun KK hK=>?_);go_simp;refine (JL _ _ _ _ j _ zr8.in_ (hu0.below k8.out.old) (by omega)).mono ?_;rintro e w9 ⟨v9,rfl,z9,b9⟩
     replace z8:=z8.below b9;replace z9:=(z9.ofEq odd.out.2.symm).short hrs.out;obtain ⟨s8,A8,n8,c8,rfl⟩:=z8.form;obtain ⟨s9,A9,n9,c9,rfl⟩:=z9.form;have k9:=Ad (k8.out.call b9);have q9:=q8.next b9;have r9:=r8.next b9;have y9:=y8.next b9;go_wp2_with fail;refine hK.out _ _ (fun _=>⟨q9.c0,q9.c1,r9.c0,r9.c1,y9.c0,y9.c1⟩) ?_;clear hK;(try simp only[Act.put,List.setIfInBounds_toArray,List.set_cons_zero,List.set_cons_succ])
     have q9a:=q9.c0;have q9b:=q9.c1;have q9c:=q9.fr 0;have q9d:=q9.fr 1;have r9a:=r9.c0;have r9b:=r9.c1;have r9c:=r9.fr 0;have r9d:=r9.fr 1
     refine De.one (i:=6) (oi:={ dst:=none,op:=Op.store 31 (Operand.tmp 4) (Operand.tmp 46),type:=0,pos:="div.go:17",after:=#[{ on:=2,ground:=Ground.data },{ on:=5,ground:=Ground.chain },{ on:=0,ground:=Ground.phase },{ on:=1,ground:=Ground.phase },{ on:=2,ground:=Ground.phase },{ on:=3,ground:=Ground.textOnly Departure.lateStores },{ on:=4,ground:=Ground.textOnly Departure.lateStores },{ on:=5,ground:=Ground.textOnly Departure.lateStoresUnsure }],guard:=none }) (by kernel_rfl) rfl (by rfl) (fun KK hK=>?_)
     go_simp;refine hK.out _ _ (fun h=>absurd (by simp) h) ?_;clear hK;(try simp only[Act.put,List.setIfInBounds_toArray,List.set_cons_zero,List.set_cons_succ])
     refine De.one (i:=7) (oi:={ dst:=none,op:=Op.store 31 (Operand.tmp 5) (Operand.tmp 49),type:=0,pos:="div.go:17",after:=#[{ on:=5,ground:=Ground.data },{ on:=6,ground:=Ground.chain },{ on:=0,ground:=Ground.phase },{ on:=1,ground:=Ground.phase },{ on:=2,ground:=Ground.phase },{ on:=3,ground:=Ground.phase },{ on:=4,ground:=Ground.phase },{ on:=5,ground:=Ground.phase },{ on:=6,ground:=Ground.phase }],guard:=none }) (by kernel_rfl) rfl (by rfl) (fun KK hK=>?_);go_simp
     refine hK.out _ _ (fun h=>absurd (by simp) h) ?_;clear hK;(try simp only[Act.put,List.setIfInBounds_toArray,List.set_cons_zero,List.set_cons_succ])
     refine De.done (by kernel_rfl) ?_;simp only[Dl];have q10:=(DZ (x:=.bool s8) (y:=.slice A8 n8 c8) (x':=.bool s9) (y':=.slice A9 n9 c9) q9 r9 (by omega)).1;have r10:=(DZ (x:=.bool s8) (y:=.slice A8 n8 c8) (x':=.bool s9) (y':=.slice A9 n9 c9) q9 r9 (by omega)).2;have z8:=BK (x:=.bool s8) (y:=.slice A8 n8 c8) (x':=.bool s9) (y':=.slice A9 n9 c9) z8 q9 r9 (by omega);have z9:=BK (x:=.bool s8) (y:=.slice A8 n8 c8) (x':=.bool s9) (y':=.slice A9 n9 c9) z9 q9 r9 (by omega)
     have K10:=(k9.out.st (g:=w.heap.size+1+1) (.bool s8) (.slice A8 n8 c8) (by omega)).st (g:=w.heap.size+1+1+1) (.bool s9) (.slice A9 n9 c9) (by omega);generalize st2 (st2 w9 (w.heap.size+1+1) (.bool s8) (.slice A8 n8 c8)) (w.heap.size+1+1+1) (.bool s9) (.slice A9 n9 c9)=W10 at *;clear q9 r9 q8 r8 k7 k8 k9 k6 b7 b8 b9 zq7 zr7 zr8 q7 r7 q6 r6 z7 y7 y8 y9 y6 zq6 zr6 q9a q9b q9c q9d r9a r9b r9c r9d;have q10a:=q10.c0;have q10b:=q10.c1;have q10c:=q10.fr 0;have q10d:=q10.fr 1
     have r10a:=r10.c0;have r10b:=r10.c1;have r10c:=r10.fr 0;have r10d:=r10.fr 1;go_wp2_with fail;go_region
     go_wp2_with fail;simp only[Dl];have q7:=DZ (x:=.bool s8) (y:=.slice A8 n8 c8) (x':=.bool s9) (y':=.slice A9 n9 c9) q10 r10 (by omega);have z7:=(BK (x:=.bool s8) (y:=.slice A8 n8 c8) (x':=.bool s9) (y':=.slice A9 n9 c9) z8 q10 r10 (by omega)).below (Ak _ 1);have z8:=(BK (x:=.bool s8) (y:=.slice A8 n8 c8) (x':=.bool s9) (y':=.slice A9 n9 c9) z9 q10 r10 (by omega)).below (Ak _ 1)
     exact EJ rfl rfl rfl rfl q7.1.drew q7.2.drew rfl ⟨_,_,rfl,z7.ofEq rfl,z8.ofEq rfl,((K10.st (g:=w.heap.size+1+1) (.bool s8) (.slice A8 n8 c8) (by omega)).st (g:=w.heap.size+1+1+1) (.bool s9) (.slice A9 n9 c9) (by omega)).old.drew⟩
end
section
open Go.RowKit
def UL (k:Int) (w:World) (e:Ending) (w':World):Prop:=e=.returned (.tuple #[.agg #[.bool false,.slice none 0 0],.int .i64 k])/\Below w.heap.size w w'
def UO (Z:Int) (k:Nat) (w:World) (e:Ending) (w':World):Prop:=∃v,e=.returned (.tuple #[v,.int .i64 0])/\Au w' v Z k/\Below w.heap.size w w'
end
section
open Go.RowKit
end
section
open Go.RowKit
end
section
open Go.RowKit
def Tf (w:World) (e:Ending) (w':World):Prop:=e=.returned (.tuple #[.slice none 0 0,.slice none 0 0,.int .i64 10])/\Below w.heap.size w w'
def S4 (Q R:Nat) (w:World) (e:Ending) (w':World):Prop:=∃A n c B m d,e=.returned (.tuple #[.slice A n c,.slice B m d,.int .i64 0])/\Am w' A n (Limb.canon Q)/\n<=c/\c<=9223372036854775807/\Am w' B m (Limb.canon R)/\m<=d/\d<=9223372036854775807/\Below w.heap.size w w'
def Uf (w:World) (N M k:Nat) (q r:Value) (wr:World):Prop:=
 ∃Q R A1 n1 c1 A2 n2 c2,q=.slice A1 n1 c1/\r=.slice A2 n2 c2/\Am wr A1 n1 (Limb.canon Q)/\n1<=c1/\c1<=9223372036854775807/\Am wr A2 n2 (Limb.canon R)/\n2<=c2/\c2<=9223372036854775807/\Below w.heap.size w wr/\Hid (N/2^k=Q*M+R/\R<M)
end
section
open Go.RowKit
open Limb (limb AE upto upto_succ Ap Aq)
end
section
open Go.RowKit
end
section
open Go.RowKit
def RU (Z Y:Int):Int:=(Nat.gcd Z.natAbs Y.natAbs:Nat)
theorem RX {a b K:Nat} (ha:a<K) (hb:b<K):Nat.gcd a b<K:=by
 rcases Nat.eq_zero_or_pos a with h|h
 · subst h;rw[Nat.gcd_zero_left];exact hb
 · exact Nat.lt_of_le_of_lt (Nat.le_of_dvd h (Nat.gcd_dvd_left a b)) ha
theorem TU (v u:Value) (Z Y:Int) (k:Nat) (w:World) (hv:BF w v Z k) (hu:BF w u Y k) (hk:k<=68719476736):Calls Tryz.prog 86 #[v,u] w (CW (RU Z Y) k w):=by
 have hlt:=Ad (RX hv.lt hu.lt);obtain ⟨s,A,n,c,xs,rfl,hx,hc,hm,hn,hZ⟩:=hv;obtain ⟨t,B,m,d,ys,rfl,hy,hd,hmd,hmk,hY⟩:=hu;obtain ⟨x0,y0,r0,z2,-⟩:=ED w #[.bool s,.slice A n c] #[.bool t,.slice B m d] #[.bool false,.slice none 0 0];have hg:=RI A B n c m d xs ys _ (hx.below z2) hc hm (by omega) (hy.below z2) hd hmd (by omega);rw[BF.abs hZ,BF.abs hY]at hg;have HG:=Ad (show RU Z Y=sg false (Nat.gcd Z.natAbs Y.natAbs) from rfl);clear hx hy hZ hY
 generalize Nat.gcd Z.natAbs Y.natAbs=G at *;go_enter Tryz.func86,Tryz.ntmps86;go_wp2_with fail;refine hg.mono ?_;rintro e w1 ⟨A1,n1,rfl,o1,b1⟩;have l1:=Ek o1;have k1:=r0.next b1;have t1:=z2.next b1;clear hg;go_wp2_with fail;refine (AX false A1 n1 n1 G w1 o1.len (by omega)).mono ?_;rintro e w2 ⟨rfl,b2⟩;have k2:=k1.next b2;have r2:=(BJ (s:=false) o1 hlt.out).below b2;go_wp2_with (with_reducible refine Al rfl _ _ rfl (w.heap.size+1+1) _ _ _ _ rfl rfl _ _ k2 ?_;intro w3 k3 ho3)
 refine Av rfl rfl k3 rfl ?_;exact ⟨_,rfl,(r2.only k2 ho3).ofEq HG.out.symm,AH (t1.next b2) (by omega) ho3⟩
def UM (Z Y:Int):Int:=if Z=0\/Y=0 then 0 else ((Z.natAbs/Nat.gcd Z.natAbs Y.natAbs*Y.natAbs:Nat):Int)
end
section
open Go.RowKit
open Tm
def KI (g:Nat) (W1:World) (L:List (Int×Int)) (k q:Nat) (wr:World):Prop:=
 ∃s A n c,AY wr g #[.bool s,.slice A n c]/\Au wr (.agg #[.bool s,.slice A n c]) (CP 0 (L.take q):Nat) k/\Ao g W1 wr
theorem KJ (v:Value) (L:List (Int×Int)) (K:Int) (k:Nat) (w0:World) (hv:Dw w0 v L K k) (hl:L.length<=1099511) (hk:k<=1099511627):Calls Tryz.prog 50 #[v] w0 (CW (Ai L) (k+L.length) w0):=by
 obtain ⟨A,n,c,s,B,m,d,rfl,hp,hc1,hc2,-⟩:=hv;have hn:=hp.len;obtain ⟨z0,z1,z2,z3,z4⟩:=BQ 33 31 31 w0 #[.slice A n c,.bool s,.slice B m d] #[.bool false,.slice none 0 0] #[.bool false,.slice none 0 0];have hpl:=CL A n c L k _ (hp.below z3) hc1 hc2 (by omega) hk;have x0:=z0.c0;have HNL:=Ad (AR L);rw[hn]at hl;have HN:=Ad hn;clear hn;go_enter Tryz.func50,Tryz.ntmps50;go_wp2_with fail;refine hpl.mono ?_;rintro e W1 ⟨A1,n1,c1,rfl,p1,h11,h12,b1⟩;have HT1:=Ad (z3.next b1)
 have hW1:w0.heap.size+1+1+1<=W1.heap.size:=by have:=b1.size;omega
 have hn1:n1<=1099511:=by have:=p1.len;have:=HNL.out;have:=HN.out;omega
 have HP1:=Ad p1;have HR1:=Ad (z1.next b1);have HG:=Ad (z2.next b1);have HS:=Ad (show KI (w0.heap.size+1+1) W1 (norm L) (k+n) 0 W1 from ⟨false,none,0,0,z2.next b1,Au.zero _ _,Ao.refl _ _⟩);clear x0 hpl z0 z1 z2 z3 z4 b1 p1 hp;go_wp2_with fail;go_loopw [10] (fun i wr=>∃q:Nat,q<=n1/\i=.int .i64 q/\Hid (KI (w0.heap.size+1+1) W1 (norm L) (k+n) q wr)) (fun i _=>n1-(intOf i).toNat)
 case atStart=>exact ⟨0,Nat.zero_le _,rfl,HS⟩
 case round=>
  obtain ⟨q,hq,rfl,HR⟩:=hrel;obtain ⟨s5,A5,n5,c5,b5,zz5,hB⟩:=HR.out;by_cases hqn:q<n1
  · obtain ⟨bb,o,p,rfl,hlt,hLp,c0,c1x,c2,hz⟩:=(HP1.out.onlyInt HG.out hB).at_ hqn;obtain ⟨y0,y1,-⟩:=AV 59 wr #[.int .i64 p.v,.bool p.s,.slice p.B p.m p.d];have k1:=b5.next y1;have hA:=TU (.agg #[.bool s5,.slice A5 n5 c5]) (.agg #[.bool p.s,.slice p.B p.m p.d]) (CP 0 ((norm L).take q):Nat) p.Z (k+n) _ (zz5.in_.below y1) (hz.below y1) (by omega)
    have HC:=Ad (show RU (CP 0 ((norm L).take q):Nat) p.Z=(CP 0 ((norm L).take (q+1)):Nat) by unfold RU;rw[IE 0 _ q _ _ hLp,Int.natAbs_natCast]);have b50:=k1.c0;have b51:=k1.c1;have HB1:=Ad (hB.next y1);have HK1:=Ad k1;clear zz5 hLp HR hz b5 hB y0 y1 k1;generalize CP 0 ((norm L).take q)=Y at *;go_wp2_with fail;refine hA.mono ?_;rintro e w2 ⟨v2,rfl,r2,b2⟩;obtain ⟨s2,A2,n2,c2',rfl⟩:=r2.form;have k2:=HK1.out.next b2
    go_wp2_with (with_reducible refine Al rfl _ _ rfl (w0.heap.size+1+1) _ _ _ _ rfl rfl _ _ k2 ?_;intro w3 k3 ho3);have HE:=Ad (show KI (w0.heap.size+1+1) W1 (norm L) (k+n) (q+1) w3 from ⟨s2,A2,n2,c2',k3,by rw[<-HC.out];exact r2.only k2 ho3,(HB1.out.next b2).trans ho3⟩);go_roundw
    case rel=>exact ⟨q+1,by omega,by go_num,HE⟩
    case measure=>simp[intOf]<;>omega
  · obtain rfl:q=n1:=(by omega);have HL:=Ad (show ((CP 0 ((norm L).take q):Nat):Int)=Ai L by unfold Ai;rw[List.take_of_length_le (by rw[HP1.out.len];exact Nat.le_refl _)]);have b50:=b5.c0;have b51:=b5.c1;have k1:AY wr (w0.heap.size+1) #[.bool false,.slice none 0 0]:=Aw.other HR1.out hB (by omega);have HZ5:=Ad zz5;have HT:=Ad (show Below w0.heap.size w0 wr from HT1.out.trans (hB.below (by omega) (by omega)));clear zz5 b5 HR hB
    go_wp2_with (with_reducible refine Al rfl _ _ rfl (w0.heap.size+1) _ _ _ _ rfl rfl _ _ k1 ?_;intro w3 k3 ho3);refine Av rfl rfl k3 rfl ?_;refine ⟨_,rfl,?_,AH HT.out (by omega) ho3⟩;rw[HN.out,<-HL.out];exact HZ5.out.only k1 ho3
end
end Go.Proofs.YtemfjdedjcjegaaGreatDoor
