/- Texts of one seat, put together: ExprR1 ExprR2 ExprE1 ExprE2 ExprW1 ExprW2. -/
import Derived.Test.YtgohmojcopajoaaGreatDoorP07
import Derived.Test.YtgohmojcopajoaaGreatDoorP31
import Derived.Test.YtgohmojcopajoaaGreatDoorP23
import Derived.Test.YtgohmojcopajoaaGreatDoorP05
import Derived.Test.YtgohmojcopajoaaGreatDoorP26
import Derived.Test.YtgohmojcopajoaaGreatDoorP03
import Derived.Test.YtgohmojcopajoaaGreatDoorP25
import Derived.Test.YtgohmojcopajoaaGreatDoorP20
set_option linter.unusedVariables false
set_option linter.unusedSimpArgs false
set_option maxRecDepth 100000
set_option maxHeartbeats 16000000
namespace Go.Proofs.YtgohmojcopajoaaGreatDoor
section
open Go.RowKit
open Lx Ex
structure Nl (D:CD):Prop where
 ends:Jf D.ts
 nc:D.n<=D.c
 cm:D.c<=9223372036854775807
 md:D.m<=D.d
 dm:D.d<=9223372036854775807
 few:D.n<=1000000
 small:∀t∈D.ts,t.text.size<=4611686018427387904
 kinds:∀t∈D.ts,t.kind<10
 wf:∀t∈D.ts,t.kind=3->Do t.text=true
structure Tp (D:CD) (w:World) (i:Nat):Prop where
 kin:Nv w D.A D.n D.ts
 sin:Gy w D.V D.m D.vars
 good:Nl D
 fits:i+(rd D.ts i).length<=1099511627776
theorem Tp.below {D:CD} {w w':World} {i:Nat} (h:Tp D w i) (hb:Below w.heap.size w w'):Tp D w' i:=⟨h.kin.below hb,h.sin.below hb,h.good,h.fits⟩
theorem Tp.at_ {D:CD} {w:World} {i i':Nat} {r:List PT} (h:Tp D w i) (hs:Aj D i r i'):Tp D w i':=⟨h.kin,h.sin,h.good,hs.fits h.fits⟩
theorem Tp.len {D:CD} {w:World} {i:Nat} (h:Tp D w i):D.ts.length=D.n:=h.kin.1
theorem Nl.hd_small {D:CD} (h:Nl D) (i:Nat):(hd D.ts i).text.size<=4611686018427387904:=by
 rcases Lb D.ts i with q|q
 · exact h.small _ q
 · rw[q];exact Nat.zero_le _
theorem Nl.hd_wf {D:CD} (h:Nl D) (i:Nat) (h3:(hd D.ts i).kind=3):Do (hd D.ts i).text=true:=by
 rcases Lb D.ts i with q|q
 · exact h.wf _ q h3
 · rw[q]at h3;cases h3
theorem Uf {w:World} {A:Option Addr} {n:Nat} {ts:List TK} (h:Nv w A n ts) (i:Nat) (hn:0<n):∃b o,A=some ⟨b,o,none⟩/\b<w.heap.size/\w.cell? ⟨b,o+min i (n-1)*4,none⟩=some (.int .i64 (hd ts i).kind)/\w.cell? ⟨b,o+min i (n-1)*4+1,none⟩=some (.string (hd ts i).text)/\w.cell? ⟨b,o+min i (n-1)*4+2,none⟩=some (.int .i64 (hd ts i).line)/\w.cell? ⟨b,o+min i (n-1)*4+3,none⟩=some (.int .i64 (hd ts i).col):=Rf h i hn
theorem FJ {fn:Func} {R:Ending->World->Prop} {a:Act} {w:World} {g p:Nat} {cs:Array Value} (hres:fn.results=#[.cell p 118]) (hp:a.tmps.getD p undef=.pointer (some ⟨g,0,none⟩)) (h4:cs.size=4)
  (hb:Ao 118 w g cs) (hd:a.defers=[]) (hR:R (.returned (.agg cs)) w):bodyPost Tryz.prog fn R .ret a w:=
 bodyPost_ret (results_cell_row hres _ _ g _ cs _ _ hp hb Tryz.underlying118 rfl (by rw[h4];kernel_rfl)) hd hR
theorem H8 (D:CD) (i:Nat) (w:World) (h:Tp D w i):Calls Tryz.prog 59 #[.agg #[.slice D.A D.n D.c,.int .i64 (i:Int),.slice D.V D.m D.d,.bool D.known]] w (Ds (hd D.ts i) w):=by
 have hf:=h.fits;have hfew:=h.good.few;have hcm:=h.good.cm;have hb1:=Ae w (.cells #[.slice D.A D.n D.c,.int .i64 (i:Int),.slice D.V D.m D.d,.bool D.known] 77);have hs1:(w.alloc (.cells #[.slice D.A D.n D.c,.int .i64 (i:Int),.slice D.V D.m D.d,.bool D.known] 77)).heap.size=w.heap.size+1:=World.size_alloc _ _;obtain ⟨x0,x1,x2,-⟩:=Aw 77 118 w #[.slice D.A D.n D.c,.int .i64 (i:Int),.slice D.V D.m D.d,.bool D.known] #[.int .i64 0,.string ⟨#[]⟩,.int .i64 0,.int .i64 0]
 have HB:=Aa x2;by_cases hn:D.n=0
 · have hh:hd D.ts i=N7:=KY _ _ (by rw[h.len];exact hn);rw[hh];clear hh hf hfew hcm hb1 hs1 h;rw[hn]at x0 x1 HB ⊢;go_enter Tryz.func59,Tryz.ntmps59;go_wp2_with (with_reducible refine Ab rfl 118 _ _ rfl (w.heap.size+1) #[.int .i64 5,.string ⟨#[]⟩,.int .i64 0,.int .i64 0] rfl rfl _ x1 (by kernel_rfl) rfl (by simp[Value.oneCell']) ?_;intro w3 k3 ho3);refine FJ rfl rfl rfl k3 rfl ?_;exact ⟨rfl,HB.out.trans (ho3.below HB.out.size (by omega))⟩
 · have hpos:0<D.n:=(by omega);have hcb:=h.below HB.out;obtain ⟨b,o,hA,hlb,d0,d1,d2,d3⟩:=Uf hcb.kin i hpos;rw[hA]at x0 x1 HB d0 d1 d2 d3 ⊢;generalize hd D.ts i=t at *;clear hb1 hs1 h hcb;by_cases hi:i<D.n
   · have hm:min i (D.n-1)=i:=(by omega);rw[hm]at d0 d1 d2 d3;have g1:((i:Int)>=(D.n:Int))=False:=(by simp;omega);have g2:decide ((i:Int)>=(D.n:Int))=false:=(by simp;omega);clear hm hA hn;go_enter Tryz.func59,Tryz.ntmps59;go_wp2_with (with_reducible refine Ab rfl 118 _ _ rfl (w.heap.size+1) #[.int .i64 (t.kind:Int),.string t.text,.int .i64 (t.line:Int),.int .i64 (t.col:Int)] rfl rfl _ x1 (by kernel_rfl) rfl (by simp[Value.oneCell']) ?_;intro w3 k3 ho3)
     refine FJ rfl rfl rfl k3 rfl ?_;exact ⟨rfl,HB.out.trans (ho3.below HB.out.size (by omega))⟩
   · have hm:min i (D.n-1)=D.n-1:=(by omega);rw[hm]at d0 d1 d2 d3;obtain ⟨q,hq⟩:∃q,D.n=q+1:=⟨D.n-1,by omega⟩;have hq1:D.n-1=q:=(by omega);rw[hq1]at d0 d1 d2 d3;have g2:decide ((i:Int)>=(D.n:Int))=true:=(by simp;omega);have g3:(D.n:Int)-1=(q:Int):=(by omega);have g4:IntKind.i64.wrap ((D.n:Int)-1)=(q:Int):=(by rw[g3];exact IntWalk.i64_in _ (by omega));have hql:q<D.n:=(by omega);clear hm hA hn hq hq1;go_enter Tryz.func59,Tryz.ntmps59
     go_wp2_with (with_reducible refine Ab rfl 118 _ _ rfl (w.heap.size+1) #[.int .i64 (t.kind:Int),.string t.text,.int .i64 (t.line:Int),.int .i64 (t.col:Int)] rfl rfl _ x1 (by kernel_rfl) rfl (by simp[Value.oneCell']) ?_;intro w3 k3 ho3);refine FJ rfl rfl rfl k3 rfl ?_;exact ⟨rfl,HB.out.trans (ho3.below HB.out.size (by omega))⟩
end
section
open Go.RowKit
open Lx Ex
theorem Fq (D:CD) (i:Nat) (s:ByteArray) (w:World) (h:Tp D w i):Calls Tryz.prog 57 #[.agg #[.slice D.A D.n D.c,.int .i64 (i:Int),.slice D.V D.m D.d,.bool D.known],.string s] w (EM (AD s (rd D.ts i)) w):=by
 have hb0:=Ae w (.cells #[.slice D.A D.n D.c,.int .i64 (i:Int),.slice D.V D.m D.d,.bool D.known] 77);have x0:=Ao.new 77 w #[.slice D.A D.n D.c,.int .i64 (i:Int),.slice D.V D.m D.d,.bool D.known];have ha:=H8 D i _ (h.below hb0);have u0:=x0.cell 0 _ rfl;have u1:=x0.cell 1 _ rfl;have u2:=x0.cell 2 _ rfl;have u3:=x0.cell 3 _ rfl;have HB:=Aa hb0;have HI:=Aa (KZ s D.ts i);generalize AD s (rd D.ts i)=r at *;generalize hd D.ts i=t at *;obtain ⟨k,tx,l,c⟩:=t;unfold Ds at ha
 dsimp only at ha HI
 clear h hb0 x0;by_cases ht:tx=s
 · subst ht;by_cases h2:k=1
   · subst h2;obtain rfl:r=true:=(by rw[HI.out];simp);clear HI;go_enter Tryz.func57,Tryz.ntmps57;go_wp2_with fail;refine ha.mono ?_;rintro e w1 ⟨rfl,b1⟩;have HB1:=Aa (HB.out.next b1);clear b1;go_wp2_with fail;go_ret
     exact ⟨rfl,HB1.out.next (Ae _ _)⟩
   · have g2:((k:Int)==1)=false:=(by simp;omega);by_cases h1:k=2
     · subst h1;obtain rfl:r=true:=(by rw[HI.out];simp);clear HI h2;go_enter Tryz.func57,Tryz.ntmps57;go_wp2_with fail;refine ha.mono ?_;rintro e w1 ⟨rfl,b1⟩;have HB1:=Aa (HB.out.next b1);clear b1;go_wp2_with fail;go_ret
       exact ⟨rfl,HB1.out.next (Ae _ _)⟩
     · have g1:((k:Int)==2)=false:=(by simp;omega);by_cases h4:k=4
       · subst h4;obtain rfl:r=true:=(by rw[HI.out];simp);clear HI h2 h1;go_enter Tryz.func57,Tryz.ntmps57;go_wp2_with fail;refine ha.mono ?_;rintro e w1 ⟨rfl,b1⟩;have HB1:=Aa (HB.out.next b1);clear b1;go_wp2_with fail;go_ret
         exact ⟨rfl,HB1.out.next (Ae _ _)⟩
       · have g4:((k:Int)==4)=false:=(by simp;omega);obtain rfl:r=false:=(by rw[HI.out];simp;omega);clear HI h2 h1 h4;go_enter Tryz.func57,Tryz.ntmps57;go_wp2_with fail;refine ha.mono ?_;rintro e w1 ⟨rfl,b1⟩;have HB1:=Aa (HB.out.next b1);clear b1;go_wp2_with fail;go_ret
         exact ⟨rfl,HB1.out.next (Ae _ _)⟩
 · have ht2:=Ei ht;obtain rfl:r=false:=(by rw[HI.out,decide_eq_false ht];rfl);clear HI ht;go_enter Tryz.func57,Tryz.ntmps57;go_wp2_with fail;refine ha.mono ?_;rintro e w1 ⟨rfl,b1⟩;have HB1:=Aa (HB.out.next b1);clear b1;go_wp2_with fail;go_ret
   exact ⟨rfl,HB1.out.next (Ae _ _)⟩
theorem Ki {fn:Func} {R:Ending->World->Prop} {ac:Act} {w:World} {g p:Nat} {a b c d:Value} (hres:fn.results=#[.cell p 77]) (hp:ac.tmps.getD p undef=.pointer (some ⟨g,0,none⟩))
  (hb:Ao 77 w g #[a,b,c,d]) (hd:ac.defers=[]) (hR:R (.returned (.agg #[a,b,c,d])) w):bodyPost Tryz.prog fn R .ret ac w:=
 bodyPost_ret (results_cell_row hres _ _ g _ #[a,b,c,d] _ _ hp hb Tryz.underlying77 rfl (by kernel_rfl)) hd hR
def Db (D:CD) (i:Nat) (w:World) (e:Ending) (w':World):Prop:=e=.returned (.agg #[.slice D.A D.n D.c,.int .i64 ((i:Int)+1),.slice D.V D.m D.d,.bool D.known])/\Below w.heap.size w w'
theorem D7 (D:CD) (i:Nat) (w:World) (hi:i<=1099511627776):Calls Tryz.prog 58 #[.agg #[.slice D.A D.n D.c,.int .i64 (i:Int),.slice D.V D.m D.d,.bool D.known]] w (Db D i w):=by
 obtain ⟨x0,x1,x2,-⟩:=Aw 77 77 w #[.slice D.A D.n D.c,.int .i64 (i:Int),.slice D.V D.m D.d,.bool D.known] #[.slice none 0 0,.int .i64 0,.slice none 0 0,.bool false];have HB:=Aa x2;have u0:=x0.cell 0 _ rfl;have u1:=x0.cell 1 _ rfl;have u2:=x0.cell 2 _ rfl;have u3:=x0.cell 3 _ rfl;have f1:=x0.fr 1;have g1:IntKind.i64.wrap ((i:Int)+1)=(i:Int)+1:=IntWalk.i64_in _ (by omega);clear x2;go_enter Tryz.func58,Tryz.ntmps58;go_wp2_with fail
 have y:=Aw 77 77 w #[.slice D.A D.n D.c,.int .i64 ((i:Int)+1),.slice D.V D.m D.d,.bool D.known] #[.slice D.A D.n D.c,.int .i64 ((i:Int)+1),.slice D.V D.m D.d,.bool D.known];refine Ki rfl rfl y.2.1 rfl ?_;exact ⟨rfl,y.2.2.1⟩
theorem LD (D:CD) (i:Nat) (w:World) (h:Tp D w i):Calls Tryz.prog 60 #[.agg #[.slice D.A D.n D.c,.int .i64 (i:Int),.slice D.V D.m D.d,.bool D.known]] w (EM (AL (pt (hd D.ts i))) w):=by
 have hb0:=Ae w (.cells #[.slice D.A D.n D.c,.int .i64 (i:Int),.slice D.V D.m D.d,.bool D.known] 77);have x0:=Ao.new 77 w #[.slice D.A D.n D.c,.int .i64 (i:Int),.slice D.V D.m D.d,.bool D.known];have ha:=H8 D i _ (h.below hb0);have u0:=x0.cell 0 _ rfl;have u1:=x0.cell 1 _ rfl;have u2:=x0.cell 2 _ rfl;have u3:=x0.cell 3 _ rfl;have HB:=Aa hb0;have hz:=h.good.hd_small i;have HI:=Aa (show AL (pt (hd D.ts i))=((hd D.ts i).kind==1&&BK (hd D.ts i).text) from rfl)
 generalize AL (pt (hd D.ts i))=r at *;generalize hd D.ts i=t at *;obtain ⟨k,tx,l,c⟩:=t;unfold Ds at ha;dsimp only at ha HI hz
 clear h hb0 x0;by_cases h1:k=1
 · subst h1;have hn:=fun W=>Qx tx W hz
   have hr:r=BK tx:=(by rw[HI.out];simp);rw[<-hr]at hn;have HN:=Aa hn;clear HI hr hn;go_enter Tryz.func60,Tryz.ntmps60;go_wp2_with fail;refine ha.mono ?_;rintro e w1 ⟨rfl,b1⟩;have HB1:=Aa (HB.out.next b1);clear b1;go_wp2_with fail;refine (HN.out _).mono ?_;rintro e w2 ⟨rfl,kk,rfl⟩;go_wp2_with fail;go_ret
   exact ⟨rfl,(HB1.out.next (Ae _ _)).next (Ai _ _)⟩
 · have g1:((k:Int)==1)=false:=(by simp;omega);obtain rfl:r=false:=(by rw[HI.out];simp;omega);clear HI h1;go_enter Tryz.func60,Tryz.ntmps60;go_wp2_with fail;refine ha.mono ?_;rintro e w1 ⟨rfl,b1⟩;have HB1:=Aa (HB.out.next b1);clear b1;go_wp2_with fail;go_ret
   exact ⟨rfl,HB1.out.next (Ae _ _)⟩
theorem Qy (A:Option Addr) (n c:Nat) (xs:List ByteArray) (s:ByteArray) (w:World) (h:Gy w A n xs) (hn:n<=9223372036854775807):Calls Tryz.prog 80 #[.slice A n c,.string s] w (fun e w'=>e=.returned (.int .i64 (Cn xs s 0))/\w=w'):=by
 have HS:=Aa h;have H0:=Aa (show Cn xs s 0=Cn (xs.drop 0) s 0 from rfl);generalize Cn xs s 0=r at *;have hl:=h.1;clear h;go_enter Tryz.func80,Tryz.ntmps80;go_wp2_with fail;go_loop [5] (fun i=>∃k:Nat,k<=n/\i=.int .i64 k/\Hid (r=Cn (xs.drop k) s k)) (fun i=>n-(intOf i).toNat)
 case atStart=>exact ⟨0,Nat.zero_le _,rfl,H0⟩
 case round=>
  obtain ⟨k,hk,rfl,HK⟩:=hrel;by_cases hlt:k<n
  · obtain ⟨b,o,x,rfl,hb,hx,hc⟩:=HS.out.at_ hlt;have HX:=Aa (HK.out.trans (K0 xs s x k hx));clear hx;by_cases he:x=s
    · subst he;have hr:=HX.out.trans (if_pos rfl);subst hr;clear HK HX H0;go_wp2_with fail;go_ret
      exact ⟨rfl,rfl⟩
    · have h1:=Ei he;have HY:=Aa (HX.out.trans (if_neg he));clear HX HK he;go_wp2_with fail;go_round
      case rel=>exact ⟨k+1,by omega,by go_num,HY⟩
      case measure=>simp[intOf];omega
  · have hr:=HK.out.trans (Mk xs s k (by omega));subst hr;clear HK H0;go_wp2_with fail;go_ret
    exact ⟨rfl,rfl⟩
theorem Vx (A:Option Addr) (n c:Nat) (xs:List ByteArray) (s:ByteArray) (w:World) (h:Gy w A n xs) (hn:n<=9223372036854775807):Calls Tryz.prog 61 #[.slice A n c,.string s] w (fun e w'=>e=.returned (.bool (CY s xs))/\w=w'):=by
 have hi:=Qy A n c xs s w h hn;have h1:=OX xs s 0;generalize Cn xs s 0=r at *;clear h;cases hc:CY s xs with
 |true=>
  have h2:=h1.1 hc;have g:decide (r>=0)=true:=by simp;omega
  clear h1 hc;go_enter Tryz.func61,Tryz.ntmps61;go_wp2_with fail;refine hi.mono ?_;rintro e w1 ⟨rfl,rfl⟩;go_wp2_with fail;go_ret
  exact ⟨rfl,rfl⟩
 |false=>
  have h2:=h1.2.1 hc;subst h2;clear h1 hc;go_enter Tryz.func61,Tryz.ntmps61;go_wp2_with fail;refine hi.mono ?_;rintro e w1 ⟨rfl,rfl⟩;go_wp2_with fail;go_ret
  exact ⟨rfl,rfl⟩
theorem Vy (w:World):Calls Tryz.prog 167 #[.int .i64 0] w (fun e w'=>e=.returned (.string (CR 0))/\w=w'):=by
 simp only[CR];go_enter Tryz.func167,Tryz.ntmps167;go_wp2_with fail;go_ret
 exact ⟨rfl,rfl⟩
theorem Vz (w:World):Calls Tryz.prog 167 #[.int .i64 1] w (fun e w'=>e=.returned (.string (CR 1))/\w=w'):=by
 simp only[CR];go_enter Tryz.func167,Tryz.ntmps167;go_wp2_with fail;go_ret
 exact ⟨rfl,rfl⟩
theorem V0 (w:World):Calls Tryz.prog 167 #[.int .i64 2] w (fun e w'=>e=.returned (.string (CR 2))/\w=w'):=by
 simp only[CR];go_enter Tryz.func167,Tryz.ntmps167;go_wp2_with fail;go_ret
 exact ⟨rfl,rfl⟩
theorem V1 (w:World):Calls Tryz.prog 167 #[.int .i64 3] w (fun e w'=>e=.returned (.string (CR 3))/\w=w'):=by
 simp only[CR];go_enter Tryz.func167,Tryz.ntmps167;go_wp2_with fail;go_ret
 exact ⟨rfl,rfl⟩
theorem V3 (w:World):Calls Tryz.prog 167 #[.int .i64 4] w (fun e w'=>e=.returned (.string (CR 4))/\w=w'):=by
 simp only[CR];go_enter Tryz.func167,Tryz.ntmps167;go_wp2_with fail;go_ret
 exact ⟨rfl,rfl⟩
theorem V4 (w:World):Calls Tryz.prog 167 #[.int .i64 5] w (fun e w'=>e=.returned (.string (CR 5))/\w=w'):=by
 simp only[CR];go_enter Tryz.func167,Tryz.ntmps167;go_wp2_with fail;go_ret
 exact ⟨rfl,rfl⟩
end
section
open Go.RowKit
open Lx Ex
theorem OD {fn:Func} {p t:Tmp} (h:fn.results=#[.cell p 25,.tmp t]) (tmps:Array Value) (w:World) (g:Nat) (x y:Value)
  (hq:tmps.getD p undef=.pointer (some ⟨g,0,none⟩)) (hg:Ao 25 w g #[x,y]):(results fn tmps).run Tryz.prog w=.ok (.tuple #[.agg #[x,y],tmps.getD t undef]) w:=by
 have hq':tmps[p]?.getD undef=.pointer (some ⟨g,0,none⟩):=by simpa using hq
 simp[results,h,hq',asAddr,run_loadVar_row w g 25 25 #[x,y] (0,0) _ hg Tryz.underlying25 rfl (by kernel_rfl)]
theorem Gk {fn:Func} {R:Ending->World->Prop} {a:Act} {w:World} {g p t:Nat} {x y v:Value} (hres:fn.results=#[.cell p 25,.tmp t]) (hp:a.tmps.getD p undef=.pointer (some ⟨g,0,none⟩))
  (hv:a.tmps.getD t undef=v) (hb:Ao 25 w g #[x,y]) (hd:a.defers=[]) (hR:R (.returned (.tuple #[.agg #[x,y],v])) w):bodyPost Tryz.prog fn R .ret a w:=
 bodyPost_ret (by rw[OD hres _ _ g x y hp hb,hv]) hd hR
theorem Nm (a b c d:Value) (w:World):(Instr.field 118 (.agg #[a,b,c,d]) 0).run Tryz.prog w=.ok a w:=by kernel_rfl
theorem Qz (a b c d:Value) (w:World):(Instr.field 118 (.agg #[a,b,c,d]) 2).run Tryz.prog w=.ok (.agg #[c,d]) w:=by kernel_rfl
def CJ (k:Nat) (e:Nat):Nat:=if e=0 then (if k=5 then 0 else 101) else e
def Dj (k e l:Nat):Nat:=if CJ k e=0 then 0 else l
def IU (t:TK) (e0:Nat) (w:World) (e:Ending) (w':World):Prop:=
 e=.returned (.tuple #[.agg #[.int .i64 (Dj t.kind e0 t.line:Nat),.int .i64 (Dj t.kind e0 t.col:Nat)],.int .i64 (CJ t.kind e0:Nat)])/\Below w.heap.size w w'
theorem Ps (D:CD) (i e0:Nat) (w:World) (h:Tp D w i):Calls Tryz.prog 32 #[.agg #[.slice D.A D.n D.c,.int .i64 (i:Int),.slice D.V D.m D.d,.bool D.known],.int .i64 (e0:Int)] w (IU (hd D.ts i) e0 w):=by
  obtain ⟨x0,x1,x2,x3⟩:=Aw 77 25 w #[.slice D.A D.n D.c,.int .i64 (i:Int),.slice D.V D.m D.d,.bool D.known] #[.int .i64 0,.int .i64 0];have zW:=Nat.lt_of_lt_of_eq (show w.heap.size+1<w.heap.size+2 from by omega) x3.symm;have HB:=Aa x2;have X0:=Aa x0;have X1:=Aa x1;have HNX:=Aa (fun W (hW:Below w.heap.size w W)=>H8 D i W (h.below hW));unfold Ds at HNX
  have HP:=Aa (show ∀(l c k:Nat) w',Dj (hd D.ts i).kind e0 (hd D.ts i).line=l->Dj (hd D.ts i).kind e0 (hd D.ts i).col=c->CJ (hd D.ts i).kind e0=k->Below w.heap.size w w'->IU (hd D.ts i) e0 w (.returned (.tuple #[.agg #[.int .i64 (l:Nat),.int .i64 (c:Nat)],.int .i64 (k:Nat)])) w' from fun l c k w' h1 h2 h3 h4=>by
    subst h1 h2 h3;exact ⟨rfl,h4⟩)
  have u0:=x0.cell 0 _ rfl;have u1:=x0.cell 1 _ rfl;have u2:=x0.cell 2 _ rfl;have u3:=x0.cell 3 _ rfl;generalize hd D.ts i=t at *;obtain ⟨k,tx,l,c⟩:=t;dsimp only at HP HNX ⊢
  have HFK:=fun a b c d W=>Nm a b c d W
  have HFA:=fun a b c d W=>Qz a b c d W
  clear h x0 x1 x2 x3;by_cases he:e0=0
  · subst he;by_cases hk:k=5
    · subst hk;have HP:=Aa (HP.out 0 0 0 · rfl rfl rfl);go_enter Tryz.func32,Tryz.ntmps32;go_wp2_with fail;refine (HNX.out _ HB.out).mono ?_;rintro e w1 ⟨rfl,bq⟩;have HB1:=Aa (HB.out.next bq);have x1:=X1.out.next bq;clear bq u0 u1 u2 u3;go_wp2_with (with_reducible refine Ab rfl 25 _ _ rfl (w.heap.size+1) #[.int .i64 0,.int .i64 0] rfl rfl _ x1 (by kernel_rfl) rfl (by simp[Value.oneCell']) ?_;intro w9 k9 ho9);refine Gk rfl rfl rfl k9 rfl ?_
      exact HP.out _ (HB1.out.trans (ho9.below HB1.out.size (by omega)))
    · have gk:((k:Int) != 5)=true:=(by simp;omega);have ec:CJ k 0=101:=(by unfold CJ;rw[if_pos rfl,if_neg hk]);have HP:=Aa (HP.out l c 101 · (by unfold Dj;rw[ec];rfl) (by unfold Dj;rw[ec];rfl) ec);clear hk ec;go_enter Tryz.func32,Tryz.ntmps32;go_wp2_with fail;refine (HNX.out _ HB.out).mono ?_;rintro e w1 ⟨rfl,bq⟩;have HB1:=Aa (HB.out.next bq);have X0':=Aa (X0.out.next bq);have X1':=Aa (X1.out.next bq);clear bq u0 u1 u2 u3;have u0:=X0'.out.cell 0 _ rfl
      have u1:=X0'.out.cell 1 _ rfl;have u2:=X0'.out.cell 2 _ rfl;have u3:=X0'.out.cell 3 _ rfl;go_wp2_with fail;refine (HNX.out _ HB1.out).mono ?_;rintro e w2 ⟨rfl,bq⟩;have HB2:=Aa (HB1.out.next bq);have x1:=X1'.out.next bq;clear bq u0 u1 u2 u3;go_wp2_with (with_reducible refine Ab rfl 25 _ _ rfl (w.heap.size+1) #[.int .i64 (l:Int),.int .i64 (c:Int)] rfl rfl _ x1 (by kernel_rfl) rfl (by simp[Value.oneCell']) ?_;intro w9 k9 ho9);refine Gk rfl rfl rfl k9 rfl ?_
      exact HP.out _ (HB2.out.trans (ho9.below HB2.out.size (by omega)))
  · have g1:=Ch he;have g2:=CN he;have ec:CJ k e0=e0:=(by unfold CJ;rw[if_neg he]);have HP:=Aa (HP.out l c e0 · (by unfold Dj;rw[ec,if_neg he]) (by unfold Dj;rw[ec,if_neg he]) ec);clear he ec;go_enter Tryz.func32,Tryz.ntmps32;go_wp2_with fail;refine (HNX.out _ HB.out).mono ?_;rintro e w1 ⟨rfl,bq⟩;have HB1:=Aa (HB.out.next bq);have x1:=X1.out.next bq;clear bq u0 u1 u2 u3
    go_wp2_with (with_reducible refine Ab rfl 25 _ _ rfl (w.heap.size+1) #[.int .i64 (l:Int),.int .i64 (c:Int)] rfl rfl _ x1 (by kernel_rfl) rfl (by simp[Value.oneCell']) ?_;intro w9 k9 ho9);refine Gk rfl rfl rfl k9 rfl ?_;exact HP.out _ (HB1.out.trans (ho9.below HB1.out.size (by omega)))
end
section
open Go.RowKit
open Lx Ex
theorem Sv:(Tryz.prog.info? 9).map (fun i=>(i.zero,i.size,i.bytes))=some (some (.string ⟨#[]⟩),1,16):=by kernel_rfl
theorem LE:CQ (Value.string ⟨#[]⟩).cells.toList:=by show CQ [.string ⟨#[]⟩];intro u hu z e;simp at hu;subst hu;cases e
def Kj (xs:List ByteArray):List Value:=xs.map (.string ·)
theorem Sw (xs:List ByteArray):CQ (Kj xs):=by intro u hu z e;obtain ⟨s,_,rfl⟩:=List.mem_map.1 hu;cases e
theorem Sx (xs:List ByteArray):∀u∈Kj xs,u.oneCell'=true:=by intro u hu;obtain ⟨s,_,rfl⟩:=List.mem_map.1 hu;rfl
theorem Nn {xs:List ByteArray} {j:Nat} {s:ByteArray} (h:xs[j]?=some s):(Kj xs)[j]?=some (.string s):=by unfold Kj;rw[List.getElem?_map,h];rfl
def Fo (n:Nat) (xs:List ByteArray) (w:World) (e:Ending) (w':World):Prop:=
 ∃B d,e=.returned (.slice B n d)/\Gy w' B n xs/\n<=d/\d<=9223372036854775807/\Below w.heap.size w w'/\(0<n->∀a,B=some a->w.heap.size<=a.block)
theorem KP (A:Option Addr) (n c:Nat) (xs:List ByteArray) (w:World) (h:Gy w A n xs) (hA:A=none->n=0/\c=0) (hn:n<=1000000):Calls Tryz.prog 51 #[.slice A n c] w (Fo n xs w):=by
 have hl:=h.1;cases A with
 |none=>
  obtain ⟨rfl,rfl⟩:=hA rfl;have HP:=Aa (show Fo 0 xs w (.returned (.slice none 0 0)) w from ⟨none,0,rfl,⟨hl,fun hh=>absurd hh (by omega)⟩,by omega,by omega,Below.refl _ _,fun h0=>absurd h0 (by omega)⟩);clear h hA hl;have hcmp:=fun W=>Lib.run_eql_slice_nil (P:=Tryz.prog) W 47 9 none 0 0 0 0 Tryz.underlying47
  go_enter Tryz.func51,Tryz.ntmps51;go_wp2_with fail;go_ret
  exact HP.out
 |some ad=>
  obtain ⟨i0,hi0,hz0,hz1,hz2⟩:=info_parts Sv;have hb:=Ae w (.cells #[] 9);have hrow:=Am.lit (T:=9) (sz:=1) (w:=w) (base:=w.heap.size) #[] 0 (Nat.le_refl _) (by decide) rfl (fun u hu=>by cases hu);have HROW:=Aa hrow;have hnews:∀j u,(Kj xs)[j]?=some u->(w.alloc (.cells #[] 9)).cell? (ad.add j)=some u:=by
   intro j u hu;have hj:j<xs.length:=by
     rcases Nat.lt_or_ge j xs.length with q|q
     · exact q
     · rw[List.getElem?_eq_none (by simpa[Kj] using q)]at hu;cases hu
   obtain ⟨b,o,e,hlt,hc⟩:=(h.below hb).2 (by omega);injection e with e;subst e
   rw[addr_add];have h2:=Nn (List.getElem?_eq_getElem hj);rw[hu]at h2;injection h2 with h2;subst h2
   exact hc j _ (List.getElem?_eq_getElem hj)
  have HNW:=Aa hnews;have HP:=Aa (show ∀v' w',Am 9 1 w' w.heap.size v' (0+n) ([]++Kj xs)->Below w.heap.size w w'->Fo n xs w (.returned v') w' from by
   intro v' w' hv hw;rw[Nat.zero_add,List.nil_append]at hv;obtain ⟨B,d,rfl,h1,h2,-⟩:=hv.len;refine ⟨B,d,rfl,⟨hl,fun hn0=>?_⟩,h1,h2,hw,fun hn0 a ha=>?_⟩
   · obtain ⟨g,rfl,hb,hlt,hc⟩:=hv.cell hn0;exact ⟨g,0,rfl,hlt,fun j s hs=>by rw[Nat.zero_add];exact (hc j _ (Nn hs)).1⟩
   · obtain ⟨g,rfl,hb,hlt,hc⟩:=hv.cell hn0;injection ha with ha;subst ha;exact hb)
  have HB:=Aa hb;have hlen:(Kj xs).length=n*1:=by simp[Kj,hl]
  have HLN:=Aa hlen;clear h hA hrow hnews hlen hl;have hcmp:=fun W=>Lib.run_eql_slice_nil (P:=Tryz.prog) W 47 9 (some ad) n c 0 0 Tryz.underlying47
  go_enter Tryz.func51,Tryz.ntmps51;go_wp2_with (at_builtin;refine Bh rfl _ _ 47 rfl w.heap.size 9 i0 _ 1 16 Tryz.underlying47 hi0 hz0 hz1 hz2 rfl (by decide) LE _ 0 [] rfl HROW.out ad n c (Kj xs) rfl HLN.out HNW.out (Sx _) (Sw _) (by unfold maxLen;omega) (by omega) (by rw[World.size_alloc];omega) ?_;intro v' w' h1 h2;have HQ:=Aa (HP.out v' w' h1 (HB.out.trans (Am.back HROW.out h2 (Nat.le_refl _) HB.out.size))));go_ret
  exact HQ.out
end
section
open Go.RowKit
open Lx Ex
theorem Nc (p:Nat->Bool) (f:Nat->Nat) {n:Nat}:∀(m i:Nat),n-i=m->i<=n->∀q,i<=q->q<stop p f n i->p (f q)=true:=by
 intro m;induction m with
 |zero=>
  intro i hm hi q h1 h2;obtain rfl:i=n:=by omega
  rw[Ff]at h2;omega
 |succ m ih=>
  intro i hm hi q h1 h2;rw[BS p f (by omega)]at h2;by_cases hp:p (f i)=true
  · rw[if_pos hp]at h2;by_cases hq:q=i
    · rw[hq];exact hp
    · exact ih (i+1) (by omega) (by omega) q (by omega) h2
  · rw[if_neg hp]at h2;omega
theorem OE (p:Nat->Bool) (s:ByteArray):∀(m k:Nat),k+m=s.size->(∀q,k<=q->q<s.size->p (Ad s q)=true)->Bc p s k=true:=by
 intro m;induction m with
 |zero=>
   intro k hk _;obtain rfl:k=s.size:=by omega
   exact EI p s
 |succ m ih=> intro k hk h;rw[Dn (p:=p) (k:=k) (by omega),h k (Nat.le_refl _) (by omega),ih (k+1) (by omega) (fun q h1 h2=>h q (by omega) h2)];rfl
theorem Sy {s:ByteArray} {t:Tok} (h:Lx.Good (Ad s) s.size t) (h3:t.1=3):Do (s.extract t.2.1 t.2.2)=true:=by
 obtain ⟨h1,h2,h4,h5⟩:=h;obtain ⟨k,i,E⟩:=t;dsimp only at h1 h2 h4 h5 h3 ⊢
 subst h3;have hl:Cd (Ad s i)=false:=by
   cases hh:Cd (Ad s i) with
   |false=>rfl
   |true=>rw[AG,if_pos hh]at h5;cases h5
 have hd:Be (Ad s i)=true:=by
   rw[AG,if_neg (by rw[hl];decide)]at h5;cases hh:Be (Ad s i) with
   |true=>rfl
   |false=> rw[if_neg (by rw[hh];decide)]at h5;split at h5<;>cases h5
 have hE:E=stop Be (Ad s) s.size i:=by rw[h4,BI,if_neg (by rw[hl];decide),if_pos hd]
 have hge:=Fv Be (Ad s) (n:=s.size) (i:=i) (by omega);have hgt:=Ih (Ad s) h1;rw[<-h4]at hgt;unfold AQ at h2;rw[if_neg (by rw[hl];decide),if_pos hd,<-hE]at h2;have hz:(s.extract i E).size=E-i:=ext_size s i E (by omega) (by omega);have hb:∀q,q<E-i->Ad (s.extract i E) q=Ad s (i+q):=fun q hq=>by
   have:=Dm s i E q (by omega) (by omega);exact this
 have h60:¬60<E-i:=fun hh=>by rw[if_pos hh]at h2;cases h2
 rw[if_neg h60]at h2;have h48:¬(1<E-i/\Ad s i=48):=fun hh=>by rw[if_pos hh]at h2;cases h2
 unfold Do;rw[hz];have hall:Bc P4 (s.extract i E) 0=true:=by refine OE _ _ (E-i) 0 (by rw[hz];omega) (fun q _ hq=>?_);rw[hz]at hq;rw[KW (BN _ _),hb q hq];exact Nc (n:=s.size) Be (Ad s) _ i rfl (by omega) (i+q) (by omega) (by rw[<-hE];omega)
 rw[hall,Bool.and_true];have e0:Ad (s.extract i E) 0=Ad s i:=by rw[hb 0 (by omega)];rfl
 rw[e0];simp;refine ⟨⟨by omega,by omega⟩,?_⟩;rcases Nat.lt_or_ge 1 (E-i) with h9|h9
 · exact Or.inr (fun hh=>h48 ⟨h9,hh⟩)
 · exact Or.inl (by omega)
def Ag (s:ByteArray):List TK:=(Ap (Ad s) s.size).toks.map (tk s)
theorem I3 (s:ByteArray):(Ag s).length<=s.size+1:=by
 unfold Ag;rw[List.length_map];by_cases h:(Ap (Ad s) s.size).code=0
 · obtain ⟨hn,ts,h1,-,h3⟩:=EV h;have:=h3.lens ts 0 (Nat.zero_le _);rw[h1,List.length_append,List.length_cons,List.length_nil];omega
 · rw[Gi h];exact Nat.zero_le _
theorem KQ {s:ByteArray} (h:(Ap (Ad s) s.size).code=0):0<(Ag s).length:=by unfold Ag;obtain ⟨hn,ts,h1,-,h3⟩:=EV h;rw[List.length_map,h1];simp
theorem Hd (s:ByteArray):Jf (Ag s):=by
 intro t ht;unfold Ag at ht;by_cases hc:(Ap (Ad s) s.size).code=0
 · obtain ⟨hn,ts,h1,-,-⟩:=EV hc;rw[h1]at ht;simp at ht;rw[<-ht];rfl
 · rw[Gi hc]at ht;simp at ht
theorem Cy {s:ByteArray} {t:TK} (h:t∈Ag s):(t.kind=3->Do t.text=true)/\t.kind<10/\t.text.size<=s.size:=by
 unfold Ag at h;obtain ⟨u,hu,rfl⟩:=List.mem_map.1 h;by_cases hc:(Ap (Ad s) s.size).code=0
 · obtain ⟨hn,ts,h1,h2,-⟩:=EV hc;rw[h1]at hu;rcases List.mem_append.1 hu with hu|hu
   · have hg:=h2 u hu;refine ⟨fun h3=>Sy hg h3,?_,?_⟩
     · show u.1<10;rw[hg.2.2.2];have:=Jc (Ad s u.2.1);omega
     · show (s.extract u.2.1 u.2.2).size<=s.size;rw[ByteArray.size_extract];omega
   · simp at hu;subst hu;refine ⟨(fun h3=>by cases h3),(by show 5<10;decide),?_⟩;show (s.extract s.size s.size).size<=s.size;rw[ByteArray.size_extract];omega
 · rw[Gi hc]at hu;cases hu
end
section
open Go.RowKit
open Lx Ex
theorem Dc {k:Int} {kids:List GT} (hn:kids.length<=2) (h:∀t∈kids,FO t):FO (.mk k [] [] 0 ⟨#[]⟩ ⟨#[]⟩ kids):=
 FO.mk k 0 [] [] _ _ kids (Nat.zero_le _) (Nat.zero_le _) (by omega) (fun j t hj=>h t (List.mem_of_getElem? hj))
theorem Sz (t:Tr):∀lv,right lv t->FO (gt t):=by
 induction t with
 |leaf b=>intro lv _;exact Dc (by simp) (fun t ht=>by cases ht)
 |cmp l op r=>
  intro lv h;rw[right]at h;exact FO.mk _ _ _ _ _ _ _ (by have:=h.1.2.1;omega) (by have:=h.2.2.2.1;omega) (by simp) (fun j t hj=>by simp at hj)
 |deny a ih=>
  intro lv h;rw[right]at h;have h2:∃l2,right l2 a:=by
   split at h
   · exact ⟨_,h.2⟩
   · exact ⟨_,h.2⟩
  obtain ⟨l2,h2⟩:=h2;exact Dc (by simp) (fun t ht=>by simp at ht;subst ht;exact ih l2 h2)
 |both a b iha ihb=>
  intro lv h;rw[right]at h;obtain ⟨h1,h2⟩:=h;have e1:∃l2,right l2 a:=by
   split at h1
   · exact ⟨_,h1.2⟩
   · exact ⟨_,h1⟩
  have e2:∃l2,right l2 b:=by
   split at h2
   · exact ⟨_,h2.2⟩
   · exact ⟨_,h2⟩
  obtain ⟨l1,e1⟩:=e1;obtain ⟨l2,e2⟩:=e2;exact Dc (by simp) (fun t ht=>by
   simp at ht;rcases ht with rfl|rfl
   · exact iha l1 e1
   · exact ihb l2 e2)
 |any a b iha ihb=>
  intro lv h;rw[right]at h;obtain ⟨h1,h2⟩:=h;have e2:∃l2,right l2 b:=by
   split at h2
   · exact ⟨_,h2.2⟩
   · exact ⟨_,h2⟩
  obtain ⟨l2,e2⟩:=e2;exact Dc (by simp) (fun t ht=>by
   simp at ht;rcases ht with rfl|rfl
   · exact iha lv h1
   · exact ihb l2 e2)
theorem S8 {ts:List TK} {i:Nat} {t:TK} (h:t∈view ts i):t∈ts\/t=N7:=by
 unfold view at h;split at h
 · simp at h;exact Or.inr h
 · exact Or.inl (List.mem_of_mem_drop h)
theorem Np (s:ByteArray) (i:Nat):WF (rd (Ag s) i):=by
 intro p hp h3;unfold rd at hp;obtain ⟨t,ht,rfl⟩:=List.mem_map.1 hp;rcases S8 ht with h|h
 · exact (Cy h).1 h3
 · subst h;cases h3
theorem LF {kn:ByteArray->Bool} {s:ByteArray} {i lv:Nat} {t:Tr} {r1:List PT} (h:Ak kn .cond lv (rd (Ag s) i)=.ok t r1):FO (gt t):=
 Sz t lv (Oc (Np s i) h).1
theorem LG {kn:ByteArray->Bool} {s:ByteArray} {i:Nat} {l:List Mn} {r1:List PT} (h:AX kn (rd (Ag s) i)=.ok l r1):l.length<=64:=
 (Iv (Np s i) h).1.2.1
end
end Go.Proofs.YtgohmojcopajoaaGreatDoor
