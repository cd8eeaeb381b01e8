/- Texts of one seat, put together: ExprR9 ExprW3 ExprWi ExprWj. -/
import Derived.Test.YtgohmojcopajoaaGreatDoorP39
import Derived.Test.YtgohmojcopajoaaGreatDoorP40
import Derived.Test.YtgohmojcopajoaaGreatDoorP41
import Derived.Test.YtgohmojcopajoaaGreatDoorP36
import Derived.Test.YtgohmojcopajoaaGreatDoorP23
import Derived.Test.YtgohmojcopajoaaGreatDoorP25
import Derived.Test.YtgohmojcopajoaaGreatDoorP03
set_option linter.unusedVariables false
set_option linter.unusedSimpArgs false
set_option maxRecDepth 100000
set_option maxHeartbeats 16000000
namespace Go.Proofs.YtgohmojcopajoaaGreatDoor
section
open Go.RowKit
open Lx Ex
theorem SH (D:CD) (m:Nat):∀(i dp:Nat),dp<=60 ->
  (3*(rd D.ts i).length<=m->∀W,Tp D W i->Calls Tryz.prog 106 #[.agg #[.slice D.A D.n D.c,.int .i64 (i:Int),.slice D.V D.m D.d,.bool D.known],.int .i64 (dp:Int)] W (AM D (Ak D.kn .one (60-dp) (rd D.ts i)) i W)) /\
  (3*(rd D.ts i).length+1<=m->∀W,Tp D W i->Calls Tryz.prog 63 #[.agg #[.slice D.A D.n D.c,.int .i64 (i:Int),.slice D.V D.m D.d,.bool D.known],.int .i64 (dp:Int)] W (AM D (Ak D.kn .both (60-dp) (rd D.ts i)) i W)) /\
  (3*(rd D.ts i).length+2<=m->∀W,Tp D W i->Calls Tryz.prog 35 #[.agg #[.slice D.A D.n D.c,.int .i64 (i:Int),.slice D.V D.m D.d,.bool D.known],.int .i64 (dp:Int)] W (AM D (Ak D.kn .cond (60-dp) (rd D.ts i)) i W)):=by
 induction m with
 |zero=>intro i dp _;have:=Jg D.ts i;exact ⟨fun h=>by omega,fun h=>by omega,fun h=>by omega⟩
 |succ m ih=>
  intro i dp hdp;refine ⟨fun hl W hc=>?_,fun hl W hc=>?_,fun hl W hc=>?_⟩
  · refine SG D i dp W hc hdp (fun W2 h1 c2 hl2=>?_) (fun W2 h1 c2 hl2=>?_)
    · have:=(ih (i+1) (dp+1) (by omega)).1 (by omega) W2 c2;rw[show ((i+1:Nat):Int)=(i:Int)+1 from by omega,show ((dp+1:Nat):Int)=(dp:Int)+1 from by omega]at this;exact this
    · have:=(ih (i+1) (dp+1) (by omega)).2.2 (by omega) W2 c2;rw[show ((i+1:Nat):Int)=(i:Int)+1 from by omega,show ((dp+1:Nat):Int)=(dp:Int)+1 from by omega]at this;exact this
  · rw[El];exact QD D i dp W hc hdp (fun W2 j c2 hl2=>(ih j dp hdp).1 (by omega) W2 c2)
  · rw[F3];exact QE D i dp W hc hdp (fun W2 j c2 hl2=>(ih j dp hdp).2.1 (by omega) W2 c2)
theorem QF (D:CD) (i:Nat) (w:World) (h:Tp D w i):Calls Tryz.prog 35 #[.agg #[.slice D.A D.n D.c,.int .i64 (i:Int),.slice D.V D.m D.d,.bool D.known],.int .i64 0] w (AM D (Ak D.kn .cond 60 (rd D.ts i)) i w):=
 ((SH D _ i 0 (Nat.zero_le _)).2.2 (Nat.le_refl _) w h)
end
section
open Go.RowKit
open Lx Ex
def Gn {α:Type}:Out α->Nat
 |.ok _ _=>0
 |.err c _=>c
 |.fuel=>0
def Ya {α:Type}:Out α->List PT
 |.ok _ r=>r
 |.err _ r=>r
 |.fuel=>[]
def C8:Out (List Mn)->List Mn
 |.ok l _=>l
 |_=>[]
def Nr:Out Tr->GT
 |.ok t _=>gt t
 |_=>.mk 0 [] [] 0 ⟨#[]⟩ ⟨#[]⟩ []
def Cv {α:Type} (ts:List TK) (i:Nat) (o:Out α):Nat:=i+(rd ts i).length-(Ya o).length
theorem Aj.pos {D:CD} {i i':Nat} {r:List PT} (h:Aj D i r i'):i'=i+(rd D.ts i).length-r.length:=by have:=h.2;omega
theorem Ns {s:ByteArray} {kn:ByteArray->Bool} {i:Nat}:FO (Nr (Ak kn .cond 60 (rd (Ag s) i))):=by
 cases h:Ak kn .cond 60 (rd (Ag s) i) with
 |ok t r=>exact LF h
 |err c r=>exact Dc (by decide) (fun t h=>by cases h)
 |fuel=>exact Dc (by decide) (fun t h=>by cases h)
theorem QG {s:ByteArray} {kn:ByteArray->Bool} {i:Nat}:(C8 (AX kn (rd (Ag s) i))).length<=64:=by
 cases h:AX kn (rd (Ag s) i) with
 |ok t r=>exact LG h
 |err c r=>exact Nat.zero_le _
 |fuel=>exact Nat.zero_le _
theorem QH (D:CD) (i:Nat) (w:World) (ts:List TK) (kn:ByteArray->Bool) (h1:D.ts=ts) (h2:D.kn=kn) (h:Tp D w i) :
  Calls Tryz.prog 31 #[.agg #[.slice D.A D.n D.c,.int .i64 (i:Int),.slice D.V D.m D.d,.bool D.known]] w (fun e w'=>∃A c,e=.returned (.tuple #[.agg #[.slice D.A D.n D.c,.int .i64 (Cv ts i (AX kn (rd ts i)):Int),.slice D.V D.m D.d,.bool D.known],.slice A (C8 (AX kn (rd ts i))).length c,.int .i64 (Gn (AX kn (rd ts i)):Nat)]) /\
   De (AH w.heap.size) w' A (C8 (AX kn (rd ts i))).length (C8 (AX kn (rd ts i)))/\Cv ts i (AX kn (rd ts i))+(rd ts (Cv ts i (AX kn (rd ts i)))).length<=1099511627776/\Below w.heap.size w w'):=by
 subst h1 h2;refine (JF D i w h).mono ?_;intro e w' hp;unfold BQ at hp;cases ho:AX D.kn (rd D.ts i) with
 |ok l r1=>
  rw[ho]at hp;obtain ⟨i',A,c,he,-,-,hm,hs,hw⟩:=hp;have e1:Cv D.ts i (Out.ok l r1)=i':=hs.pos.symm;exact ⟨A,c,by rw[e1];exact he,hm,by rw[e1];exact (h.at_ hs).fits,hw⟩
 |err c r1=>
  rw[ho]at hp;obtain ⟨i',he,-,hs,hw⟩:=hp;have e1:Cv D.ts i (Out.err c r1:Out (List Mn))=i':=hs.pos.symm;exact ⟨none,0,by rw[e1];exact he,De.nil _ _ _,by rw[e1];exact (h.at_ hs).fits,hw⟩
 |fuel=>rw[ho]at hp;exact hp.elim
theorem OK (D:CD) (i:Nat) (w:World) (ts:List TK) (kn:ByteArray->Bool) (h1:D.ts=ts) (h2:D.kn=kn) (h:Tp D w i) :
   Calls Tryz.prog 35 #[.agg #[.slice D.A D.n D.c,.int .i64 (i:Int),.slice D.V D.m D.d,.bool D.known],.int .i64 0] w (fun e w'=>∃(kd:Int) (Al:Option Addr) (nl cl:Nat) (Ar:Option Addr) (nr cr:Nat) (op:Int) (p q:ByteArray) (A:Option Addr) (n c:Nat),e=.returned (.tuple #[.agg #[.slice D.A D.n D.c,.int .i64 (Cv ts i (Ak kn .cond 60 (rd ts i)):Int),.slice D.V D.m D.d,.bool D.known],.agg #[.int .i64 kd,.slice Al nl cl,.slice Ar nr cr,.int .i64 op,.string p,.string q,.slice A n c],.int .i64 (Gn (Ak kn .cond 60 (rd ts i)):Nat)]) /\
    Bq (AH w.heap.size) w' (Nr (Ak kn .cond 60 (rd ts i))) [.int .i64 kd,.slice Al nl cl,.slice Ar nr cr,.int .i64 op,.string p,.string q,.slice A n c]/\Cv ts i (Ak kn .cond 60 (rd ts i))+(rd ts (Cv ts i (Ak kn .cond 60 (rd ts i)))).length<=1099511627776/\Below w.heap.size w w'):=by
 subst h1 h2;refine (QF D i w h).mono ?_;rintro e w' ⟨i',code,kd,Al,nl,cl,Ar,nr,cr,op,p,q,A,n,c,he,hb,hor⟩;rcases hor with ⟨hc,t,r1,ho,hT,hs⟩|⟨cd,r1,hc,-,ho,hz,hs⟩
 · rw[ho];have e1:Cv D.ts i (Out.ok t r1)=i':=hs.pos.symm;subst hc;exact ⟨kd,Al,nl,cl,Ar,nr,cr,op,p,q,A,n,c,by rw[e1];exact he,hT,by rw[e1];exact (h.at_ hs).fits,hb⟩
 · rw[ho];have e1:Cv D.ts i (Out.err cd r1:Out Tr)=i':=hs.pos.symm;subst hc;rw[hz]at he;exact ⟨0,none,0,0,none,0,0,0,⟨#[]⟩,⟨#[]⟩,none,0,0,by rw[e1];exact he,Bq.leaf _ _ 0,by rw[e1];exact (h.at_ hs).fits,hb⟩
end
section
open Go.RowKit
open Lx Ex
theorem QI (D:CD) (g i:Nat) (w:World) (ts:List TK) (kn:ByteArray->Bool) (h1:D.ts=ts) (h2:D.kn=kn) (h:Ci D g w i) :
  Calls Tryz.prog 29 #[.pointer (some ⟨g,0,none⟩)] w (fun e w'=>∃A c,e=.returned (.tuple #[.slice A (C8 (AX kn (rd ts i))).length c,.int .i64 (Gn (AX kn (rd ts i)):Nat)]) /\
   (C8 (AX kn (rd ts i))).length<=c/\c<=9223372036854775807/\De (AH w.heap.size) w' A (C8 (AX kn (rd ts i))).length (C8 (AX kn (rd ts i)))/\AB D g (Cv ts i (AX kn (rd ts i))) w w'):=by
 subst h1 h2;refine (L8 D g i w h).mono ?_;intro e w' hp;unfold CM at hp;cases ho:AX D.kn (rd D.ts i) with
 |ok l r1=>
  rw[ho]at hp;obtain ⟨i',A,c,he,hc1,hc2,hm,hs,hw⟩:=hp;exact ⟨A,c,he,hc1,hc2,hm,by rw[show Cv D.ts i (Out.ok l r1)=i' from hs.pos.symm];exact hw⟩
 |err c r1=>
  rw[ho]at hp;obtain ⟨i',he,-,hs,hw⟩:=hp;exact ⟨none,0,he,Nat.le_refl _,by omega,De.nil _ _ _,by rw[show Cv D.ts i (Out.err c r1:Out (List Mn))=i' from hs.pos.symm];exact hw⟩
 |fuel=>rw[ho]at hp;exact hp.elim
structure P1 (g:Nat) (a b:Value) (w w':World):Prop where
 o:An g w w'
 p:Ao 25 w g #[a,b]->Ao 25 w' g #[a,b]
structure WH (W0:World) (g:Nat) (w:World):Prop where
 o:An g W0 w
 b:∃x y,Ao 25 w g #[x,y]
theorem P1.refl (g:Nat) (a b:Value) (w:World):P1 g a b w w:=⟨A0 (Below.refl _ _),fun h=>h⟩
def I5 (s:ByteArray) (kn:ByteArray->Bool) (w:World) (e:Ending) (w':World):Prop:=
 if (Ap (Ad s) s.size).code=0 then
  ∃A m c,e=.returned (.tuple #[.slice A m c,.agg #[.int .i64 (Dj (hd (Ag s) (Cv (Ag s) 0 (AX kn (rd (Ag s) 0)))).kind (Gn (AX kn (rd (Ag s) 0))) (hd (Ag s) (Cv (Ag s) 0 (AX kn (rd (Ag s) 0)))).line:Nat),.int .i64 (Dj (hd (Ag s) (Cv (Ag s) 0 (AX kn (rd (Ag s) 0)))).kind (Gn (AX kn (rd (Ag s) 0))) (hd (Ag s) (Cv (Ag s) 0 (AX kn (rd (Ag s) 0)))).col:Nat)],.int .i64 (CJ (hd (Ag s) (Cv (Ag s) 0 (AX kn (rd (Ag s) 0)))).kind (Gn (AX kn (rd (Ag s) 0))):Nat)]) /\
   m<=c/\c<=9223372036854775807/\De (AH w.heap.size) w' A m (if CJ (hd (Ag s) (Cv (Ag s) 0 (AX kn (rd (Ag s) 0)))).kind (Gn (AX kn (rd (Ag s) 0)))=0 then C8 (AX kn (rd (Ag s) 0)) else [])/\Below w.heap.size w w'
 else (e=.returned (.tuple #[.slice none 0 0,.agg #[.int .i64 ((AU s (Ap (Ad s) s.size)).1:Nat),.int .i64 ((AU s (Ap (Ad s) s.size)).2:Nat)],.int .i64 ((Ap (Ad s) s.size).code:Nat)]))/\Below w.heap.size w w'
theorem OL (s:ByteArray) (known:Bool) (A:Option Addr) (n c:Nat) (xs:List ByteArray) (w0:World) (hs:s.size<=9223372036854775807) (hx:Gy w0 A n xs) (hA:A=none->n=0/\c=0) (hn:n<=1000) :
   Calls Tryz.prog 28 #[.string s,.slice A n c,.bool known,.func (.func 29) #[] #[]] w0 (I5 s (fun x=>!known || CY x xs) w0):=by
 obtain ⟨x1,x3,x4⟩:=Ax 25 w0 #[.int .i64 0,.int .i64 0];have X1:=Aa x1;have B0:=Aa x3;have HX:=Aa (hx.below x3);have HL:=Aa (fun W=>LH s W (by omega));unfold EG at HL;have hfn:=fun W=>(show (binOp .eql 70 (.func (.func 29) #[] #[]) .nilFunc).run Tryz.prog W=.ok (.bool false) W from by kernel_rfl)
 clear x1 x3 hx;by_cases hc:(Ap (Ad s) s.size).code=0
 · have hs:=H9 hc;have HL2:=Aa (fun W=>SC s W hs hc);obtain ⟨ss,hss⟩:∃ss,AX (fun x=>!known || CY x xs) (rd (Ag s) 0)=ss:=⟨_,rfl⟩;obtain ⟨pp,hpp⟩:∃pp,Cv (Ag s) 0 ss=pp:=⟨_,rfl⟩;obtain ⟨th,hth⟩:∃th,hd (Ag s) pp=th:=⟨_,rfl⟩
   have HP:=Aa (show ∀A m c w' x y z,m<=c->c<=9223372036854775807->x=Dj th.kind (Gn ss) th.line->y=Dj th.kind (Gn ss) th.col->z=CJ th.kind (Gn ss)->De (AH w0.heap.size) w' A m (if CJ th.kind (Gn ss)=0 then C8 ss else [])->Below w0.heap.size w0 w'->I5 s (fun x=>!known || CY x xs) w0 (.returned (.tuple #[.slice A m c,.agg #[.int .i64 (x:Nat),.int .i64 (y:Nat)],.int .i64 (z:Nat)])) w' from fun A m c w' x y z h1 h2 h3 h4 h5 h6 h7=>by
     unfold I5;rw[if_pos hc,hss,hpp,hth];exact ⟨A,m,c,by rw[h3,h4,h5],h1,h2,h6,h7⟩)
   have HSS:=Aa hss;have HTHD:=Aa (show hd (Ag s) (Cv (Ag s) 0 (AX (fun x=>!known || CY x xs) (rd (Ag s) 0)))=th from by rw[hss,hpp,hth]);have hlen:=I3 s;have HPOS:=Aa (KQ hc);clear HL hc hss hpp hth;go_enter Tryz.func28,Tryz.ntmps28;go_wp2_with fail;generalize hW0:w0.alloc (.cells #[.int .i64 0,.int .i64 0] 25)=W0 at *;clear hW0;refine (HL2.out _).mono ?_;rintro e W1 ⟨A1,c1,rfl,bq,hc1,hc2,hk1,ha1⟩;generalize hnn:(Ag s).length=nn at *;have HNN:=Aa hnn
   have hb:=Ae W1 (.cells #[.int .i64 0,.int .i64 0] 25);have XQ:=Aa ((X1.out.next bq).next hb);have HX2:=Aa ((HX.out.below bq).below hb);have HK2:=Aa (hk1.below hb);have BB:=Aa ((B0.out.next bq).next hb);have hs1:=bq.size;have hs2:=hb.size;clear bq hb HL2 hk1 hnn;go_wp2_with fail;generalize hV:W1.alloc (.cells #[.int .i64 0,.int .i64 0] 25)=V at *;clear hV;refine (KP A n c xs V HX2.out hA (by omega)).mono ?_;rintro e W2 ⟨B,d,rfl,hx2,hd1,hd2,bq,hb1⟩
   obtain ⟨D,hD⟩:∃D:CD,D=⟨A1,nn,c1,Ag s,B,n,d,xs,known⟩:=⟨_,rfl⟩;have hb:=Ae W2 (.cells #[.slice A1 nn c1,.int .i64 0,.slice B n d,.bool known] 110);have XQ3:=Aa ((XQ.out.next bq).next hb);have BB3:=Aa ((BB.out.next bq).next hb);have HCU:=Aa (show Ci D W2.heap.size (W2.alloc (.cells #[.slice A1 nn c1,.int .i64 0,.slice B n d,.bool known] 110)) 0 from by
     subst hD;have hk2:=HK2.out.below bq;refine ⟨Ao.new 110 W2 _,hk2.below hb,hx2.below hb,⟨Hd s,fun h0 a ha=>?_,fun h0 a ha=>?_,hc1,hc2,hd1,hd2,by show nn<=1000000;omega,fun t ht=>by have:=(Cy ht).2.2;omega,fun t ht=>(Cy ht).2.1,fun t ht=>(Cy ht).1⟩,?_⟩
     · obtain ⟨b,o,e,hlt,-⟩:=hk2.2 h0;have ha':A1=some a:=ha;rw[ha']at e;injection e with e;subst e;exact Nat.ne_of_lt hlt
     · obtain ⟨b,o,e,hlt,-⟩:=hx2.2 h0;have ha':B=some a:=ha;rw[ha']at e;injection e with e;subst e;exact Nat.ne_of_lt hlt
     · have h9:(rd (Ag s) 0).length<=nn+1:=by
        rw[KX,<-HNN.out];unfold view;split
        · simp
        · rw[List.length_drop];omega
       show 0+(rd (Ag s) 0).length<=_;omega)
   have HAA:=Aa (show (0<D.n->∀a,D.A=some a->w0.heap.size<a.block)/\(0<D.m->∀a,D.V=some a->w0.heap.size<a.block) from by subst hD;refine ⟨fun h0 a ha=>by have:=ha1 h0 a ha;omega,fun h0 a ha=>?_⟩;have:=hb1 h0 a ha;omega)
   have HIN:=Aa (show D.ts=Ag s/\D.kn=(fun x=>!known || CY x xs) from by subst hD;exact ⟨rfl,rfl⟩);have hs3:=bq.size;have hs4:=hb.size;have hs5:=World.size_alloc W2 (.cells #[.slice A1 nn c1,.int .i64 0,.slice B n d,.bool known] 110);clear bq hb hx2 ha1 hb1 hD HNN HX2 HK2;go_wp2_with fail;generalize hW3:W2.alloc (.cells #[.slice A1 nn c1,.int .i64 0,.slice B n d,.bool known] 110)=W3 at *;clear hW3;generalize hgg:W2.heap.size=g at *;clear hgg
   have hsum:=QI D g 0 W3 (Ag s) (fun x=>!known || CY x xs) HIN.out.1 HIN.out.2 HCU.out;rw[HSS.out]at hsum;refine hsum.mono ?_;clear hsum;rintro e W4 ⟨A4,c4,rfl,hm1,hm2,hmi,hw⟩;have hlg:=HCU.out.lt;have XQ5:=Aa (XQ3.out.other hw.1 (by omega));have hsB:=BB3.out.size;have hs6:=hw.1.size;have BB5:=Aa (BB3.out.trans (hw.1.below hsB (by omega)));have C5:=Aa hw.2;have HMI:=Aa hmi;have HATx:=Aa (Gd D g _ W4 C5.out);unfold Ds at HATx;rw[HIN.out.1]at HATx
   have HAT0:=Aa (show hd (Ag s) (Cv (Ag s) 0 ss)=th from by rw[<-HSS.out];exact HTHD.out);rw[HAT0.out]at HATx;have HKND:=(fun a b c d W=>(show (Instr.field 113 (.agg #[a,b,c,d]) 0).run Tryz.prog W=.ok a W from by kernel_rfl));have HKN2:=(fun a b c d W=>(show (Instr.field 113 (.agg #[a,b,c,d]) 2).run Tryz.prog W=.ok (.agg #[c,d]) W from by kernel_rfl));have HAT2:=Aa (fun W (hb:Below W4.heap.size W4 W)=>Gd D g _ W (C5.out.below hb));unfold Ds at HAT2
   rw[HIN.out.1,HAT0.out]at HAT2;generalize C8 ss=os at *;generalize Gn ss=e0 at *;clear hw hmi B0 BB BB3 HAA XQ XQ3 X1 HX HCU C5 HIN HSS HTHD HAT0 HPOS hsB;by_cases h0:e0=0
   · subst h0;by_cases hk:th.kind=5
     · have gq:((th.kind:Int) != 5)=false:=(by rw[hk];rfl);have hE:CJ th.kind 0=0:=(by unfold CJ;rw[if_pos rfl,if_pos hk]);have HPP:=Aa (fun w' (hb:Below w0.heap.size w0 w') (hm:De (AH w0.heap.size) w' A4 os.length os)=>HP.out A4 os.length c4 w' 0 0 0 hm1 hm2 (by unfold Dj;rw[if_pos hE]) (by unfold Dj;rw[if_pos hE]) hE.symm (by rw[if_pos hE];exact hm) hb);clear hE HP;go_wp2_with fail;refine HATx.out.mono ?_;rintro e W6 ⟨rfl,b6⟩;have xq6:=XQ5.out.next b6
       have BB6:=Aa (BB5.out.next b6);have HM6:=Aa (HMI.out.keep (As.of_below b6));clear b6 BB5 XQ5 HATx HAT2;go_wp2_with (with_reducible refine Ab rfl 25 _ _ rfl w0.heap.size #[.int .i64 0,.int .i64 0] rfl rfl _ xq6 (by kernel_rfl) rfl (by simp[Value.oneCell']) ?_;intro w9 x9 o9);refine Av rfl rfl rfl rfl x9 rfl ?_
       exact HPP.out _ (BB6.out.trans (o9.below BB6.out.size (by omega))) ((HM6.out.keep (As.of_only' o9 (show ¬AH W3.heap.size w0.heap.size from by unfold AH;omega))).mono (by omega))
     · have gq:((th.kind:Int) != 5)=true:=(by simp;omega);have hE:CJ th.kind 0=101:=(by unfold CJ;rw[if_pos rfl,if_neg hk]);have HPP:=Aa (fun w' (hb:Below w0.heap.size w0 w')=>HP.out none 0 0 w' th.line th.col 101 (Nat.le_refl _) (by omega) (by unfold Dj;rw[hE];rfl) (by unfold Dj;rw[hE];rfl) hE.symm (by rw[hE];exact De.nil _ _ _) hb);clear hE HP hk;go_wp2_with fail;refine HATx.out.mono ?_;rintro e W6 ⟨rfl,b6⟩;have XQ6:=Aa (XQ5.out.next b6);have BB6:=Aa (BB5.out.next b6)
       have HAT3:=Aa (HAT2.out W6 b6);clear b6 BB5 XQ5 HATx HAT2;go_wp2_with fail;refine HAT3.out.mono ?_;rintro e W7 ⟨rfl,b7⟩;have xq7:=XQ6.out.next b7;have BB7:=Aa (BB6.out.next b7);clear b7 BB6 XQ6;go_wp2_with (with_reducible refine Ab rfl 25 _ _ rfl w0.heap.size #[.int .i64 (th.line:Int),.int .i64 (th.col:Int)] rfl rfl _ xq7 (by kernel_rfl) rfl (by simp[Value.oneCell']) ?_;intro w9 x9 o9);refine Av rfl rfl rfl rfl x9 rfl ?_
       exact HPP.out _ (BB7.out.trans (o9.below BB7.out.size (by omega)))
   · have hE:CJ th.kind e0=e0:=(by unfold CJ;rw[if_neg h0]);have HPP:=Aa (fun w' (hb:Below w0.heap.size w0 w')=>HP.out none 0 0 w' th.line th.col e0 (Nat.le_refl _) (by omega) (by unfold Dj;rw[hE,if_neg h0]) (by unfold Dj;rw[hE,if_neg h0]) hE.symm (by rw[hE,if_neg h0];exact De.nil _ _ _) hb);have gc:=Ch h0;have gc2:=CN h0;clear hE HP h0;go_wp2_with fail;refine HATx.out.mono ?_;rintro e W7 ⟨rfl,b7⟩;have xq7:=XQ5.out.next b7;have BB7:=Aa (BB5.out.next b7);clear b7 BB5 XQ5
     go_wp2_with (with_reducible refine Ab rfl 25 _ _ rfl w0.heap.size #[.int .i64 (th.line:Int),.int .i64 (th.col:Int)] rfl rfl _ xq7 (by kernel_rfl) rfl (by simp[Value.oneCell']) ?_;intro w9 x9 o9);refine Av rfl rfl rfl rfl x9 rfl ?_;exact HPP.out _ (BB7.out.trans (o9.below BB7.out.size (by omega)))
 · have HP:=Aa (show ∀(ps:Nat×Nat) (c:Nat) w',AU s (Ap (Ad s) s.size)=ps->(Ap (Ad s) s.size).code=c->Below w0.heap.size w0 w'->I5 s (fun x=>!known || CY x xs) w0 (.returned (.tuple #[.slice none 0 0,.agg #[.int .i64 (ps.1:Nat),.int .i64 (ps.2:Nat)],.int .i64 (c:Nat)])) w' from fun ps c w' h1 h2 hw=>by unfold I5;rw[if_neg hc,h1,h2];exact ⟨rfl,hw⟩);obtain ⟨ps,hps⟩:∃ps,AU s (Ap (Ad s) s.size)=ps:=⟨_,rfl⟩;rw[hps]at HL;have gc:=Ch hc
   obtain ⟨cd,hcde⟩:∃cd,(Ap (Ad s) s.size).code=cd:=⟨_,rfl⟩;rw[hcde]at HL gc;have HPS:=Aa hps;have HCD:=Aa hcde;clear hfn hc hps hcde;go_enter Tryz.func28,Tryz.ntmps28;go_wp2_with fail;generalize hW0:w0.alloc (.cells #[.int .i64 0,.int .i64 0] 25)=W0 at *;clear hW0;refine (HL.out _).mono ?_;rintro e W1 ⟨v1,rfl,bq,-⟩;have hb:=Ae W1 (.cells #[.int .i64 (ps.1:Nat),.int .i64 (ps.2:Nat)] 25);have xQ:=(X1.out.next bq).next hb
   have XP:=Aa (Ao.new 25 W1 #[.int .i64 (ps.1:Nat),.int .i64 (ps.2:Nat)]);have BB:=Aa ((B0.out.next bq).next hb);have hs1:=bq.size;clear bq hb HL;go_upto_region 4 with fail;generalize hV:W1.alloc (.cells #[.int .i64 (ps.1:Nat),.int .i64 (ps.2:Nat)] 25)=V at *;clear hV
   have SOF:=Aa (show ∀W,An (w0.heap.size) V W->(W.cell? ⟨W1.heap.size,0,none⟩=some (.int .i64 (ps.1:Nat))/\W.cell? ⟨W1.heap.size,1,none⟩=some (.int .i64 (ps.2:Nat))) from fun W h=>⟨(XP.out.other h (by omega)).cell 0 _ rfl,(XP.out.other h (by omega)).cell 1 _ rfl⟩)
   refine AJ (by kernel_rfl) (by kernel_rfl) (by kernel_rfl) (P1 (w0.heap.size) (.int .i64 (ps.1:Nat)) (.int .i64 (ps.2:Nat))) (fun j v w=>match j with|0=>v=.slice none 0 0|1=>v=.agg #[.int .i64 (ps.1:Nat),.int .i64 (ps.2:Nat)]|2=>v=.int .i64 (cd:Nat)|3=>v=.slice none 0 0|4=>Ao 25 w (w0.heap.size) #[.int .i64 (ps.1:Nat),.int .i64 (ps.2:Nat)]|5=>v=.int .i64 (cd:Nat)|_=>True) (fun _ _ w=>WH V (w0.heap.size) w) ?_ (fun _=>⟨A0 (Ai V 1),_,_,xQ⟩) ?_ ?_
   · intro j v w w' hT h;match j,h with
     |0,h=>exact h
     |1,h=>exact h
     |2,h=>exact h
     |3,h=>exact h
     |4,h=>exact hT.p h
     |5,h=>exact h
     |j+6,h=>trivial
   · refine ⟨?_,?_,?_,?_,?_,?_,trivial⟩
     · intro listed σ w a hin hout hl hc hp hG hF;refine Ac.none rfl ?_;have e11:a.tmps.getD 11 undef=.slice none 0 0:=hout 11 (Af (by kernel_rfl));refine Does.val (.slice none 0 0) (w':=w) ?_ ⟨P1.refl _ _ _ _,rfl,hG⟩;simp only[Array.getD_eq_getD_getElem?]at e11;go_simp
     · intro listed σ w a hin hout hl hc hp hG hF;refine Ac.none rfl ?_;have e13:a.tmps.getD 13 undef=.pointer (some ⟨W1.heap.size,0,none⟩):=hout 13 (Af (by kernel_rfl));have CC:=SOF.out w hG.o;obtain ⟨D0,D1⟩:=CC;refine Does.val (.agg #[.int .i64 (ps.1:Nat),.int .i64 (ps.2:Nat)]) (w':=w) ?_ ⟨P1.refl _ _ _ _,rfl,hG⟩;go_simp
     · intro listed σ w a hin hout hl hc hp hG hF;refine Ac.none rfl ?_;have e14:a.tmps.getD 14 undef=.int .i64 (cd:Nat):=hout 14 (Af (by kernel_rfl));refine Does.val (.int .i64 (cd:Nat)) (w':=w) ?_ ⟨P1.refl _ _ _ _,rfl,hG⟩;simp only[Array.getD_eq_getD_getElem?]at e14;go_simp
     · intro listed σ w a hin hout hl hc hp hG hF;refine Ac.none rfl ?_;have e26:a.tmps.getD 26 undef=.slice none 0 0:=(hin 0 26 rfl (hp ⟨0,.data⟩ (by simp) rfl)).trans (hF 0 (hp ⟨0,.data⟩ (by simp) rfl));refine Does.val (.slice none 0 0) (w':=w) ?_ ⟨P1.refl _ _ _ _,rfl,hG⟩;simp only[Array.getD_eq_getD_getElem?]at e26;go_simp
     · intro listed σ w a hin hout hl hc hp hG hF;refine Ac.none rfl ?_;have e9:a.tmps.getD 9 undef=.pointer (some ⟨w0.heap.size,0,none⟩):=hout 9 (Af (by kernel_rfl));have e27:a.tmps.getD 27 undef=.agg #[.int .i64 (ps.1:Nat),.int .i64 (ps.2:Nat)]:=(hin 1 27 rfl (hp ⟨1,.data⟩ (by simp) rfl)).trans (hF 1 (hp ⟨1,.data⟩ (by simp) rfl));obtain ⟨_,_,bb⟩:=hG.b
       refine Does.store_boxE (T:=25) (cells:=#[.int .i64 (ps.1:Nat),.int .i64 (ps.2:Nat)]) rfl e9 e27 bb (by kernel_rfl) rfl (by simp[Value.oneCell']) (fun w2 x9 o9 z9=>?_);exact ⟨⟨o9,fun _=>x9⟩,x9,⟨hG.o.trans o9,⟨_,_,x9⟩⟩⟩
     · intro listed σ w a hin hout hl hc hp hG hF;refine Ac.none rfl ?_;have e28:a.tmps.getD 28 undef=.int .i64 (cd:Nat):=(hin 2 28 rfl (hp ⟨2,.data⟩ (by simp) rfl)).trans (hF 2 (hp ⟨2,.data⟩ (by simp) rfl));refine Does.val (.int .i64 (cd:Nat)) (w':=w) ?_ ⟨P1.refl _ _ _ _,rfl,hG⟩;simp only[Array.getD_eq_getD_getElem?]at e28;go_simp
   · intro listed σ W9 hall hG hF;rw[show mid _ σ listed _=(Act.put (Act.put (Act.put (Act.put (Act.put (Act.put _ (some 26) (σ 0)) (some 27) (σ 1)) (some 28) (σ 2)) (some 8) (σ 3)) none (σ 4)) (some 10) (σ 5)) from (AZ hall).trans rfl];generalize σ 0=tt0;generalize σ 1=tt1;generalize σ 2=tt2;rw[show σ 3=.slice none 0 0 from hF 3 (by decide)];rw[show σ 5=.int .i64 (cd:Nat) from hF 5 (by decide)]
     simp only[Act.put,List.setIfInBounds_toArray,List.set_cons_zero,List.set_cons_succ];have TG:=(⟨hG.o,hF 4 (by decide)⟩:An (w0.heap.size) V W9/\Ao 25 W9 (w0.heap.size) #[.int .i64 (ps.1:Nat),.int .i64 (ps.2:Nat)]);clear hF hG hall;clear σ;obtain ⟨TO,xb⟩:=TG;have HPP:=Aa (HP.out ps cd W9 HPS.out HCD.out (BB.out.trans (TO.below BB.out.size (by omega))));clear SOF TO;go_wp2_with fail;refine Av rfl rfl rfl rfl xb rfl ?_;exact HPP.out
end
section
open Go.RowKit
open Lx Ex
def G3 (s:ByteArray):GT×Nat×Nat×Nat:=
 if (Ap (Ad s) s.size).code=0 then
  (if CJ (hd (Ag s) (Cv (Ag s) 0 (Ak (fun _=>true) .cond 60 (rd (Ag s) 0)))).kind (Gn (Ak (fun _=>true) .cond 60 (rd (Ag s) 0)))=0 then Nr (Ak (fun _=>true) .cond 60 (rd (Ag s) 0)) else zG,
   Dj (hd (Ag s) (Cv (Ag s) 0 (Ak (fun _=>true) .cond 60 (rd (Ag s) 0)))).kind (Gn (Ak (fun _=>true) .cond 60 (rd (Ag s) 0))) (hd (Ag s) (Cv (Ag s) 0 (Ak (fun _=>true) .cond 60 (rd (Ag s) 0)))).line,
   Dj (hd (Ag s) (Cv (Ag s) 0 (Ak (fun _=>true) .cond 60 (rd (Ag s) 0)))).kind (Gn (Ak (fun _=>true) .cond 60 (rd (Ag s) 0))) (hd (Ag s) (Cv (Ag s) 0 (Ak (fun _=>true) .cond 60 (rd (Ag s) 0)))).col,
   CJ (hd (Ag s) (Cv (Ag s) 0 (Ak (fun _=>true) .cond 60 (rd (Ag s) 0)))).kind (Gn (Ak (fun _=>true) .cond 60 (rd (Ag s) 0))))
 else (zG,(AU s (Ap (Ad s) s.size)).1,(AU s (Ap (Ad s) s.size)).2,(Ap (Ad s) s.size).code)
def He (s:ByteArray):List Mn×Nat×Nat×Nat:=
 if (Ap (Ad s) s.size).code=0 then
  (if CJ (hd (Ag s) (Cv (Ag s) 0 (AX (fun _=>true) (rd (Ag s) 0)))).kind (Gn (AX (fun _=>true) (rd (Ag s) 0)))=0 then C8 (AX (fun _=>true) (rd (Ag s) 0)) else [],
   Dj (hd (Ag s) (Cv (Ag s) 0 (AX (fun _=>true) (rd (Ag s) 0)))).kind (Gn (AX (fun _=>true) (rd (Ag s) 0))) (hd (Ag s) (Cv (Ag s) 0 (AX (fun _=>true) (rd (Ag s) 0)))).line,
   Dj (hd (Ag s) (Cv (Ag s) 0 (AX (fun _=>true) (rd (Ag s) 0)))).kind (Gn (AX (fun _=>true) (rd (Ag s) 0))) (hd (Ag s) (Cv (Ag s) 0 (AX (fun _=>true) (rd (Ag s) 0)))).col,
   CJ (hd (Ag s) (Cv (Ag s) 0 (AX (fun _=>true) (rd (Ag s) 0)))).kind (Gn (AX (fun _=>true) (rd (Ag s) 0))))
 else ([],(AU s (Ap (Ad s) s.size)).1,(AU s (Ap (Ad s) s.size)).2,(Ap (Ad s) s.size).code)
def JG (r:GT×Nat×Nat×Nat) (w:World) (e:Ending) (w':World):Prop:=∃(kd:Int) (Al:Option Addr) (nl cl:Nat) (Ar:Option Addr) (nr cr:Nat) (op:Int) (p q:ByteArray) (A:Option Addr) (n c:Nat),e=.returned (.tuple #[.agg #[.int .i64 kd,.slice Al nl cl,.slice Ar nr cr,.int .i64 op,.string p,.string q,.slice A n c],.agg #[.int .i64 (r.2.1:Nat),.int .i64 (r.2.2.1:Nat)],.int .i64 (r.2.2.2:Nat)])/\Bq (AH w.heap.size) w' r.1 [.int .i64 kd,.slice Al nl cl,.slice Ar nr cr,.int .i64 op,.string p,.string q,.slice A n c]/\Below w.heap.size w w'
def SI (r:List Mn×Nat×Nat×Nat) (w:World) (e:Ending) (w':World):Prop:=∃(A:Option Addr) (c:Nat),e=.returned (.tuple #[.slice A r.1.length c,.agg #[.int .i64 (r.2.1:Nat),.int .i64 (r.2.2.1:Nat)],.int .i64 (r.2.2.2:Nat)])/\r.1.length<=c/\c<=9223372036854775807/\De (AH w.heap.size) w' A r.1.length r.1/\Below w.heap.size w w'
theorem Pu:(fun x:ByteArray=>!false || CY x [])=fun _=>true:=by funext x;rfl
theorem LJ (w:World):Gy w none 0 []:=⟨rfl,fun h=>absurd h (by omega)⟩
theorem V8 (s:ByteArray) (w:World) (hs:s.size<=9223372036854775807) (htab:Bj w):Calls Tryz.prog 33 #[.string s,.slice none 0 0,.bool false,.func (.func 34) #[] #[]] w (JG (G3 s) w):=by
 refine (QC s false none 0 0 [] w hs (LJ w) (fun _=>⟨rfl,rfl⟩) (by omega) htab).mono ?_;intro e w' hp;rw[Pu]at hp;unfold KR at hp;unfold JG G3;by_cases hc:(Ap (Ad s) s.size).code=0
 · rw[if_pos hc]at hp;rw[if_pos hc];obtain ⟨i',e0,kd,Al,nl,cl,Ar,nr,cr,op,p,q,A,n,c,he,hb,hor⟩:=hp;rcases hor with ⟨hc0,t,r1,ho,hr,hs,hT⟩|⟨hc0,r1,ho,hr,hs,hT⟩
   · rw[ho];have e1:Cv (Ag s) 0 (Out.ok t r1)=i':=(by show 0+_-r1.length=i';omega);subst hc0;rw[e1];exact ⟨kd,Al,nl,cl,Ar,nr,cr,op,p,q,A,n,c,he,hT,hb⟩
   · rw[ho];have e1:Cv (Ag s) 0 (Out.err e0 r1:Out Tr)=i':=(by show 0+_-r1.length=i';omega);rw[e1];refine ⟨kd,Al,nl,cl,Ar,nr,cr,op,p,q,A,n,c,he,?_,hb⟩;have h9:¬CJ (hd (Ag s) i').kind (Gn (Out.err e0 r1:Out Tr))=0:=(by show ¬CJ _ e0=0;unfold CJ;rw[if_neg hc0];exact hc0);rw[if_neg h9];exact hT
 · rw[if_neg hc]at hp;rw[if_neg hc];obtain ⟨he,hb⟩:=hp;exact ⟨0,none,0,0,none,0,0,0,⟨#[]⟩,⟨#[]⟩,none,0,0,he,Bq.leaf _ _ 0,hb⟩
theorem V9 (s:ByteArray) (w:World) (hs:s.size<=9223372036854775807):Calls Tryz.prog 28 #[.string s,.slice none 0 0,.bool false,.func (.func 29) #[] #[]] w (SI (He s) w):=by
 refine (OL s false none 0 0 [] w hs (LJ w) (fun _=>⟨rfl,rfl⟩) (by omega)).mono ?_;intro e w' hp;rw[Pu]at hp;unfold I5 at hp;unfold SI He;by_cases hc:(Ap (Ad s) s.size).code=0
 · rw[if_pos hc]at hp;rw[if_pos hc];obtain ⟨A,m,c,he,h1,h2,hm,hb⟩:=hp;obtain rfl:m=_:=hm.1.symm;exact ⟨A,c,he,h1,h2,hm,hb⟩
 · rw[if_neg hc]at hp;rw[if_neg hc];obtain ⟨he,hb⟩:=hp;exact ⟨none,0,he,Nat.le_refl _,by omega,De.nil _ _ _,hb⟩
theorem Ic (s:ByteArray) (w0:World) (hs:s.size<=9223372036854775807):Calls Tryz.prog 9 #[.string s] w0 (SI (He s) w0):=by
 obtain ⟨x1,hb,-⟩:=Ax 25 w0 #[.int .i64 0,.int .i64 0];have X1:=Aa x1;have HB:=Aa hb;have HW:=Aa (fun W=>V9 s W hs);generalize He s=r at *;clear x1 hb;go_enter Tryz.func9,Tryz.ntmps9;go_wp2_with fail;generalize hW0:w0.alloc (.cells #[.int .i64 0,.int .i64 0] 25)=W0 at *;clear hW0;refine (HW.out _).mono ?_;rintro e w2 ⟨A,c,rfl,h1,h2,hm,b2⟩;have y1:=X1.out.next b2;have HB2:=Aa (HB.out.next b2);have hlt:=X1.out.lt;have hsz:=HB.out.size;clear b2
 go_wp2_with (with_reducible refine Ab rfl 25 _ _ rfl w0.heap.size #[.int .i64 (r.2.1:Nat),.int .i64 (r.2.2.1:Nat)] rfl rfl _ y1 (by kernel_rfl) rfl (by simp[Value.oneCell']) ?_;intro w9 x9 o9);refine Av rfl rfl rfl rfl x9 rfl ?_;exact ⟨A,c,rfl,h1,h2,((hm.keep (As.of_only' o9 (show ¬AH W0.heap.size w0.heap.size from by unfold AH;omega))).mono hsz),HB2.out.trans (o9.below HB2.out.size (by omega))⟩
theorem Fc (s:ByteArray) (w0:World) (hs:s.size<=9223372036854775807) (htab:Bj w0):Calls Tryz.prog 11 #[.string s] w0 (JG (G3 s) w0):=by
 obtain ⟨x0,x1,hb,hsz⟩:=Aw 33 25 w0 #[.int .i64 0,.slice none 0 0,.slice none 0 0,.int .i64 0,.string ⟨#[]⟩,.string ⟨#[]⟩,.slice none 0 0] #[.int .i64 0,.int .i64 0];have X0:=Aa x0;have X1:=Aa x1;have HB:=Aa hb;have HW:=Aa (fun W (hW:Below w0.heap.size w0 W)=>V8 s W hs (htab.below hW));generalize G3 s=r at *;clear x0 x1 hb htab;go_enter Tryz.func11,Tryz.ntmps11;go_wp2_with fail
 generalize hW0:(w0.alloc (.cells #[.int .i64 0,.slice none 0 0,.slice none 0 0,.int .i64 0,.string ⟨#[]⟩,.string ⟨#[]⟩,.slice none 0 0] 33)).alloc (.cells #[.int .i64 0,.int .i64 0] 25)=W0 at *;clear hW0;refine (HW.out _ HB.out).mono ?_;rintro e w2 ⟨kd,Al,nl,cl,Ar,nr,cr,op,p,q,A,n,c,rfl,hT,b2⟩;have y0:=X0.out.next b2;have Y1:=Aa (X1.out.next b2);have HB2:=Aa (HB.out.next b2);have HT:=Aa hT;have hs2:W0.heap.size<=w2.heap.size:=b2.size;clear b2 hT;go_wp2_with (first
  |(with_reducible refine Ab rfl 33 _ _ rfl w0.heap.size #[.int .i64 kd,.slice Al nl cl,.slice Ar nr cr,.int .i64 op,.string p,.string q,.slice A n c] rfl rfl _ y0 (by kernel_rfl) rfl (by simp[Value.oneCell']) ?_;intro w8 x8 o8)
  |(with_reducible refine Ab rfl 25 _ _ rfl (w0.heap.size+1) #[.int .i64 (r.2.1:Nat),.int .i64 (r.2.2.1:Nat)] rfl rfl _ (Y1.out.other o8 (by omega)) (by kernel_rfl) rfl (by simp[Value.oneCell']) ?_;intro w9 x9 o9))
 have hk9:=(K2.fst (q:=w0.heap.size+1) o8).trans (K2.snd o9);refine Cm rfl rfl rfl rfl (x8.other o9 (by omega)) x9 rfl ?_;exact ⟨kd,Al,nl,cl,Ar,nr,cr,op,p,q,A,n,c,rfl,(HT.out.keep (hk9.keep (by unfold AH;omega) (by unfold AH;omega))).mono (by omega),HB2.out.trans (hk9.below HB2.out.size (by omega) (by omega))⟩
end
end Go.Proofs.YtgohmojcopajoaaGreatDoor
