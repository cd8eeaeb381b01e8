/- Texts of one seat, put together: ExprR3 ExprR4 ExprR5 ExprR6 ExprR7 ExprR8 ExprR9 ExprW3 ExprWi ExprWj ExprWq ExprAl ExprAm. -/
import Derived.Test.YtgohmojcopajoaaGreatDoorH31
import Derived.Test.YtgohmojcopajoaaGreatDoorH24
import Derived.Test.YtgohmojcopajoaaGreatDoorH08
import Derived.Test.YtgohmojcopajoaaGreatDoorH33
import Derived.Test.YtgohmojcopajoaaGreatDoorH25
import Derived.Test.YtgohmojcopajoaaGreatDoorH03
import Derived.Test.YtgohmojcopajoaaGreatDoorH30
set_option linter.unusedVariables false
set_option linter.unusedSimpArgs false
set_option maxRecDepth 100000
set_option maxHeartbeats 16000000
namespace Go.Proofs.YtgohmojcopajoaaGreatDoor
section
open Go.RowKit
open Lx Ex
def XW (D:CD) (i:Nat) (w:World) (e:Ending) (w':World):Prop:=
 match Bv D.kn (rd D.ts i) with
 |.ok l r1=>∃(i':Nat) (A:Option Addr) (c:Nat),e=.returned (.tuple #[.agg #[.slice D.A D.n D.c,.int .i64 (i':Int),.slice D.V D.m D.d,.bool D.known],.slice A l.length c,.int .i64 0])/\l.length<=c/\c<=9223372036854775807/\Du (BG w.heap.size) w' A l.length l/\Aq D i r1 i'/\Below w.heap.size w w'
 |.err c r1=>∃i':Nat,e=.returned (.tuple #[.agg #[.slice D.A D.n D.c,.int .i64 (i':Int),.slice D.V D.m D.d,.bool D.known],.slice none 0 0,.int .i64 (c:Nat)])/\c≠0/\Aq D i r1 i'/\Below w.heap.size w w'
 |.fuel=>False
structure SS (D:CD) (w W:World) (v:Value) (acc:List Mn) (x:Nat):Prop where
 B:Below w.heap.size w W
 L:Ak 88 3 W (w.heap.size+2) v acc.length (Cs acc)
 R:Am 77 W (w.heap.size+1) #[.slice none 0 0,.int .i64 0,.slice none 0 0,.bool false]
 T:Am 77 W w.heap.size #[.slice D.A D.n D.c,.int .i64 (x:Int),.slice D.V D.m D.d,.bool D.known]
def XX (kn:ByteArray->Bool) (num:ByteArray):List PT->Out Mn
 |[]=>.err 101 []
 |p::r=>if Br p=true then (if kn p.2=true then .ok ⟨num,p.2,false⟩ r else .err 110 (p::r)) else .err 101 (p::r)
def Zz (kn:ByteArray->Bool) (num:ByteArray) (r:List PT):Out Mn:=
 if (decide (num=⟨#[]⟩) || AV ⟨#[42]⟩ r)=true then XX kn num (if num=⟨#[]⟩ then r else r.tail) else .ok ⟨num,⟨#[]⟩,false⟩ r
structure YA (D:CD) (i:Nat) (w wr:World) (v:Value) (neg:Bool) (i' m:Nat) (acc:List Mn):Prop where
 row:Ak 88 3 wr (w.heap.size+2) v acc.length (Cs acc)
 tape:Am 77 wr w.heap.size #[.slice D.A D.n D.c,.int .i64 (i':Int),.slice D.V D.m D.d,.bool D.known]
 res:Am 77 wr (w.heap.size+1) #[.slice none 0 0,.int .i64 0,.slice none 0 0,.bool false]
 bel:Below w.heap.size w wr
 st:Aq D i (rd D.ts i') i'
 eq:Bv D.kn (rd D.ts i)=Da D.kn m neg acc (rd D.ts i')
 more:(rd D.ts i').length<m
 few:acc.length<=64
end
section
open Go.RowKit
open Lx Ex
def To (D:CD) (o:Out Tr) (i:Nat) (w:World) (e:Ending) (w':World):Prop:=
 ∃(i':Nat) (code:Int) (kd:Int) (Al:Option Addr) (nl cl:Nat) (Ar:Option Addr) (nr cr:Nat) (op:Int) (p q:ByteArray) (A:Option Addr) (n c:Nat),
  e=.returned (.tuple #[.agg #[.slice D.A D.n D.c,.int .i64 (i':Int),.slice D.V D.m D.d,.bool D.known],.agg #[.int .i64 kd,.slice Al nl cl,.slice Ar nr cr,.int .i64 op,.string p,.string q,.slice A n c],.int .i64 code])/\Below w.heap.size w w' /\
   ((code=0/\∃t r1,o=.ok t r1/\AW (BG w.heap.size) w' (gt t) [.int .i64 kd,.slice Al nl cl,.slice Ar nr cr,.int .i64 op,.string p,.string q,.slice A n c]/\Aq D i r1 i')\/(∃cd r1,code=((cd:Nat):Int)/\cd≠0/\o=.err cd r1/\#[.int .i64 kd,.slice Al nl cl,.slice Ar nr cr,.int .i64 op,.string p,.string q,.slice A n c]=(#[.int .i64 0,.slice none 0 0,.slice none 0 0,.int .i64 0,.string ⟨#[]⟩,.string ⟨#[]⟩,.slice none 0 0]:Array Value)/\Aq D i r1 i'))
def ZO (r:List PT):Nat->Int
 |0=>-1
 |k+1=>if AV (Ff k) r=true then (k:Int) else ZO r k
end
section
open Go.RowKit
open Lx Ex
def Zd (D:CD) (gT i lv:Nat) (go:Tr->Md) (O:Out Tr) (w wr:World) (code:Int):Prop:=
 ∃(i':Nat) (kd:Int) (Al:Option Addr) (nl cl:Nat) (Ar:Option Addr) (nr cr:Nat) (op:Int) (p q:ByteArray) (A:Option Addr) (n c:Nat),
  Am 33 wr gT #[.int .i64 kd,.slice Al nl cl,.slice Ar nr cr,.int .i64 op,.string p,.string q,.slice A n c]/\Am 77 wr w.heap.size #[.slice D.A D.n D.c,.int .i64 (i':Int),.slice D.V D.m D.d,.bool D.known]/\Am 77 wr (w.heap.size+1) #[.slice none 0 0,.int .i64 0,.slice none 0 0,.bool false]/\Am 33 wr (w.heap.size+1+1) #[.int .i64 0,.slice none 0 0,.slice none 0 0,.int .i64 0,.string ⟨#[]⟩,.string ⟨#[]⟩,.slice none 0 0]/\Below w.heap.size w wr /\
   (
    (code=0/\∃t,AW (Zt (w.heap.size+3) gT) wr (gt t) [.int .i64 kd,.slice Al nl cl,.slice Ar nr cr,.int .i64 op,.string p,.string q,.slice A n c]/\Aq D i (rd D.ts i') i'/\O=As D.kn (go t) lv (rd D.ts i')/\(rd D.ts i').length<=(rd D.ts i).length) \/
    (∃cd r1,code=((cd:Nat):Int)/\cd≠0/\Aq D i r1 i'/\O=.err cd r1))
end
section
open Go.RowKit
open Lx Ex
end
section
open Go.RowKit
open Lx Ex
end
section
open Go.RowKit
open Lx Ex
end
section
open Go.RowKit
open Lx Ex
end
section
open Go.RowKit
open Lx Ex
def Ms {α:Type}:Out α->Nat
 |.ok _ _=>0
 |.err c _=>c
 |.fuel=>0
def ZP {α:Type}:Out α->List PT
 |.ok _ r=>r
 |.err _ r=>r
 |.fuel=>[]
def ID:Out (List Mn)->List Mn
 |.ok l _=>l
 |_=>[]
def Ya:Out Tr->GT
 |.ok t _=>gt t
 |_=>.mk 0 [] [] 0 ⟨#[]⟩ ⟨#[]⟩ []
def DW {α:Type} (ts:List TK) (i:Nat) (o:Out α):Nat:=i+(rd ts i).length-(ZP o).length
theorem Aq.pos {D:CD} {i i':Nat} {r:List PT} (h:Aq D i r i'):i'=i+(rd D.ts i).length-r.length:=by have:=h.2;omega
end
section
open Go.RowKit
open Lx Ex
theorem Ry (D:CD) (g i:Nat) (w:World) (ts:List TK) (kn:ByteArray->Bool) (h1:D.ts=ts) (h2:D.kn=kn) (h:Cg D g w i) :
  Calls Tryz.prog 29 #[.pointer (some ⟨g,0,none⟩)] w (fun e w'=>∃A c,e=.returned (.tuple #[.slice A (ID (Bv kn (rd ts i))).length c,.int .i64 (Ms (Bv kn (rd ts i)):Nat)]) /\
   (ID (Bv kn (rd ts i))).length<=c/\c<=9223372036854775807/\Du (BG w.heap.size) w' A (ID (Bv kn (rd ts i))).length (ID (Bv kn (rd ts i)))/\AB D g (DW ts i (Bv kn (rd ts i))) w w'):=by
 subst h1 h2;refine (Mk D g i w h).mono ?_;intro e w' hp;unfold CN at hp;cases ho:Bv D.kn (rd D.ts i) with
 |ok l r1=>
  rw[ho]at hp;obtain ⟨i',A,c,he,hc1,hc2,hm,hs,hw⟩:=hp;exact ⟨A,c,he,hc1,hc2,hm,by rw[show DW D.ts i (Out.ok l r1)=i' from hs.pos.symm];exact hw⟩
 |err c r1=>
  rw[ho]at hp;obtain ⟨i',he,-,hs,hw⟩:=hp;exact ⟨none,0,he,Nat.le_refl _,by omega,Du.nil _ _ _,by rw[show DW D.ts i (Out.err c r1:Out (List Mn))=i' from hs.pos.symm];exact hw⟩
 |fuel=>rw[ho]at hp;exact hp.elim
structure P1 (g:Nat) (a b:Value) (w w':World):Prop where
 o:Ai g w w'
 p:Am 25 w g #[a,b]->Am 25 w' g #[a,b]
structure ZQ (W0:World) (g:Nat) (w:World):Prop where
 o:Ai g W0 w
 b:∃x y,Am 25 w g #[x,y]
theorem P1.refl (g:Nat) (a b:Value) (w:World):P1 g a b w w:=⟨AE (Below.refl _ _),fun h=>h⟩
def I0 (s:ByteArray) (kn:ByteArray->Bool) (w:World) (e:Ending) (w':World):Prop:=
 if (Aw (Ad s) s.size).code=0 then
  ∃A m c,e=.returned (.tuple #[.slice A m c,.agg #[.int .i64 (Fc (hd (Ah s) (DW (Ah s) 0 (Bv kn (rd (Ah s) 0)))).kind (Ms (Bv kn (rd (Ah s) 0))) (hd (Ah s) (DW (Ah s) 0 (Bv kn (rd (Ah s) 0)))).line:Nat),.int .i64 (Fc (hd (Ah s) (DW (Ah s) 0 (Bv kn (rd (Ah s) 0)))).kind (Ms (Bv kn (rd (Ah s) 0))) (hd (Ah s) (DW (Ah s) 0 (Bv kn (rd (Ah s) 0)))).col:Nat)],.int .i64 (Dv (hd (Ah s) (DW (Ah s) 0 (Bv kn (rd (Ah s) 0)))).kind (Ms (Bv kn (rd (Ah s) 0))):Nat)]) /\
   m<=c/\c<=9223372036854775807/\Du (BG w.heap.size) w' A m (if Dv (hd (Ah s) (DW (Ah s) 0 (Bv kn (rd (Ah s) 0)))).kind (Ms (Bv kn (rd (Ah s) 0)))=0 then ID (Bv kn (rd (Ah s) 0)) else [])/\Below w.heap.size w w'
 else (e=.returned (.tuple #[.slice none 0 0,.agg #[.int .i64 ((BP s (Aw (Ad s) s.size)).1:Nat),.int .i64 ((BP s (Aw (Ad s) s.size)).2:Nat)],.int .i64 ((Aw (Ad s) s.size).code:Nat)]))/\Below w.heap.size w w'
theorem Pp (s:ByteArray) (known:Bool) (A:Option Addr) (n c:Nat) (xs:List ByteArray) (w0:World) (hs:s.size<=9223372036854775807) (hx:EN w0 A n xs) (hA:A=none->n=0/\c=0) (hn:n<=1000) :
   Calls Tryz.prog 28 #[.string s,.slice A n c,.bool known,.func (.func 29) #[] #[]] w0 (I0 s (fun x=>!known || DL x xs) w0):=by
 obtain ⟨x1,x3,x4⟩:=Ap 25 w0 #[.int .i64 0,.int .i64 0];have X1:=Aa x1;have B0:=Aa x3;have HX:=Aa (hx.below x3);have HL:=Aa (fun W=>Mr s W (by omega));unfold E7 at HL;have hfn:=fun W=>(show (binOp .eql 70 (.func (.func 29) #[] #[]) .nilFunc).run Tryz.prog W=.ok (.bool false) W from by kernel_rfl)
 clear x1 x3 hx;by_cases hc:(Aw (Ad s) s.size).code=0
 · have hs:=NN hc;have HL2:=Aa (fun W=>Uz s W hs hc);obtain ⟨ss,hss⟩:∃ss,Bv (fun x=>!known || DL x xs) (rd (Ah s) 0)=ss:=⟨_,rfl⟩;obtain ⟨pp,hpp⟩:∃pp,DW (Ah s) 0 ss=pp:=⟨_,rfl⟩;obtain ⟨th,hth⟩:∃th,hd (Ah s) pp=th:=⟨_,rfl⟩
   have HP:=Aa (show ∀A m c w' x y z,m<=c->c<=9223372036854775807->x=Fc th.kind (Ms ss) th.line->y=Fc th.kind (Ms ss) th.col->z=Dv th.kind (Ms ss)->Du (BG w0.heap.size) w' A m (if Dv th.kind (Ms ss)=0 then ID ss else [])->Below w0.heap.size w0 w'->I0 s (fun x=>!known || DL x xs) w0 (.returned (.tuple #[.slice A m c,.agg #[.int .i64 (x:Nat),.int .i64 (y:Nat)],.int .i64 (z:Nat)])) w' from fun A m c w' x y z h1 h2 h3 h4 h5 h6 h7=>by
     unfold I0;rw[if_pos hc,hss,hpp,hth];exact ⟨A,m,c,by rw[h3,h4,h5],h1,h2,h6,h7⟩)
   have HSS:=Aa hss;have HTHD:=Aa (show hd (Ah s) (DW (Ah s) 0 (Bv (fun x=>!known || DL x xs) (rd (Ah s) 0)))=th from by rw[hss,hpp,hth]);have hlen:=L9 s;have HPOS:=Aa (LA hc);clear HL hc hss hpp hth;go_enter Tryz.func28,Tryz.ntmps28;go_wp2_with fail;generalize hW0:w0.alloc (.cells #[.int .i64 0,.int .i64 0] 25)=W0 at *;clear hW0;refine (HL2.out _).mono ?_;rintro e W1 ⟨A1,c1,rfl,bq,hc1,hc2,hk1,ha1⟩;generalize hnn:(Ah s).length=nn at *;have HNN:=Aa hnn
   have hb:=Ae W1 (.cells #[.int .i64 0,.int .i64 0] 25);have XQ:=Aa ((X1.out.next bq).next hb);have HX2:=Aa ((HX.out.below bq).below hb);have HK2:=Aa (hk1.below hb);have BB:=Aa ((B0.out.next bq).next hb);have hs1:=bq.size;have hs2:=hb.size;clear bq hb HL2 hk1 hnn;go_wp2_with fail;generalize hV:W1.alloc (.cells #[.int .i64 0,.int .i64 0] 25)=V at *;clear hV;refine (L1 A n c xs V HX2.out hA (by omega)).mono ?_;rintro e W2 ⟨B,d,rfl,hx2,hd1,hd2,bq,hb1⟩
   obtain ⟨D,hD⟩:∃D:CD,D=⟨A1,nn,c1,Ah s,B,n,d,xs,known⟩:=⟨_,rfl⟩;have hb:=Ae W2 (.cells #[.slice A1 nn c1,.int .i64 0,.slice B n d,.bool known] 110);have XQ3:=Aa ((XQ.out.next bq).next hb);have BB3:=Aa ((BB.out.next bq).next hb);have HCU:=Aa (show Cg D W2.heap.size (W2.alloc (.cells #[.slice A1 nn c1,.int .i64 0,.slice B n d,.bool known] 110)) 0 from by
     subst hD;have hk2:=HK2.out.below bq;refine ⟨Am.new 110 W2 _,hk2.below hb,hx2.below hb,⟨JU s,fun h0 a ha=>?_,fun h0 a ha=>?_,hc1,hc2,hd1,hd2,by show nn<=1000000;omega,fun t ht=>by have:=(El ht).2.2;omega,fun t ht=>(El ht).2.1,fun t ht=>(El ht).1⟩,?_⟩
     · obtain ⟨b,o,e,hlt,-⟩:=hk2.2 h0;have ha':A1=some a:=ha;rw[ha']at e;injection e with e;subst e;exact Nat.ne_of_lt hlt
     · obtain ⟨b,o,e,hlt,-⟩:=hx2.2 h0;have ha':B=some a:=ha;rw[ha']at e;injection e with e;subst e;exact Nat.ne_of_lt hlt
     · have h9:(rd (Ah s) 0).length<=nn+1:=by
        rw[Ol,<-HNN.out];unfold view;split
        · simp
        · rw[List.length_drop];omega
       show 0+(rd (Ah s) 0).length<=_;omega)
   have HAA:=Aa (show (0<D.n->∀a,D.A=some a->w0.heap.size<a.block)/\(0<D.m->∀a,D.V=some a->w0.heap.size<a.block) from by subst hD;refine ⟨fun h0 a ha=>by have:=ha1 h0 a ha;omega,fun h0 a ha=>?_⟩;have:=hb1 h0 a ha;omega)
   have HIN:=Aa (show D.ts=Ah s/\D.kn=(fun x=>!known || DL x xs) from by subst hD;exact ⟨rfl,rfl⟩);have hs3:=bq.size;have hs4:=hb.size;have hs5:=World.size_alloc W2 (.cells #[.slice A1 nn c1,.int .i64 0,.slice B n d,.bool known] 110);clear bq hb hx2 ha1 hb1 hD HNN HX2 HK2;go_wp2_with fail;generalize hW3:W2.alloc (.cells #[.slice A1 nn c1,.int .i64 0,.slice B n d,.bool known] 110)=W3 at *;clear hW3;generalize hgg:W2.heap.size=g at *;clear hgg
   have hsum:=Ry D g 0 W3 (Ah s) (fun x=>!known || DL x xs) HIN.out.1 HIN.out.2 HCU.out;rw[HSS.out]at hsum;refine hsum.mono ?_;clear hsum;rintro e W4 ⟨A4,c4,rfl,hm1,hm2,hmi,hw⟩;have hlg:=HCU.out.lt;have XQ5:=Aa (XQ3.out.other hw.1 (by omega));have hsB:=BB3.out.size;have hs6:=hw.1.size;have BB5:=Aa (BB3.out.trans (hw.1.below hsB (by omega)));have C5:=Aa hw.2;have HMI:=Aa hmi;have HATx:=Aa (BK D g _ W4 C5.out);unfold Ga at HATx;rw[HIN.out.1]at HATx
   have HAT0:=Aa (show hd (Ah s) (DW (Ah s) 0 ss)=th from by rw[<-HSS.out];exact HTHD.out);rw[HAT0.out]at HATx;have HKND:=(fun a b c d W=>(show (Instr.field 113 (.agg #[a,b,c,d]) 0).run Tryz.prog W=.ok a W from by kernel_rfl));have HKN2:=(fun a b c d W=>(show (Instr.field 113 (.agg #[a,b,c,d]) 2).run Tryz.prog W=.ok (.agg #[c,d]) W from by kernel_rfl));have HAT2:=Aa (fun W (hb:Below W4.heap.size W4 W)=>BK D g _ W (C5.out.below hb));unfold Ga at HAT2
   rw[HIN.out.1,HAT0.out]at HAT2;generalize ID ss=os at *;generalize Ms ss=e0 at *;clear hw hmi B0 BB BB3 HAA XQ XQ3 X1 HX HCU C5 HIN HSS HTHD HAT0 HPOS hsB;by_cases h0:e0=0
   · subst h0;by_cases hk:th.kind=5
     · have gq:((th.kind:Int) != 5)=false:=(by rw[hk];rfl);have hE:Dv th.kind 0=0:=(by unfold Dv;rw[if_pos rfl,if_pos hk]);have HPP:=Aa (fun w' (hb:Below w0.heap.size w0 w') (hm:Du (BG w0.heap.size) w' A4 os.length os)=>HP.out A4 os.length c4 w' 0 0 0 hm1 hm2 (by unfold Fc;rw[if_pos hE]) (by unfold Fc;rw[if_pos hE]) hE.symm (by rw[if_pos hE];exact hm) hb);clear hE HP;go_wp2_with fail;refine HATx.out.mono ?_;rintro e W6 ⟨rfl,b6⟩;have xq6:=XQ5.out.next b6
       have BB6:=Aa (BB5.out.next b6);have HM6:=Aa (HMI.out.keep (AJ.of_below b6));clear b6 BB5 XQ5 HATx HAT2;go_wp2_with (with_reducible refine Ab rfl 25 _ _ rfl w0.heap.size #[.int .i64 0,.int .i64 0] rfl rfl _ xq6 (by kernel_rfl) rfl (by simp[Value.oneCell']) ?_;intro w9 x9 o9);refine BX rfl rfl rfl rfl x9 rfl ?_
       exact HPP.out _ (BB6.out.trans (o9.below BB6.out.size (by omega))) ((HM6.out.keep (AJ.of_only' o9 (show ¬BG W3.heap.size w0.heap.size from by unfold BG;omega))).mono (by omega))
     · have gq:((th.kind:Int) != 5)=true:=(by simp;omega);have hE:Dv th.kind 0=101:=(by unfold Dv;rw[if_pos rfl,if_neg hk]);have HPP:=Aa (fun w' (hb:Below w0.heap.size w0 w')=>HP.out none 0 0 w' th.line th.col 101 (Nat.le_refl _) (by omega) (by unfold Fc;rw[hE];rfl) (by unfold Fc;rw[hE];rfl) hE.symm (by rw[hE];exact Du.nil _ _ _) hb);clear hE HP hk;go_wp2_with fail;refine HATx.out.mono ?_;rintro e W6 ⟨rfl,b6⟩;have XQ6:=Aa (XQ5.out.next b6);have BB6:=Aa (BB5.out.next b6)
       have HAT3:=Aa (HAT2.out W6 b6);clear b6 BB5 XQ5 HATx HAT2;go_wp2_with fail;refine HAT3.out.mono ?_;rintro e W7 ⟨rfl,b7⟩;have xq7:=XQ6.out.next b7;have BB7:=Aa (BB6.out.next b7);clear b7 BB6 XQ6;go_wp2_with (with_reducible refine Ab rfl 25 _ _ rfl w0.heap.size #[.int .i64 (th.line:Int),.int .i64 (th.col:Int)] rfl rfl _ xq7 (by kernel_rfl) rfl (by simp[Value.oneCell']) ?_;intro w9 x9 o9);refine BX rfl rfl rfl rfl x9 rfl ?_
       exact HPP.out _ (BB7.out.trans (o9.below BB7.out.size (by omega)))
   · have hE:Dv th.kind e0=e0:=(by unfold Dv;rw[if_neg h0]);have HPP:=Aa (fun w' (hb:Below w0.heap.size w0 w')=>HP.out none 0 0 w' th.line th.col e0 (Nat.le_refl _) (by omega) (by unfold Fc;rw[hE,if_neg h0]) (by unfold Fc;rw[hE,if_neg h0]) hE.symm (by rw[hE,if_neg h0];exact Du.nil _ _ _) hb);have gc:=F7 h0;have gc2:=Ja h0;clear hE HP h0;go_wp2_with fail;refine HATx.out.mono ?_;rintro e W7 ⟨rfl,b7⟩;have xq7:=XQ5.out.next b7;have BB7:=Aa (BB5.out.next b7);clear b7 BB5 XQ5
     go_wp2_with (with_reducible refine Ab rfl 25 _ _ rfl w0.heap.size #[.int .i64 (th.line:Int),.int .i64 (th.col:Int)] rfl rfl _ xq7 (by kernel_rfl) rfl (by simp[Value.oneCell']) ?_;intro w9 x9 o9);refine BX rfl rfl rfl rfl x9 rfl ?_;exact HPP.out _ (BB7.out.trans (o9.below BB7.out.size (by omega)))
 · have HP:=Aa (show ∀(ps:Nat×Nat) (c:Nat) w',BP s (Aw (Ad s) s.size)=ps->(Aw (Ad s) s.size).code=c->Below w0.heap.size w0 w'->I0 s (fun x=>!known || DL x xs) w0 (.returned (.tuple #[.slice none 0 0,.agg #[.int .i64 (ps.1:Nat),.int .i64 (ps.2:Nat)],.int .i64 (c:Nat)])) w' from fun ps c w' h1 h2 hw=>by unfold I0;rw[if_neg hc,h1,h2];exact ⟨rfl,hw⟩);obtain ⟨ps,hps⟩:∃ps,BP s (Aw (Ad s) s.size)=ps:=⟨_,rfl⟩;rw[hps]at HL;have gc:=F7 hc
   obtain ⟨cd,hcde⟩:∃cd,(Aw (Ad s) s.size).code=cd:=⟨_,rfl⟩;rw[hcde]at HL gc;have HPS:=Aa hps;have HCD:=Aa hcde;clear hfn hc hps hcde;go_enter Tryz.func28,Tryz.ntmps28;go_wp2_with fail;generalize hW0:w0.alloc (.cells #[.int .i64 0,.int .i64 0] 25)=W0 at *;clear hW0;refine (HL.out _).mono ?_;rintro e W1 ⟨v1,rfl,bq,-⟩;have hb:=Ae W1 (.cells #[.int .i64 (ps.1:Nat),.int .i64 (ps.2:Nat)] 25);have xQ:=(X1.out.next bq).next hb
   have XP:=Aa (Am.new 25 W1 #[.int .i64 (ps.1:Nat),.int .i64 (ps.2:Nat)]);have BB:=Aa ((B0.out.next bq).next hb);have hs1:=bq.size;clear bq hb HL;go_upto_region 4 with fail;generalize hV:W1.alloc (.cells #[.int .i64 (ps.1:Nat),.int .i64 (ps.2:Nat)] 25)=V at *;clear hV
   have SOF:=Aa (show ∀W,Ai (w0.heap.size) V W->(W.cell? ⟨W1.heap.size,0,none⟩=some (.int .i64 (ps.1:Nat))/\W.cell? ⟨W1.heap.size,1,none⟩=some (.int .i64 (ps.2:Nat))) from fun W h=>⟨(XP.out.other h (by omega)).cell 0 _ rfl,(XP.out.other h (by omega)).cell 1 _ rfl⟩)
   refine BJ (by kernel_rfl) (by kernel_rfl) (by kernel_rfl) (P1 (w0.heap.size) (.int .i64 (ps.1:Nat)) (.int .i64 (ps.2:Nat))) (fun j v w=>match j with|0=>v=.slice none 0 0|1=>v=.agg #[.int .i64 (ps.1:Nat),.int .i64 (ps.2:Nat)]|2=>v=.int .i64 (cd:Nat)|3=>v=.slice none 0 0|4=>Am 25 w (w0.heap.size) #[.int .i64 (ps.1:Nat),.int .i64 (ps.2:Nat)]|5=>v=.int .i64 (cd:Nat)|_=>True) (fun _ _ w=>ZQ V (w0.heap.size) w) ?_ (fun _=>⟨AE (Ao V 1),_,_,xQ⟩) ?_ ?_
   · intro j v w w' hT h;match j,h with
     |0,h=>exact h
     |1,h=>exact h
     |2,h=>exact h
     |3,h=>exact h
     |4,h=>exact hT.p h
     |5,h=>exact h
     |j+6,h=>trivial
   · refine ⟨?_,?_,?_,?_,?_,?_,trivial⟩
     · intro listed σ w a hin hout hl hc hp hG hF;refine Ac.none rfl ?_;have e11:a.tmps.getD 11 undef=.slice none 0 0:=hout 11 (Ag (by kernel_rfl));refine Does.val (.slice none 0 0) (w':=w) ?_ ⟨P1.refl _ _ _ _,rfl,hG⟩;simp only[Array.getD_eq_getD_getElem?]at e11;go_simp
     · intro listed σ w a hin hout hl hc hp hG hF;refine Ac.none rfl ?_;have e13:a.tmps.getD 13 undef=.pointer (some ⟨W1.heap.size,0,none⟩):=hout 13 (Ag (by kernel_rfl));have CC:=SOF.out w hG.o;obtain ⟨D0,D1⟩:=CC;refine Does.val (.agg #[.int .i64 (ps.1:Nat),.int .i64 (ps.2:Nat)]) (w':=w) ?_ ⟨P1.refl _ _ _ _,rfl,hG⟩;go_simp
     · intro listed σ w a hin hout hl hc hp hG hF;refine Ac.none rfl ?_;have e14:a.tmps.getD 14 undef=.int .i64 (cd:Nat):=hout 14 (Ag (by kernel_rfl));refine Does.val (.int .i64 (cd:Nat)) (w':=w) ?_ ⟨P1.refl _ _ _ _,rfl,hG⟩;simp only[Array.getD_eq_getD_getElem?]at e14;go_simp
     · intro listed σ w a hin hout hl hc hp hG hF;refine Ac.none rfl ?_;have e26:a.tmps.getD 26 undef=.slice none 0 0:=(hin 0 26 rfl (hp ⟨0,.data⟩ (by simp) rfl)).trans (hF 0 (hp ⟨0,.data⟩ (by simp) rfl));refine Does.val (.slice none 0 0) (w':=w) ?_ ⟨P1.refl _ _ _ _,rfl,hG⟩;simp only[Array.getD_eq_getD_getElem?]at e26;go_simp
     · intro listed σ w a hin hout hl hc hp hG hF;refine Ac.none rfl ?_;have e9:a.tmps.getD 9 undef=.pointer (some ⟨w0.heap.size,0,none⟩):=hout 9 (Ag (by kernel_rfl));have e27:a.tmps.getD 27 undef=.agg #[.int .i64 (ps.1:Nat),.int .i64 (ps.2:Nat)]:=(hin 1 27 rfl (hp ⟨1,.data⟩ (by simp) rfl)).trans (hF 1 (hp ⟨1,.data⟩ (by simp) rfl));obtain ⟨_,_,bb⟩:=hG.b
       refine Does.store_boxE (T:=25) (cells:=#[.int .i64 (ps.1:Nat),.int .i64 (ps.2:Nat)]) rfl e9 e27 bb (by kernel_rfl) rfl (by simp[Value.oneCell']) (fun w2 x9 o9 z9=>?_);exact ⟨⟨o9,fun _=>x9⟩,x9,⟨hG.o.trans o9,⟨_,_,x9⟩⟩⟩
     · intro listed σ w a hin hout hl hc hp hG hF;refine Ac.none rfl ?_;have e28:a.tmps.getD 28 undef=.int .i64 (cd:Nat):=(hin 2 28 rfl (hp ⟨2,.data⟩ (by simp) rfl)).trans (hF 2 (hp ⟨2,.data⟩ (by simp) rfl));refine Does.val (.int .i64 (cd:Nat)) (w':=w) ?_ ⟨P1.refl _ _ _ _,rfl,hG⟩;simp only[Array.getD_eq_getD_getElem?]at e28;go_simp
   · intro listed σ W9 hall hG hF;rw[show mid _ σ listed _=(Act.put (Act.put (Act.put (Act.put (Act.put (Act.put _ (some 26) (σ 0)) (some 27) (σ 1)) (some 28) (σ 2)) (some 8) (σ 3)) none (σ 4)) (some 10) (σ 5)) from (Ca hall).trans rfl];generalize σ 0=tt0;generalize σ 1=tt1;generalize σ 2=tt2;rw[show σ 3=.slice none 0 0 from hF 3 (by decide)];rw[show σ 5=.int .i64 (cd:Nat) from hF 5 (by decide)]
     simp only[Act.put,List.setIfInBounds_toArray,List.set_cons_zero,List.set_cons_succ];have TG:=(⟨hG.o,hF 4 (by decide)⟩:Ai (w0.heap.size) V W9/\Am 25 W9 (w0.heap.size) #[.int .i64 (ps.1:Nat),.int .i64 (ps.2:Nat)]);clear hF hG hall;clear σ;obtain ⟨TO,xb⟩:=TG;have HPP:=Aa (HP.out ps cd W9 HPS.out HCD.out (BB.out.trans (TO.below BB.out.size (by omega))));clear SOF TO;go_wp2_with fail;refine BX rfl rfl rfl rfl xb rfl ?_;exact HPP.out
end
section
open Go.RowKit
open Lx Ex
def Rz (s:ByteArray):GT×Nat×Nat×Nat:=
 if (Aw (Ad s) s.size).code=0 then
  (if Dv (hd (Ah s) (DW (Ah s) 0 (As (fun _=>true) .cond 60 (rd (Ah s) 0)))).kind (Ms (As (fun _=>true) .cond 60 (rd (Ah s) 0)))=0 then Ya (As (fun _=>true) .cond 60 (rd (Ah s) 0)) else zG,
   Fc (hd (Ah s) (DW (Ah s) 0 (As (fun _=>true) .cond 60 (rd (Ah s) 0)))).kind (Ms (As (fun _=>true) .cond 60 (rd (Ah s) 0))) (hd (Ah s) (DW (Ah s) 0 (As (fun _=>true) .cond 60 (rd (Ah s) 0)))).line,
   Fc (hd (Ah s) (DW (Ah s) 0 (As (fun _=>true) .cond 60 (rd (Ah s) 0)))).kind (Ms (As (fun _=>true) .cond 60 (rd (Ah s) 0))) (hd (Ah s) (DW (Ah s) 0 (As (fun _=>true) .cond 60 (rd (Ah s) 0)))).col,
   Dv (hd (Ah s) (DW (Ah s) 0 (As (fun _=>true) .cond 60 (rd (Ah s) 0)))).kind (Ms (As (fun _=>true) .cond 60 (rd (Ah s) 0))))
 else (zG,(BP s (Aw (Ad s) s.size)).1,(BP s (Aw (Ad s) s.size)).2,(Aw (Ad s) s.size).code)
def U0 (s:ByteArray):List Mn×Nat×Nat×Nat:=
 if (Aw (Ad s) s.size).code=0 then
  (if Dv (hd (Ah s) (DW (Ah s) 0 (Bv (fun _=>true) (rd (Ah s) 0)))).kind (Ms (Bv (fun _=>true) (rd (Ah s) 0)))=0 then ID (Bv (fun _=>true) (rd (Ah s) 0)) else [],
   Fc (hd (Ah s) (DW (Ah s) 0 (Bv (fun _=>true) (rd (Ah s) 0)))).kind (Ms (Bv (fun _=>true) (rd (Ah s) 0))) (hd (Ah s) (DW (Ah s) 0 (Bv (fun _=>true) (rd (Ah s) 0)))).line,
   Fc (hd (Ah s) (DW (Ah s) 0 (Bv (fun _=>true) (rd (Ah s) 0)))).kind (Ms (Bv (fun _=>true) (rd (Ah s) 0))) (hd (Ah s) (DW (Ah s) 0 (Bv (fun _=>true) (rd (Ah s) 0)))).col,
   Dv (hd (Ah s) (DW (Ah s) 0 (Bv (fun _=>true) (rd (Ah s) 0)))).kind (Ms (Bv (fun _=>true) (rd (Ah s) 0))))
 else ([],(BP s (Aw (Ad s) s.size)).1,(BP s (Aw (Ad s) s.size)).2,(Aw (Ad s) s.size).code)
def U1 (r:GT×Nat×Nat×Nat) (w:World) (e:Ending) (w':World):Prop:=∃(kd:Int) (Al:Option Addr) (nl cl:Nat) (Ar:Option Addr) (nr cr:Nat) (op:Int) (p q:ByteArray) (A:Option Addr) (n c:Nat),e=.returned (.tuple #[.agg #[.int .i64 kd,.slice Al nl cl,.slice Ar nr cr,.int .i64 op,.string p,.string q,.slice A n c],.agg #[.int .i64 (r.2.1:Nat),.int .i64 (r.2.2.1:Nat)],.int .i64 (r.2.2.2:Nat)])/\AW (BG w.heap.size) w' r.1 [.int .i64 kd,.slice Al nl cl,.slice Ar nr cr,.int .i64 op,.string p,.string q,.slice A n c]/\Below w.heap.size w w'
def U2 (r:List Mn×Nat×Nat×Nat) (w:World) (e:Ending) (w':World):Prop:=∃(A:Option Addr) (c:Nat),e=.returned (.tuple #[.slice A r.1.length c,.agg #[.int .i64 (r.2.1:Nat),.int .i64 (r.2.2.1:Nat)],.int .i64 (r.2.2.2:Nat)])/\r.1.length<=c/\c<=9223372036854775807/\Du (BG w.heap.size) w' A r.1.length r.1/\Below w.heap.size w w'
theorem Wa:(fun x:ByteArray=>!false || DL x [])=fun _=>true:=by funext x;rfl
theorem Ql (w:World):EN w none 0 []:=⟨rfl,fun h=>absurd h (by omega)⟩
theorem WY (s:ByteArray) (w:World) (hs:s.size<=9223372036854775807) (htab:Bc w):Calls Tryz.prog 33 #[.string s,.slice none 0 0,.bool false,.func (.func 34) #[] #[]] w (U1 (Rz s) w):=by
 refine (Rx s false none 0 0 [] w hs (Ql w) (fun _=>⟨rfl,rfl⟩) (by omega) htab).mono ?_;intro e w' hp;rw[Wa]at hp;unfold LB at hp;unfold U1 Rz;by_cases hc:(Aw (Ad s) s.size).code=0
 · rw[if_pos hc]at hp;rw[if_pos hc];obtain ⟨i',e0,kd,Al,nl,cl,Ar,nr,cr,op,p,q,A,n,c,he,hb,hor⟩:=hp;rcases hor with ⟨hc0,t,r1,ho,hr,hs,hT⟩|⟨hc0,r1,ho,hr,hs,hT⟩
   · rw[ho];have e1:DW (Ah s) 0 (Out.ok t r1)=i':=(by show 0+_-r1.length=i';omega);subst hc0;rw[e1];exact ⟨kd,Al,nl,cl,Ar,nr,cr,op,p,q,A,n,c,he,hT,hb⟩
   · rw[ho];have e1:DW (Ah s) 0 (Out.err e0 r1:Out Tr)=i':=(by show 0+_-r1.length=i';omega);rw[e1];refine ⟨kd,Al,nl,cl,Ar,nr,cr,op,p,q,A,n,c,he,?_,hb⟩;have h9:¬Dv (hd (Ah s) i').kind (Ms (Out.err e0 r1:Out Tr))=0:=(by show ¬Dv _ e0=0;unfold Dv;rw[if_neg hc0];exact hc0);rw[if_neg h9];exact hT
 · rw[if_neg hc]at hp;rw[if_neg hc];obtain ⟨he,hb⟩:=hp;exact ⟨0,none,0,0,none,0,0,0,⟨#[]⟩,⟨#[]⟩,none,0,0,he,AW.leaf _ _ 0,hb⟩
theorem WZ (s:ByteArray) (w:World) (hs:s.size<=9223372036854775807):Calls Tryz.prog 28 #[.string s,.slice none 0 0,.bool false,.func (.func 29) #[] #[]] w (U2 (U0 s) w):=by
 refine (Pp s false none 0 0 [] w hs (Ql w) (fun _=>⟨rfl,rfl⟩) (by omega)).mono ?_;intro e w' hp;rw[Wa]at hp;unfold I0 at hp;unfold U2 U0;by_cases hc:(Aw (Ad s) s.size).code=0
 · rw[if_pos hc]at hp;rw[if_pos hc];obtain ⟨A,m,c,he,h1,h2,hm,hb⟩:=hp;obtain rfl:m=_:=hm.1.symm;exact ⟨A,c,he,h1,h2,hm,hb⟩
 · rw[if_neg hc]at hp;rw[if_neg hc];obtain ⟨he,hb⟩:=hp;exact ⟨none,0,he,Nat.le_refl _,by omega,Du.nil _ _ _,hb⟩
theorem Mt (s:ByteArray) (w0:World) (hs:s.size<=9223372036854775807):Calls Tryz.prog 9 #[.string s] w0 (U2 (U0 s) w0):=by
 obtain ⟨x1,hb,-⟩:=Ap 25 w0 #[.int .i64 0,.int .i64 0];have X1:=Aa x1;have HB:=Aa hb;have HW:=Aa (fun W=>WZ s W hs);generalize U0 s=r at *;clear x1 hb;go_enter Tryz.func9,Tryz.ntmps9;go_wp2_with fail;generalize hW0:w0.alloc (.cells #[.int .i64 0,.int .i64 0] 25)=W0 at *;clear hW0;refine (HW.out _).mono ?_;rintro e w2 ⟨A,c,rfl,h1,h2,hm,b2⟩;have y1:=X1.out.next b2;have HB2:=Aa (HB.out.next b2);have hlt:=X1.out.lt;have hsz:=HB.out.size;clear b2
 go_wp2_with (with_reducible refine Ab rfl 25 _ _ rfl w0.heap.size #[.int .i64 (r.2.1:Nat),.int .i64 (r.2.2.1:Nat)] rfl rfl _ y1 (by kernel_rfl) rfl (by simp[Value.oneCell']) ?_;intro w9 x9 o9);refine BX rfl rfl rfl rfl x9 rfl ?_;exact ⟨A,c,rfl,h1,h2,((hm.keep (AJ.of_only' o9 (show ¬BG W0.heap.size w0.heap.size from by unfold BG;omega))).mono hsz),HB2.out.trans (o9.below HB2.out.size (by omega))⟩
theorem GE (s:ByteArray) (w0:World) (hs:s.size<=9223372036854775807) (htab:Bc w0):Calls Tryz.prog 11 #[.string s] w0 (U1 (Rz s) w0):=by
 obtain ⟨x0,x1,hb,hsz⟩:=Ax 33 25 w0 #[.int .i64 0,.slice none 0 0,.slice none 0 0,.int .i64 0,.string ⟨#[]⟩,.string ⟨#[]⟩,.slice none 0 0] #[.int .i64 0,.int .i64 0];have X0:=Aa x0;have X1:=Aa x1;have HB:=Aa hb;have HW:=Aa (fun W (hW:Below w0.heap.size w0 W)=>WY s W hs (htab.below hW));generalize Rz s=r at *;clear x0 x1 hb htab;go_enter Tryz.func11,Tryz.ntmps11;go_wp2_with fail
 generalize hW0:(w0.alloc (.cells #[.int .i64 0,.slice none 0 0,.slice none 0 0,.int .i64 0,.string ⟨#[]⟩,.string ⟨#[]⟩,.slice none 0 0] 33)).alloc (.cells #[.int .i64 0,.int .i64 0] 25)=W0 at *;clear hW0;refine (HW.out _ HB.out).mono ?_;rintro e w2 ⟨kd,Al,nl,cl,Ar,nr,cr,op,p,q,A,n,c,rfl,hT,b2⟩;have y0:=X0.out.next b2;have Y1:=Aa (X1.out.next b2);have HB2:=Aa (HB.out.next b2);have HT:=Aa hT;have hs2:W0.heap.size<=w2.heap.size:=b2.size;clear b2 hT;go_wp2_with (first
  |(with_reducible refine Ab rfl 33 _ _ rfl w0.heap.size #[.int .i64 kd,.slice Al nl cl,.slice Ar nr cr,.int .i64 op,.string p,.string q,.slice A n c] rfl rfl _ y0 (by kernel_rfl) rfl (by simp[Value.oneCell']) ?_;intro w8 x8 o8)
  |(with_reducible refine Ab rfl 25 _ _ rfl (w0.heap.size+1) #[.int .i64 (r.2.1:Nat),.int .i64 (r.2.2.1:Nat)] rfl rfl _ (Y1.out.other o8 (by omega)) (by kernel_rfl) rfl (by simp[Value.oneCell']) ?_;intro w9 x9 o9))
 have hk9:=(K2.fst (q:=w0.heap.size+1) o8).trans (K2.snd o9);refine DV rfl rfl rfl rfl (x8.other o9 (by omega)) x9 rfl ?_;exact ⟨kd,Al,nl,cl,Ar,nr,cr,op,p,q,A,n,c,rfl,(HT.out.keep (hk9.keep (by unfold BG;omega) (by unfold BG;omega))).mono (by omega),HB2.out.trans (hk9.below HB2.out.size (by omega) (by omega))⟩
end
section
open Go.RowKit
open Lx Ex
def Ze (r:List Mn×Nat×Nat×Nat) (w:World) (e:Ending) (w':World):Prop:=∃(A:Option Addr) (c:Nat),e=.returned (.tuple #[.slice A r.1.length c,.agg #[.int .i64 (r.2.1:Nat),.int .i64 (r.2.2.1:Nat)],.int .i64 (r.2.2.2:Nat)])/\Du (BG w.heap.size) w' A r.1.length r.1/\Below w.heap.size w w'
end
section
open Go.RowKit
open Lx Ex
def Z2:ByteArray:=⟨#[120,32,43,32,50,32,60,61,32,51,42,121,32,38,32,33,40,97,32,61,32,49,32,124,32,116,114,117,101,41]⟩
def Z3:ByteArray:=⟨#[120,32,60]⟩
def Z4:ByteArray:=⟨#[45,50,42,120,32,43,32,49]⟩
def aA:Tr:=.cmp [⟨⟨#[]⟩,⟨#[120]⟩,false⟩,⟨⟨#[50]⟩,⟨#[]⟩,false⟩] 3 [⟨⟨#[51]⟩,⟨#[121]⟩,false⟩]
def aB:Tr:=.deny (.any (.cmp [⟨⟨#[]⟩,⟨#[97]⟩,false⟩] 0 [⟨⟨#[49]⟩,⟨#[]⟩,false⟩]) (.leaf true))
def aU:Tr:=.both aA aB
def aL:List Mn:=[⟨⟨#[50]⟩,⟨#[120]⟩,true⟩,⟨⟨#[49]⟩,⟨#[]⟩,false⟩]
theorem Yb:Rz Z2=(gt aU,0,0,0):=by kernel_rfl
theorem Yc:Rz Z3=(zG,1,4,101):=by kernel_rfl
theorem Yd:U0 Z4=(aL,0,0,0):=by kernel_rfl
theorem Wb:AC aU=[120,32,43,32,50,32,60,61,32,51,42,121,32,38,32,33,40,97,32,61,32,49,32,124,32,116,114,117,101,41]:=by kernel_rfl
theorem Wc:AC aA=[120,32,43,32,50,32,60,61,32,51,42,121]:=by kernel_rfl
theorem Wd:Cb true aL=[45,50,42,120,32,43,32,49]:=by kernel_rfl
theorem Ye:Ef [⟨#[120]⟩] aL ([],0)=some ([(0,-2)],1):=by kernel_rfl
theorem U3:Bl aL=true:=by kernel_rfl
theorem We:AF (gt aU) 60=true:=by kernel_rfl
theorem Wg:Kw (gt aA)=true:=by kernel_rfl
theorem Yf:FG (gt aU)=true:=by kernel_rfl
end
section
open Go.RowKit
open Lx Ex
def V9 (l:List Mn):Bool:=l.all fun m=>decide (m.num.size<=4611686018427387904)&&decide (m.var.size<=4611686018427387904)
theorem FE {l:List Mn} (h:V9 l=true):JQ l:=by intro m hm;have:=List.all_eq_true.1 h m hm;simp at this;exact this
def JV:Tr->Bool
 |.leaf _=>true
 |.cmp l _ r=>V9 l&&V9 r&&decide (l.length<=4611686018427387903)&&decide (r.length<=4611686018427387903)
 |.deny t=>JV t
 |.both a b=>JV a&&JV b
 |.any a b=>JV a&&JV b
theorem JW (u:Tr) (h:JV u=true):IK (gt u):=by
 have nil:JQ []:=fun m hm=>by cases hm
 induction u with
 |leaf b=>exact IK.mk _ _ _ _ _ _ _ nil nil (by decide) (by decide) (fun t ht=>by cases ht)
 |cmp l o r=>
  simp only[JV,Bool.and_eq_true,decide_eq_true_eq]at h;exact IK.mk _ _ _ _ _ _ _ (FE h.1.1.1) (FE h.1.1.2) h.1.2 h.2 (fun t ht=>by cases ht)
 |deny t ih=>
  exact IK.mk _ _ _ _ _ _ _ nil nil (by decide) (by decide) (fun x hx=>by
   simp only[List.mem_cons,List.not_mem_nil,or_false]at hx;subst hx;exact ih h)
 |both a b iha ihb=>
  simp only[JV,Bool.and_eq_true]at h;exact IK.mk _ _ _ _ _ _ _ nil nil (by decide) (by decide) (fun x hx=>by
   simp only[List.mem_cons,List.not_mem_nil,or_false]at hx;rcases hx with rfl|rfl<;>first|exact iha h.1|exact ihb h.2)
 |any a b iha ihb=>
  simp only[JV,Bool.and_eq_true]at h;exact IK.mk _ _ _ _ _ _ _ nil nil (by decide) (by decide) (fun x hx=>by
   simp only[List.mem_cons,List.not_mem_nil,or_false]at hx;rcases hx with rfl|rfl<;>first|exact iha h.1|exact ihb h.2)
theorem Pq:JV aU=true:=by kernel_rfl
theorem U4:JV aA=true:=by kernel_rfl
theorem Pr:V9 aL=true:=by kernel_rfl
def Z5:List ByteArray:=[⟨#[120]⟩,⟨#[121]⟩,⟨#[97]⟩]
theorem Xa:V1 Z5 aU:=by refine ⟨⟨by kernel_rfl,by kernel_rfl,FE (by kernel_rfl),FE (by kernel_rfl),by kernel_rfl,by kernel_rfl,Or.inr rfl⟩,⟨by kernel_rfl,by kernel_rfl,FE (by kernel_rfl),FE (by kernel_rfl),by kernel_rfl,by kernel_rfl,Or.inl rfl⟩,trivial⟩
theorem JX:right 60 aU:=(Fa aU 60).1 We
theorem RA:right 60 aA:=JX.1
section
variable (W:World)
theorem Yg (h:Bc W):Calls Tryz.prog 11 #[.string ⟨#[120,32,43,32,50,32,60,61,32,51,42,121,32,38,32,33,40,97,32,61,32,49,32,124,32,116,114,117,101,41]⟩] W (fun e w'=>∃(kd:Int) (Al:Option Addr) (nl cl:Nat) (Ar:Option Addr) (nr cr:Nat) (op:Int) (p q:ByteArray) (A:Option Addr) (n c:Nat),e=.returned (.tuple #[.agg #[.int .i64 kd,.slice Al nl cl,.slice Ar nr cr,.int .i64 op,.string p,.string q,.slice A n c],.agg #[.int .i64 0,.int .i64 0],.int .i64 0])/\AW (BG W.heap.size) w' (gt aU) [.int .i64 kd,.slice Al nl cl,.slice Ar nr cr,.int .i64 op,.string p,.string q,.slice A n c]/\Below W.heap.size W w'):=by have:=GE Z2 W (by decide) h;rw[Yb]at this;exact this
theorem Yh (h:Bc W):Calls Tryz.prog 11 #[.string ⟨#[120,32,60]⟩] W (fun e w'=>∃(kd:Int) (Al:Option Addr) (nl cl:Nat) (Ar:Option Addr) (nr cr:Nat) (op:Int) (p q:ByteArray) (A:Option Addr) (n c:Nat),e=.returned (.tuple #[.agg #[.int .i64 kd,.slice Al nl cl,.slice Ar nr cr,.int .i64 op,.string p,.string q,.slice A n c],.agg #[.int .i64 1,.int .i64 4],.int .i64 101])/\AW (BG W.heap.size) w' zG [.int .i64 kd,.slice Al nl cl,.slice Ar nr cr,.int .i64 op,.string p,.string q,.slice A n c]/\Below W.heap.size W w'):=by have:=GE Z3 W (by decide) h;rw[Yc]at this;exact this
theorem Yi:Calls Tryz.prog 9 #[.string ⟨#[45,50,42,120,32,43,32,49]⟩] W (fun e w'=>∃(A:Option Addr) (c:Nat),e=.returned (.tuple #[.slice A 2 c,.agg #[.int .i64 0,.int .i64 0],.int .i64 0])/\2<=c/\c<=9223372036854775807/\Du (BG W.heap.size) w' A 2 aL/\Below W.heap.size W w'):=by have:=Mt Z4 W (by decide);rw[Yd]at this;exact this
theorem VB {S:Nat->Prop} {A:Option Addr} {c g:Nat} (h:Du S W A 2 aL) (hx:Am 9 W g #[.string ⟨#[120]⟩]):Calls Tryz.prog 24 #[.slice A 2 c,.slice (some ⟨g,0,none⟩) 1 1] W (fun e w'=>∃(A:Option Addr) (c:Nat) (s:Bool) (B:Option Addr) (m d:Nat),e=.returned (.tuple #[.agg #[.slice A 1 c,.bool s,.slice B m d],.bool true])/\Below W.heap.size W w'):=by
 have:=Gj S A 2 c aL (some ⟨g,0,none⟩) 1 1 [⟨#[120]⟩] W h (by omega) (FE Pr) ⟨rfl,fun _=>⟨g,0,rfl,hx.lt,fun j s hj=>by
  match j,hj with
  |0,hj=>injection hj with hj;subst hj;exact hx.cell 0 _ rfl⟩⟩ (by omega)
 rw[U3,if_pos rfl,Ye]at this;refine this.mono ?_;rintro e w' ⟨v,rfl,hv,hb⟩;obtain ⟨A1,n1,c1,s1,B1,m1,d1,rfl,⟨ps,hp,hl,-⟩,-⟩:=hv;have h1:n1=1:=by have h2:=congrArg List.length hl;unfold Nu.DC at h2;rw[List.length_map]at h2;rw[<-hp.1];exact h2
 subst h1;exact ⟨A1,c1,s1,B1,m1,d1,rfl,hb⟩
end
end
end Go.Proofs.YtgohmojcopajoaaGreatDoor
