/- Texts of one seat, put together: ZMem Zint ZintB ZintC ZBox. -/
import Derived.Test.YtemfjdedjcjegaaGreatDoorL07
import Derived.Test.YtemfjdedjcjegaaGreatDoorL05
import Derived.Deep.RegionHeld3
set_option linter.unusedVariables false
set_option linter.unusedSimpArgs false
set_option maxRecDepth 100000
set_option maxHeartbeats 16000000
namespace Go.Proofs.YtemfjdedjcjegaaGreatDoor
section
open Go.RowKit
def AY (w:World) (g:Nat) (cs:Array Value):Prop:=w.heap[g]?=some (.cells cs 31 (0,0))
theorem AY.lt {w:World} {g:Nat} {cs:Array Value} (h:AY w g cs):g<w.heap.size:=by
 rcases Nat.lt_or_ge g w.heap.size with hlt|hge
 · exact hlt
 · unfold AY at h;rw[Array.getElem?_eq_none hge]at h;cases h
theorem AY.c0 {w:World} {g:Nat} {x y:Value} (h:AY w g #[x,y]):w.cell? ⟨g,0,none⟩=some x:=by rw[cell_of_row w g 0 _ _ _ h];rfl
theorem AY.c1 {w:World} {g:Nat} {x y:Value} (h:AY w g #[x,y]):w.cell? ⟨g,1,none⟩=some y:=by rw[cell_of_row w g 1 _ _ _ h];rfl
theorem AY.fr {w:World} {g:Nat} {cs:Array Value} (h:AY w g cs) (i:Nat):w.frozen? ⟨g,i,none⟩=false:=by unfold AY at h;simp[World.frozen?,h]
theorem AY.below {w w':World} {g B:Nat} {cs:Array Value} (h:AY w g cs) (hb:Below B w w') (hg:g<B):AY w' g cs:=(hb.block g hg).trans h
theorem AY.next {w w':World} {g:Nat} {cs:Array Value} (h:AY w g cs) (hb:Below w.heap.size w w'):AY w' g cs:=h.below hb h.lt
theorem AY.new (w:World) (cs:Array Value):AY (w.alloc (.cells cs 31)) w.heap.size cs:=heap_alloc_new w _
theorem AY.alloc {w:World} {g:Nat} {cs:Array Value} (h:AY w g cs) (o:Obj):AY (w.alloc o) g cs:=h.next (Ae w o)
theorem AY.drew {w:World} {g:Nat} {cs:Array Value} (h:AY w g cs):AY w.drew g cs:=h
theorem AY.other {w w':World} {g r:Nat} {cs:Array Value} (h:AY w g cs) (ho:Ao r w w') (hne:g≠r):AY w' g cs:=
 (ho.block g h.lt (fun hh=>hne (by injection hh))).trans h
theorem size_alloc (w:World) (o:Obj):(w.alloc o).heap.size=w.heap.size+1:=by show (w.heap.push o).size=_;simp
theorem CV (w:World) (X:Array Value):AY (w.alloc (.cells X 31)) w.heap.size X/\Below w.heap.size w (w.alloc (.cells X 31))/\(w.alloc (.cells X 31)).heap.size=w.heap.size+1:=
 ⟨AY.new w X,Ae w _,size_alloc w _⟩
theorem El (w:World) (X Y:Array Value):AY ((w.alloc (.cells X 31)).alloc (.cells Y 31)) w.heap.size X/\AY ((w.alloc (.cells X 31)).alloc (.cells Y 31)) (w.heap.size+1) Y /\
  Below w.heap.size w ((w.alloc (.cells X 31)).alloc (.cells Y 31))/\((w.alloc (.cells X 31)).alloc (.cells Y 31)).heap.size=w.heap.size+2:=by
 obtain ⟨h1,h2,h3⟩:=CV w X;obtain ⟨k1,k2,k3⟩:=CV (w.alloc (.cells X 31)) Y;rw[h3]at k1 k3;exact ⟨h1.alloc _,k1,h2.next (Ae _ _),by omega⟩
theorem ED (w:World) (X Y Z:Array Value):AY (((w.alloc (.cells X 31)).alloc (.cells Y 31)).alloc (.cells Z 31)) w.heap.size X/\AY (((w.alloc (.cells X 31)).alloc (.cells Y 31)).alloc (.cells Z 31)) (w.heap.size+1) Y /\
  AY (((w.alloc (.cells X 31)).alloc (.cells Y 31)).alloc (.cells Z 31)) (w.heap.size+1+1) Z /\
  Below w.heap.size w (((w.alloc (.cells X 31)).alloc (.cells Y 31)).alloc (.cells Z 31))/\(((w.alloc (.cells X 31)).alloc (.cells Y 31)).alloc (.cells Z 31)).heap.size=w.heap.size+3:=by
 obtain ⟨h1,h2,h3,h4⟩:=El w X Y;obtain ⟨k1,k2,k3⟩:=CV ((w.alloc (.cells X 31)).alloc (.cells Y 31)) Z;rw[h4]at k1 k3;have e2:w.heap.size+2=w.heap.size+1+1:=rfl;rw[e2]at k1;exact ⟨h1.alloc _,h2.alloc _,k1,h3.next (Ae _ _),by omega⟩
theorem Al {w:World} {ops:Array Oper} {rest:List Oper} {o:Oper} {a:Act} {Q:Exit->Act->World->Prop} (hgd:o.guard=none) (x y:Operand) (ho:o.op=.store 31 x y)
  (g:Nat) (s:Bool) (A:Option Addr) (n c:Nat) (hx:a.eval x=.pointer (some ⟨g,0,none⟩)) (hy:a.eval y=.agg #[.bool s,.slice A n c]) (u v:Value) (hb:AY w g #[u,v])
  (h:∀w',AY w' g #[.bool s,.slice A n c]->Ao g w w'->wpList Tryz.prog ops Q rest (a.put o.dst undef) w'):wpList Tryz.prog ops Q (o::rest) a w:=by
 refine wpList_store_row hgd 31 x y ho g #[.bool s,.slice A n c] hx hy 31 #[u,v] hb (by kernel_rfl) rfl (by simp[Value.oneCell']) ?_;refine h _ ?_ (CF w g _);have:=setRow_heap w g #[u,v] #[.bool s,.slice A n c] _ _ hb;exact this
theorem AY.set2 {w:World} {g:Nat} {u v:Value} (h:AY w g #[u,v]) (x y:Value):AY ((w.setCell ⟨g,0,none⟩ x).setCell ⟨g,1,none⟩ y) g #[x,y]:=by unfold AY at h ⊢;simp[World.setCell,Array.getElem?_modify,h]
theorem Bu (w:World) (g:Nat) (x y:Value):Ao g w ((w.setCell ⟨g,0,none⟩ x).setCell ⟨g,1,none⟩ y):=((Ao.refl g w).setCell 0 x).setCell 1 y
theorem Av {fn:Func} {R:Ending->World->Prop} {a:Act} {w:World} {g p:Nat} {x y:Value} (hres:fn.results=#[.cell p 31]) (hp:a.tmps.getD p undef=.pointer (some ⟨g,0,none⟩))
  (hb:AY w g #[x,y]) (hd:a.defers=[]) (hR:R (.returned (.agg #[x,y])) w):bodyPost Tryz.prog fn R .ret a w:=
 bodyPost_ret (results_cell_row hres _ _ g _ #[x,y] _ _ hp hb Tryz.underlying31 rfl (by kernel_rfl)) hd hR
theorem Am.offBlk {w:World} {A:Option Addr} {n g:Nat} {xs:List Nat} {s:Bool} {B:Option Addr} {m d:Nat} (h:Am w A n xs) (hb:AY w g #[.bool s,.slice B m d]):0<n->Apart A g:=by
 intro hn ad had he;obtain ⟨b,o,e,hc⟩:=h.2.2 hn;have h0:=hc 0 hn;rw[had]at e;injection e with e
 subst e;have he':b=g:=he;subst he';rw[cell_of_row w b _ _ _ _ hb]at h0;match o,h0 with
 |0,h0=>simp at h0
 |1,h0=>simp at h0
 |o+2,h0=>simp at h0
theorem Am.keepBlk {w w':World} {A:Option Addr} {n g:Nat} {xs:List Nat} {s:Bool} {B:Option Addr} {m d:Nat} (h:Am w A n xs) (hb:AY w g #[.bool s,.slice B m d]) (ho:Ao g w w'):Am w' A n xs:=h.grown' ho (h.offBlk hb)
end
section
open Go.RowKit
open Limb (limb AE upto upto_succ Ap Aq)
def sg (s:Bool) (n:Nat):Int:=if s then -(n:Int) else (n:Int)
theorem EE (n:Nat):sg true n=-(n:Int):=rfl
theorem Fg (n:Nat):sg false n=(n:Int):=rfl
theorem CH (s:Bool) (n:Nat):(sg s n).natAbs=n:=by cases s<;>simp[sg]
theorem Gj (s:Bool):sg s 0=0:=by cases s<;>rfl
theorem Qt (Z:Int):sg (decide (Z<0)) Z.natAbs=Z:=by
 by_cases h:Z<0
 · simp[h,sg];omega
 · simp[h,sg];omega
theorem Qu (s:Bool) (n:Nat) (h:0<n):decide (sg s n<0)=s:=by cases s<;>simp[sg]<;>omega
def BF (w:World) (v:Value) (Z:Int) (k:Nat):Prop:=∃s A n c xs,v=.agg #[.bool s,.slice A n c]/\Am w A n xs/\n<=c/\c<=9223372036854775807/\n<=k/\Z=sg s (Limb.val xs)
def Au (w:World) (v:Value) (Z:Int) (k:Nat):Prop:=∃A n c,v=.agg #[.bool (decide (Z<0)),.slice A n c]/\Am w A n (Limb.canon Z.natAbs)/\n<=c/\c<=9223372036854775807/\n<=k
theorem Au.form {w:World} {v:Value} {Z:Int} {k:Nat} (h:Au w v Z k):∃s A n c,v=.agg #[.bool s,.slice A n c]:=by obtain ⟨A,n,c,rfl,_⟩:=h;exact ⟨_,A,n,c,rfl⟩
theorem Au.in_ {w:World} {v:Value} {Z:Int} {k:Nat} (h:Au w v Z k):BF w v Z k:=by obtain ⟨A,n,c,rfl,h1,h2,h3,h4⟩:=h;exact ⟨_,A,n,c,_,rfl,h1,h2,h3,h4,by rw[Limb.val_canon,Qt]⟩
theorem BF.below {w w':World} {v:Value} {Z:Int} {k:Nat} (h:BF w v Z k) (hb:Below w.heap.size w w'):BF w' v Z k:=by obtain ⟨s,A,n,c,xs,rfl,h1,h2,h3,h4,h5⟩:=h;exact ⟨s,A,n,c,xs,rfl,h1.below hb,h2,h3,h4,h5⟩
theorem Au.below {w w':World} {v:Value} {Z:Int} {k:Nat} (h:Au w v Z k) (hb:Below w.heap.size w w'):Au w' v Z k:=by obtain ⟨A,n,c,rfl,h1,h2,h3,h4⟩:=h;exact ⟨A,n,c,rfl,h1.below hb,h2,h3,h4⟩
theorem BF.mono {w:World} {v:Value} {Z:Int} {k j:Nat} (h:BF w v Z k) (hj:k<=j):BF w v Z j:=by obtain ⟨s,A,n,c,xs,rfl,h1,h2,h3,h4,h5⟩:=h;exact ⟨s,A,n,c,xs,rfl,h1,h2,h3,by omega,h5⟩
theorem BF.lt {w:World} {v:Value} {Z:Int} {k:Nat} (h:BF w v Z k):Z.natAbs<4294967296^k:=by obtain ⟨s,A,n,c,xs,rfl,h1,h2,h3,h4,rfl⟩:=h;rw[CH];exact Nat.lt_of_lt_of_le h1.lt (Limb.pow_mono h4)
theorem Au.short {w:World} {v:Value} {Z:Int} {k j:Nat} (h:Au w v Z k) (hj:Z.natAbs<4294967296^j):Au w v Z j:=by obtain ⟨A,n,c,rfl,h1,h2,h3,h4⟩:=h;exact ⟨A,n,c,rfl,h1,h2,h3,CG h1 hj⟩
theorem Au.only {w w':World} {v:Value} {Z:Int} {k g:Nat} {s:Bool} {B:Option Addr} {m d:Nat} (h:Au w v Z k) (hb:AY w g #[.bool s,.slice B m d]) (ho:Ao g w w'):Au w' v Z k:=by obtain ⟨A,n,c,rfl,h1,h2,h3,h4⟩:=h;exact ⟨A,n,c,rfl,h1.keepBlk hb ho,h2,h3,h4⟩
theorem Au.zero (w:World) (k:Nat):Au w (.agg #[.bool false,.slice none 0 0]) 0 k:=⟨none,0,0,rfl,Am.nil _ _,by omega,by omega,by omega⟩
theorem Au.ofEq {w:World} {v:Value} {Z Y:Int} {k:Nat} (h:Au w v Z k) (e:Z=Y):Au w v Y k:=e▸h
def CW (Z:Int) (k:Nat) (w:World) (e:Ending) (w':World):Prop:=∃v,e=.returned v/\Au w' v Z k/\Below w.heap.size w w'
def MM (s:Bool) (A:Option Addr) (n c N:Nat) (w:World) (e:Ending) (w':World):Prop:=e=.returned (.agg #[.bool (decide (sg s N<0)),.slice A n c])/\Below w.heap.size w w'
theorem AX (s:Bool) (A:Option Addr) (n c N:Nat) (w:World) (hn:n=(Limb.canon N).length) (hm:n<=9223372036854775807) :
   Calls Tryz.prog 54 #[.bool s,.slice A n c] w (MM s A n c N w):=by
 by_cases h0:N=0
 · subst h0;obtain rfl:n=0:=hn;cases s with
   |true=>
    go_enter Tryz.func54,Tryz.ntmps54;go_wp2_with fail;refine Av rfl rfl (AY.new _ _) rfl ?_;exact ⟨rfl,Ae _ _⟩
   |false=>
    go_enter Tryz.func54,Tryz.ntmps54;go_wp2_with fail;refine Av rfl rfl (AY.new _ _) rfl ?_;exact ⟨rfl,Ae _ _⟩
 · have hp:0<n:=by
    rcases Nat.eq_zero_or_pos n with h|h
    · exact absurd ((Limb.canon_len_zero N).1 (by omega)) h0
    · exact h
   have hs:=Ad (Qu s N (Nat.pos_of_ne_zero h0));clear hn h0;cases s with
   |true=>
    go_enter Tryz.func54,Tryz.ntmps54;go_wp2_with fail;refine Av rfl rfl (AY.new _ _) rfl ?_;exact ⟨by rw[hs.out],Ae _ _⟩
   |false=> go_enter Tryz.func54,Tryz.ntmps54;go_wp2_with fail;refine Av rfl rfl (AY.new _ _) rfl ?_;exact ⟨by rw[hs.out],Ae _ _⟩
theorem AH {w w1 w2:World} {g:Nat} (h1:Below w.heap.size w w1) (hg:w.heap.size<=g) (ho:Ao g w1 w2):Below w.heap.size w w2:=h1.trans (ho.below h1.size hg)
theorem BJ {w:World} {base:Nat} {A:Option Addr} {n c N k:Nat} {s:Bool} (o:Own w base A n c N) (hN:N<4294967296^k):Au w (.agg #[.bool (decide (sg s N<0)),.slice A n c]) (sg s N) k:=by have:=o.2.2.1;exact ⟨A,n,c,rfl,by rw[CH];exact o.nums,o.2.1,by omega,CG o.nums hN⟩
theorem DU (s:Bool) (A:Option Addr) (n c k:Nat) (xs:List Nat) (w:World) (hx:Am w A n xs) (hc:n<=c) (hm:c<=9223372036854775807) (hk:n<=k) (hb:k<=1099511627776) :
  Calls Tryz.prog 93 #[.bool s,.slice A n c] w (CW (sg s (Limb.val xs)) k w):=by
 obtain ⟨z1,z2,z3⟩:=CV w #[.bool false,.slice none 0 0];have hlt:=Ad (Nat.lt_of_lt_of_le hx.lt (Limb.pow_mono hk));go_enter Tryz.func93,Tryz.ntmps93;go_wp2_with fail;refine (Do A n c xs _ (hx.below z2) hc hm (by omega)).mono ?_;rintro e w1 ⟨A1,n1,rfl,o1,b1⟩;have l1:=Ek o1;have k1:=z1.next b1;go_wp2_with fail;refine (AX s A1 n1 n1 (Limb.val xs) w1 o1.len (by omega)).mono ?_;rintro e w2 ⟨rfl,b2⟩;have k2:=k1.next b2;have r2:=(BJ (s:=s) o1 hlt.out).below b2
 go_wp2_with (with_reducible refine Al rfl _ _ rfl w.heap.size _ _ _ _ rfl rfl _ _ k2 ?_;intro w3 k3 ho3);refine Av rfl rfl k3 rfl ?_;exact ⟨_,rfl,r2.only k2 ho3,AH ((z2.next b1).next b2) (Nat.le_refl _) ho3⟩
def BA (Z:Int) (w:World) (e:Ending) (w':World):Prop:=e=.returned (.int .i64 Z.sign)/\Below w.heap.size w w'
theorem Cs (v:Value) (Z:Int) (k:Nat) (w:World) (hv:BF w v Z k) (hk:k<=1099511627776):Calls Tryz.prog 28 #[v] w (BA Z w):=by
 obtain ⟨s,A,n,c,xs,rfl,hx,hc,hm,hn,rfl⟩:=hv;obtain ⟨z1,z2,z3⟩:=CV w #[.bool s,.slice A n c];have hbits:=Qs A n c xs _ (hx.below z2) hc hm (by omega);unfold L0 at hbits;generalize Limb.val xs=N at *;by_cases h0:N=0
 · subst h0;rw[show Limb.bl 0=0 from rfl]at hbits;rw[Gj];go_enter Tryz.func28,Tryz.ntmps28;go_wp2_with fail;refine hbits.mono ?_;rintro e w' ⟨rfl,rfl⟩;go_wp2_with fail;go_ret
   exact ⟨rfl,z2⟩
 · have h1:((Limb.bl N:Int)==0)=false:=by
    have:=mt (Limb.bl_eq_zero N).1 h0;simp;omega
   generalize Limb.bl N=q at *;cases s with
   |true=>
    have hs:Hid (Int.sign (sg true N)=-1):=(by show _=_;rw[EE];exact Int.sign_eq_neg_one_of_neg (by omega));go_enter Tryz.func28,Tryz.ntmps28;go_wp2_with fail;refine hbits.mono ?_;rintro e w' ⟨rfl,rfl⟩;go_wp2_with fail;go_ret
    exact ⟨by rw[hs.out];rfl,z2⟩
   |false=>
    have hs:Hid (Int.sign (sg false N)=1):=(by show _=_;rw[Fg];exact Int.sign_eq_one_of_pos (by omega));go_enter Tryz.func28,Tryz.ntmps28;go_wp2_with fail;refine hbits.mono ?_;rintro e w' ⟨rfl,rfl⟩;go_wp2_with fail;go_ret
    exact ⟨by rw[hs.out];rfl,z2⟩
theorem Qv (s:Bool) (n:Nat):sg (!s) n=-sg s n:=by cases s<;>simp[sg]
theorem Sx (v:Value) (Z:Int) (k:Nat) (w:World) (hv:BF w v Z k) (hk:k<=1099511627776):Calls Tryz.prog 58 #[v] w (CW (-Z) k w):=by
 obtain ⟨s,A,n,c,xs,rfl,hx,hc,hm,hn,rfl⟩:=hv;obtain ⟨z0,z1,z2,z3⟩:=El w #[.bool s,.slice A n c] #[.bool false,.slice none 0 0];have hf:=DU (!s) A n c k xs _ (hx.below z2) hc hm hn hk;rw[Qv]at hf;go_enter Tryz.func58,Tryz.ntmps58;go_wp2_with fail;refine hf.mono ?_;rintro e w1 ⟨v1,rfl,r1,b1⟩;obtain ⟨s1,A1,n1,c1,rfl⟩:=r1.form;have k1:=z1.next b1;go_wp2_with (with_reducible refine Al rfl _ _ rfl (w.heap.size+1) _ _ _ _ rfl rfl _ _ k1 ?_;intro w3 k3 ho3)
 refine Av rfl rfl k3 rfl ?_;exact ⟨_,rfl,r1.only k1 ho3,AH (z2.next b1) (by omega) ho3⟩
theorem Qw (v:Value) (Z:Int) (k:Nat) (w:World) (hv:BF w v Z k) (hk:k<=1099511627776):Calls Tryz.prog 78 #[v] w (CW (Z.natAbs:Int) k w):=by
 obtain ⟨s,A,n,c,xs,rfl,hx,hc,hm,hn,rfl⟩:=hv;rw[CH];obtain ⟨z0,z1,z2,z3⟩:=El w #[.bool s,.slice A n c] #[.bool false,.slice none 0 0];have hf:=DU false A n c k xs _ (hx.below z2) hc hm hn hk;go_enter Tryz.func78,Tryz.ntmps78;go_wp2_with fail;refine hf.mono ?_;rintro e w1 ⟨v1,rfl,r1,b1⟩;obtain ⟨s1,A1,n1,c1,rfl⟩:=r1.form;have k1:=z1.next b1;go_wp2_with (with_reducible refine Al rfl _ _ rfl (w.heap.size+1) _ _ _ _ rfl rfl _ _ k1 ?_;intro w3 k3 ho3);refine Av rfl rfl k3 rfl ?_
 exact ⟨_,rfl,r1.only k1 ho3,AH (z2.next b1) (by omega) ho3⟩
end
section
open Go.RowKit
open Limb (limb AE upto upto_succ Ap Aq)
def Fh (Z Y:Int) (w:World) (e:Ending) (w':World):Prop:=e=.returned (.int .i64 (BE Z Y))/\Below w.heap.size w w'
theorem K7 {a b:Int} (h:a<b):BE a b=-1:=by unfold BE;rw[if_pos h]
theorem K8 {a b:Int} (h:b<a):BE a b=1:=by unfold BE;rw[if_neg (by omega),if_pos h]
theorem ON (Z Y:Int) (h:Z.sign≠Y.sign):BE Z.sign Y.sign=BE Z Y:=by
 have key:(Z.sign<Y.sign/\Z<Y)\/(Y.sign<Z.sign/\Y<Z):=by
   rcases Int.lt_trichotomy Z 0 with h1|h1|h1<;>rcases Int.lt_trichotomy Y 0 with h2|h2|h2
   all_goals
    first
    |rw[Int.sign_eq_neg_one_of_neg h1]at h ⊢
    |rw[Int.sign_eq_one_of_pos h1]at h ⊢
    |rw[h1,Int.sign_zero]at h ⊢
    first
    |rw[Int.sign_eq_neg_one_of_neg h2]at h ⊢
    |rw[Int.sign_eq_one_of_pos h2]at h ⊢
    |rw[h2,Int.sign_zero]at h ⊢
    first
    |exact absurd rfl h
    |omega
 rcases key with ⟨k1,k2⟩|⟨k1,k2⟩
 · rw[K7 k1,K7 k2]
 · rw[K8 k1,K8 k2]
theorem Qx (N M:Nat):ET M N=BE (sg true N) (sg true M):=by unfold ET BE;rw[EE,EE];split<;>split<;>(try split)<;>omega
theorem Qy (s t:Bool) (N M:Nat) (hs:(sg s N).sign=(sg t M).sign) (h:¬(sg s N).sign<0):ET N M=BE (sg s N) (sg t M):=by
 have e1:sg s N=(N:Int):=by
  cases s with
  |false=>rfl
  |true=>
   have:¬(sg true N<0):=fun hh=>h (by rw[Int.sign_eq_neg_one_of_neg hh];omega)
   rw[EE]at this ⊢;omega
 have e2:sg t M=(M:Int):=by
  cases t with
  |false=>rfl
  |true=>
   have:¬(sg true M<0):=fun hh=>h (by rw[hs,Int.sign_eq_neg_one_of_neg hh];omega)
   rw[EE]at this ⊢;omega
 rw[e1,e2];rfl
theorem OO (s t:Bool) (N M:Nat) (hs:(sg s N).sign=(sg t M).sign) (h:(sg s N).sign<0):ET M N=BE (sg s N) (sg t M):=by
 have e1:s=true:=by
  cases s with
  |true=>rfl
  |false=>exfalso;have:=Int.sign_nonneg_iff.2 (show (0:Int)<=sg false N by rw[Fg];omega);omega
 have e2:t=true:=by
  cases t with
  |true=>rfl
  |false=>exfalso;have:=Int.sign_nonneg_iff.2 (show (0:Int)<=sg false M by rw[Fg];omega);omega
 subst e1 e2;exact Qx N M
theorem Ir (Z:Int):-1<=Z.sign/\Z.sign<=1:=by
 rcases Int.lt_trichotomy Z 0 with h1|h1|h1
 · rw[Int.sign_eq_neg_one_of_neg h1];omega
 · subst h1;rw[Int.sign_zero];omega
 · rw[Int.sign_eq_one_of_pos h1];omega
theorem L1 (v u:Value) (Z Y:Int) (k:Nat) (w:World) (hv:BF w v Z k) (hu:BF w u Y k) (hk:k<=1099511627776):Calls Tryz.prog 65 #[v,u] w (Fh Z Y w):=by
 have hr1:=Ir Z;have hr2:=Ir Y;have hv0:=hv;have hu0:=hu;obtain ⟨s,A,n,c,xs,rfl,hx,hc,hm,hn,hZ⟩:=hv;obtain ⟨t,B,m,d,ys,rfl,hy,hd,hmd,hmk,hY⟩:=hu;obtain ⟨x0,y0,z2,-⟩:=El w #[.bool s,.slice A n c] #[.bool t,.slice B m d];have hs1:=Cs _ Z k _ (hv0.below z2) hk;by_cases hs:Z.sign=Y.sign
 · by_cases hneg:Z.sign<0
   · have HF:=Ad (show ET (Limb.val ys) (Limb.val xs)=BE Z Y by subst hZ hY;exact OO s t _ _ hs hneg);have hne:(Z.sign != Z.sign)=false:=(by simp);have HS:=Ad hs.symm;clear hZ hY hs;have hs2:∀w1,Below _ _ w1->Calls Tryz.prog 28 #[.agg #[.bool t,.slice B m d]] w1 (BA Y w1):=fun w1 hb=>Cs _ Y k w1 ((hu0.below z2).below hb) hk
     unfold BA at hs1 hs2;rw[HS.out]at hs2;generalize Z.sign=q at *;have HS2:=Ad hs2;clear hs2;go_enter Tryz.func65,Tryz.ntmps65;go_wp2_with fail;refine hs1.mono ?_;rintro e w1 ⟨rfl,b1⟩;have x1:=x0.next b1;have y1:=y0.next b1;have x1a:=x1.c0;have x1b:=x1.c1;have y1a:=y1.c0;have y1b:=y1.c1;go_wp2_with fail;refine (HS2.out w1 b1).mono ?_;rintro e w2 ⟨rfl,b2⟩;have x2:=x1.next b2;have y2:=y1.next b2;have x2a:=x2.c0;have x2b:=x2.c1;have y2a:=y2.c0;have y2b:=y2.c1
     have t2:=(z2.next b1).next b2;clear hs1;go_wp2_with fail;refine (Ht B A m d n c ys xs w2 (hy.below t2) hd hmd (hx.below t2) hc hm).mono ?_;rintro e w3 ⟨rfl,hw3⟩;have b3:Below w2.heap.size w2 w3:=(by obtain ⟨j,rfl⟩:=hw3;exact Ak w2 j);clear hw3;go_wp2_with fail;go_ret
     exact ⟨by rw[HF.out];rfl,t2.next b3⟩
   · have HF:=Ad (show ET (Limb.val xs) (Limb.val ys)=BE Z Y by subst hZ hY;exact Qy s t _ _ hs hneg);have hne:(Z.sign != Z.sign)=false:=(by simp);have HS:=Ad hs.symm;clear hZ hY hs;have hs2:∀w1,Below _ _ w1->Calls Tryz.prog 28 #[.agg #[.bool t,.slice B m d]] w1 (BA Y w1):=fun w1 hb=>Cs _ Y k w1 ((hu0.below z2).below hb) hk
     unfold BA at hs1 hs2;rw[HS.out]at hs2;generalize Z.sign=q at *;have HS2:=Ad hs2;clear hs2;go_enter Tryz.func65,Tryz.ntmps65;go_wp2_with fail;refine hs1.mono ?_;rintro e w1 ⟨rfl,b1⟩;have x1:=x0.next b1;have y1:=y0.next b1;have x1a:=x1.c0;have x1b:=x1.c1;have y1a:=y1.c0;have y1b:=y1.c1;go_wp2_with fail;refine (HS2.out w1 b1).mono ?_;rintro e w2 ⟨rfl,b2⟩;have x2:=x1.next b2;have y2:=y1.next b2;have x2a:=x2.c0;have x2b:=x2.c1;have y2a:=y2.c0;have y2b:=y2.c1
     have t2:=(z2.next b1).next b2;clear hs1;go_wp2_with fail;refine (Ht A B n c m d xs ys w2 (hx.below t2) hc hm (hy.below t2) hd hmd).mono ?_;rintro e w3 ⟨rfl,hw3⟩;have b3:Below w2.heap.size w2 w3:=(by obtain ⟨j,rfl⟩:=hw3;exact Ak w2 j);clear hw3;go_wp2_with fail;go_ret
     exact ⟨by rw[HF.out];rfl,t2.next b3⟩
 · have HF:=Ad (ON _ _ hs);have hne:(Z.sign != Y.sign)=true:=(by simpa using hs);have HS2:=Ad (fun w1 (hb:Below _ _ w1)=>Cs _ Y k w1 ((hu0.below z2).below hb) hk);clear hZ hY hs;go_enter Tryz.func65,Tryz.ntmps65;go_wp2_with fail;refine hs1.mono ?_;rintro e w1 ⟨rfl,b1⟩;have x1:=x0.next b1;have y1:=y0.next b1;have x1a:=x1.c0;have x1b:=x1.c1;have y1a:=y1.c0;have y1b:=y1.c1;go_wp2_with fail;refine (HS2.out w1 b1).mono ?_;rintro e w2 ⟨rfl,b2⟩;have x2:=x1.next b2
   have y2:=y1.next b2;have x2a:=x2.c0;have x2b:=x2.c1;have y2a:=y2.c0;have y2b:=y2.c1;have t2:=(z2.next b1).next b2;clear hs1;go_wp2_with fail;refine (Cs _ Y k w2 (hu0.below t2) hk).mono ?_;rintro e w3 ⟨rfl,b3⟩;go_wp2_with fail;refine (GP Z.sign Y.sign w3).mono ?_;rintro e w' ⟨rfl,rfl⟩;go_wp2_with fail;go_ret
   exact ⟨by rw[HF.out];rfl,t2.next b3⟩
end
section
open Go.RowKit
open Limb (limb AE upto upto_succ Ap Aq)
theorem SV (s:Bool) (N M:Nat):sg s (N+M)=sg s N+sg s M:=by cases s<;>simp[sg]<;>omega
theorem Qz (s t:Bool) (N M:Nat) (h:s≠t) (hle:M<=N):sg s (N-M)=sg s N+sg t M:=by cases s<;>cases t<;>simp[sg] at*<;> omega
theorem SX (s t:Bool) (N M:Nat):sg (!(s==t)) (N*M)=sg s N*sg t M:=by cases s<;>cases t<;>simp[sg,Int.neg_mul,Int.mul_neg]
theorem SY {w w':World} (h:∃k,w'=w.drewN k):Below w.heap.size w w':=by obtain ⟨k,rfl⟩:=h;exact Ak w k
theorem SZ {w W w':World} (hb:Below w.heap.size w W) (h:∃k,w'=W.drewN k):Below w.heap.size w w':=hb.next (SY h)
theorem JL (v u:Value) (Z Y:Int) (k:Nat) (w:World) (hv:BF w v Z k) (hu:BF w u Y k) (hk:k<=137438953472):Calls Tryz.prog 56 #[v,u] w (CW (Z+Y) (k+1) w):=by
 have hlv:=Ad hv.lt;have hlu:=Ad hu.lt;obtain ⟨s,A,n,c,xs,rfl,hx,hc,hm,hn,rfl⟩:=hv;obtain ⟨t,B,m,d,ys,rfl,hy,hd,hmd,hmk,rfl⟩:=hu;rw[CH]at hlv hlu;obtain ⟨x0,y0,r0,z2,-⟩:=ED w #[.bool s,.slice A n c] #[.bool t,.slice B m d] #[.bool false,.slice none 0 0];by_cases hst:s=t
 · subst hst;rw[<-SV];have heq:(s==s)=true:=(by simp);have hl:=Ad (add_lt _ _ _ hlv.out hlu.out);go_enter Tryz.func56,Tryz.ntmps56;go_wp2_with fail;go_region_held3 (fun w'=>w'.cell? ⟨w.heap.size,0,none⟩=some (.bool s)/\w'.cell? ⟨w.heap.size,1,none⟩=some (.slice A n c)/\w'.cell? ⟨w.heap.size+1,1,none⟩=some (.slice B m d))
     (first|exact ⟨x0.drew.c0,x0.drew.c1,y0.drew.c1⟩|exact ⟨x1.c0,x1.c1,y1.c1⟩|exact ⟨x2.c0,x2.c1,y2.c1⟩|exact ⟨(x2.other (Bu _ _ _ _) (by omega)).c0,(x2.other (Bu _ _ _ _) (by omega)).c1,(y2.other (Bu _ _ _ _) (by omega)).c1⟩)
     (first
      |(go_at_call 90;(with_reducible refine (Kw A B n c m d xs ys _ (hx.below z2).drew hc hm (by omega) (hy.below z2).drew hd hmd (by omega)).mono ?_);rintro e w1 ⟨A1,n1,rfl,o1,b1⟩;have l1:=Ek o1;have x1:=x0.drew.next b1;have y1:=y0.drew.next b1)
      |(go_at_call 54;(with_reducible refine (AX s A1 n1 n1 _ w1 o1.len (by omega)).mono ?_);rintro e w2 ⟨rfl,b2⟩;have x2:=x1.next b2;have y2:=y1.next b2;have k2:=(r0.drew.next b1).next b2;have k2a:=k2.c0;have k2b:=k2.c1;have k2c:=k2.fr 0;have k2d:=k2.fr 1))
   go_wp2_with fail;refine Av rfl rfl (k2.set2 _ _) rfl ?_;exact ⟨_,rfl,((BJ o1 hl.out).below b2).only k2 (Bu _ _ _ _),AH ((z2.drew.next b1).next b2) (by omega) (Bu _ _ _ _)⟩
 · have hne:(s==t)=false:=(by simpa using hst);by_cases hle:Limb.val ys<=Limb.val xs
   · rw[<-Qz s t _ _ hst hle];have hl:=Ad (show Limb.val xs-Limb.val ys<4294967296^(k+1) from Nat.lt_of_le_of_lt (Nat.sub_le _ _) (Nat.lt_of_lt_of_le hlv.out (Limb.pow_mono (by omega))));clear hst;go_enter Tryz.func56,Tryz.ntmps56;go_wp2_with fail;refine (NS A B n c m d xs ys _ (hx.below z2) hc hm (by omega) (hy.below z2) hd hmd hle).mono ?_;rintro e w1 ⟨A1,n1,rfl,o1,b1⟩;have hn1:=Ek o1;have x1:=(x0.next b1).c0;go_wp2_with fail
     refine (AX s A1 n1 n1 _ w1 o1.len (by omega)).mono ?_;rintro e w2 ⟨rfl,b2⟩;have k2:=(r0.next b1).next b2;go_wp2_with (with_reducible refine Al rfl _ _ rfl (w.heap.size+1+1) _ _ _ _ rfl rfl _ _ k2 ?_;intro w3 k3 ho3);refine Av rfl rfl k3 rfl ?_;exact ⟨_,rfl,((BJ o1 hl.out).below b2).only k2 ho3,AH ((z2.next b1).next b2) (by omega) ho3⟩
   · rw[Int.add_comm,<-Qz t s _ _ (Ne.symm hst) (by omega)];have hl:=Ad (show Limb.val ys-Limb.val xs<4294967296^(k+1) from Nat.lt_of_le_of_lt (Nat.sub_le _ _) (Nat.lt_of_lt_of_le hlu.out (Limb.pow_mono (by omega))));clear hst;go_enter Tryz.func56,Tryz.ntmps56;go_wp2_with fail;refine (SB A B n c m d xs ys _ (hx.below z2) hc hm (hy.below z2) hd hmd (by omega)).mono ?_;rintro e w1 ⟨rfl,hw1⟩;have b1:=SZ z2 hw1;have c1:=SY hw1;clear hw1;have x1:=x0.next c1;have y1:=y0.next c1
     have x1a:=x1.c1;have y1a:=y1.c0;have y1b:=y1.c1;go_wp2_with fail;refine (NS B A m d n c ys xs _ (hy.below b1) hd hmd (by omega) (hx.below b1) hc hm (by omega)).mono ?_;rintro e w2 ⟨A1,n1,rfl,o1,b2⟩;have hn1:=Ek o1;have y2:=(y1.next b2).c0;go_wp2_with fail;refine (AX t A1 n1 n1 _ w2 o1.len (by omega)).mono ?_;rintro e w3 ⟨rfl,b3⟩;have k3:=((r0.next c1).next b2).next b3
     go_wp2_with (with_reducible refine Al rfl _ _ rfl (w.heap.size+1+1) _ _ _ _ rfl rfl _ _ k3 ?_;intro w4 k4 ho4);refine Av rfl rfl k4 rfl ?_;exact ⟨_,rfl,((BJ o1 hl.out).below b3).only k3 ho4,AH ((b1.next b2).next b3) (by omega) ho4⟩
theorem BF.neg {w:World} {s:Bool} {A:Option Addr} {n c k:Nat} {xs:List Nat} (hx:Am w A n xs) (hc:n<=c) (hm:c<=9223372036854775807) (hn:n<=k):BF w (.agg #[.bool (!s),.slice A n c]) (-sg s (Limb.val xs)) k:=
 ⟨!s,A,n,c,xs,rfl,hx,hc,hm,hn,(Qv s _).symm⟩
theorem TJ (v u:Value) (Z Y:Int) (k:Nat) (w:World) (hv:BF w v Z k) (hu:BF w u Y k) (hk:k<=137438953472):Calls Tryz.prog 55 #[v,u] w (CW (Z-Y) (k+1) w):=by
 have hv0:=hv;obtain ⟨s,A,n,c,xs,rfl,-⟩:=hv;obtain ⟨t,B,m,d,ys,rfl,hy,hd,hmd,hmk,rfl⟩:=hu;obtain ⟨x0,y0,r0,z2,-⟩:=ED w #[.bool s,.slice A n c] #[.bool (!t),.slice B m d] #[.bool false,.slice none 0 0];have ha:=JL _ _ Z _ k _ (hv0.below z2) (BF.neg (s:=t) (hy.below z2) hd hmd hmk) hk;rw[<-Int.sub_eq_add_neg]at ha;go_enter Tryz.func55,Tryz.ntmps55;go_wp2_with fail;refine ha.mono ?_;rintro e w1 ⟨v1,rfl,r1,b1⟩;obtain ⟨s1,A1,n1,c1,rfl⟩:=r1.form;have k1:=r0.next b1
 go_wp2_with (with_reducible refine Al rfl _ _ rfl (w.heap.size+1+1) _ _ _ _ rfl rfl _ _ k1 ?_;intro w3 k3 ho3);refine Av rfl rfl k3 rfl ?_;exact ⟨_,rfl,r1.only k1 ho3,AH (z2.next b1) (by omega) ho3⟩
theorem Sy (v u:Value) (Z Y:Int) (k j:Nat) (w:World) (hv:BF w v Z k) (hu:BF w u Y j) (hk:k<=137438953472) (hj:j<=137438953472):Calls Tryz.prog 60 #[v,u] w (CW (Z*Y) (k+j) w):=by
 have hlv:=Ad hv.lt;have hlu:=Ad hu.lt;obtain ⟨s,A,n,c,xs,rfl,hx,hc,hm,hn,rfl⟩:=hv;obtain ⟨t,B,m,d,ys,rfl,hy,hd,hmd,hmk,rfl⟩:=hu;rw[CH]at hlv hlu;have hl:=Ad (DO _ _ _ _ hlv.out hlu.out);rw[<-SX];obtain ⟨x0,y0,r0,z2,-⟩:=ED w #[.bool s,.slice A n c] #[.bool t,.slice B m d] #[.bool false,.slice none 0 0];go_enter Tryz.func60,Tryz.ntmps60;go_wp2_with fail
 go_region_held3 (fun w'=>w'.cell? ⟨w.heap.size,0,none⟩=some (.bool s)/\w'.cell? ⟨w.heap.size,1,none⟩=some (.slice A n c)/\w'.cell? ⟨w.heap.size+1,0,none⟩=some (.bool t)/\w'.cell? ⟨w.heap.size+1,1,none⟩=some (.slice B m d))
  (first|exact ⟨x0.drew.c0,x0.drew.c1,y0.drew.c0,y0.drew.c1⟩|exact ⟨x1.c0,x1.c1,y1.c0,y1.c1⟩|exact ⟨x2.c0,x2.c1,y2.c0,y2.c1⟩|exact ⟨(x2.other (Bu _ _ _ _) (by omega)).c0,(x2.other (Bu _ _ _ _) (by omega)).c1,(y2.other (Bu _ _ _ _) (by omega)).c0,(y2.other (Bu _ _ _ _) (by omega)).c1⟩)
  (first
   |(go_at_call 94;(with_reducible refine (R9 A B n c m d xs ys _ (hx.below z2).drew hc hm (hy.below z2).drew hd hmd (by omega)).mono ?_);rintro e w1 ⟨A1,n1,rfl,o1,b1⟩;have l1:=Ek o1;have x1:=x0.drew.next b1;have y1:=y0.drew.next b1)
   |(go_at_call 54;(with_reducible refine (AX (!(s==t)) A1 n1 n1 _ w1 o1.len (by omega)).mono ?_);rintro e w2 ⟨rfl,b2⟩;have x2:=x1.next b2;have y2:=y1.next b2;have k2:=(r0.drew.next b1).next b2;have k2a:=k2.c0;have k2b:=k2.c1;have k2c:=k2.fr 0;have k2d:=k2.fr 1))
 go_wp2_with fail;refine Av rfl rfl (k2.set2 _ _) rfl ?_;exact ⟨_,rfl,((BJ o1 hl.out).below b2).only k2 (Bu _ _ _ _),AH ((z2.drew.next b1).next b2) (by omega) (Bu _ _ _ _)⟩
theorem TL (v u:Value) (Z Y:Int) (k:Nat) (w:World) (hv:BF w v Z k) (hu:BF w u Y k) (hk:k<=1099511627776):Calls Tryz.prog 98 #[v,u] w (CW (if Y<Z then Y else Z) k w):=by
 have hv0:=hv;have hu0:=hu;obtain ⟨s,A,n,c,xs,rfl,hx,hc,hm,hn,hZ⟩:=hv;obtain ⟨t,B,m,d,ys,rfl,hy,hd,hmd,hmk,hY⟩:=hu;obtain ⟨x0,y0,r0,z2,-⟩:=ED w #[.bool s,.slice A n c] #[.bool t,.slice B m d] #[.bool false,.slice none 0 0];have hcm:=L1 _ _ Z Y k _ (hv0.below z2) (hu0.below z2) hk;unfold Fh at hcm;by_cases hlt:Y<Z
 · rw[K8 hlt]at hcm;rw[if_pos hlt];clear hlt hZ;go_enter Tryz.func98,Tryz.ntmps98;go_wp2_with fail;refine hcm.mono ?_;rintro e w1 ⟨rfl,b1⟩;clear hcm;have x1:=x0.next b1;have y1:=y0.next b1;have y1a:=y1.c0;have y1b:=y1.c1;go_wp2_with (with_reducible refine Al rfl _ _ rfl w.heap.size _ _ _ _ rfl rfl _ _ x1 ?_;intro w2 x2 ho2;have x2a:=x2.c0;have x2b:=x2.c1);have b2:=AH (z2.next b1) (Nat.le_refl _) ho2;have hf:=DU t B m d k ys w2 (hy.below b2) hd hmd hmk hk;rw[<-hY]at hf
   refine hf.mono ?_;rintro e w3 ⟨v3,rfl,r3,b3⟩;obtain ⟨s3,A3,n3,c3,rfl⟩:=r3.form;have k3:=((r0.next b1).other ho2 (by omega)).next b3;go_wp2_with (with_reducible refine Al rfl _ _ rfl (w.heap.size+1+1) _ _ _ _ rfl rfl _ _ k3 ?_;intro w4 k4 ho4);refine Av rfl rfl k4 rfl ?_;exact ⟨_,rfl,r3.only k3 ho4,AH (b2.next b3) (by omega) ho4⟩
 · have h1:¬(0<BE Z Y):=(by unfold BE;split<;>(try split)<;>omega);generalize BE Z Y=q at *;rw[if_neg hlt];clear hlt hY;go_enter Tryz.func98,Tryz.ntmps98;go_wp2_with fail;refine hcm.mono ?_;rintro e w1 ⟨rfl,b1⟩;clear hcm;have x1:=x0.next b1;have x1a:=x1.c0;have x1b:=x1.c1;have hf:=DU s A n c k xs w1 (hx.below (z2.next b1)) hc hm hn hk;rw[<-hZ]at hf;go_wp2_with fail;refine hf.mono ?_;rintro e w3 ⟨v3,rfl,r3,b3⟩;obtain ⟨s3,A3,n3,c3,rfl⟩:=r3.form;have k3:=(r0.next b1).next b3
   go_wp2_with (with_reducible refine Al rfl _ _ rfl (w.heap.size+1+1) _ _ _ _ rfl rfl _ _ k3 ?_;intro w4 k4 ho4);refine Av rfl rfl k4 rfl ?_;exact ⟨_,rfl,r3.only k3 ho4,AH ((z2.next b1).next b3) (by omega) ho4⟩
theorem TM (v u:Value) (Z Y:Int) (k:Nat) (w:World) (hv:BF w v Z k) (hu:BF w u Y k) (hk:k<=1099511627776):Calls Tryz.prog 97 #[v,u] w (CW (if Z<Y then Y else Z) k w):=by
 have hv0:=hv;have hu0:=hu;obtain ⟨s,A,n,c,xs,rfl,hx,hc,hm,hn,hZ⟩:=hv;obtain ⟨t,B,m,d,ys,rfl,hy,hd,hmd,hmk,hY⟩:=hu;obtain ⟨x0,y0,r0,z2,-⟩:=ED w #[.bool s,.slice A n c] #[.bool t,.slice B m d] #[.bool false,.slice none 0 0];have hcm:=L1 _ _ Z Y k _ (hv0.below z2) (hu0.below z2) hk;unfold Fh at hcm;by_cases hlt:Z<Y
 · rw[K7 hlt]at hcm;rw[if_pos hlt];clear hlt hZ;go_enter Tryz.func97,Tryz.ntmps97;go_wp2_with fail;refine hcm.mono ?_;rintro e w1 ⟨rfl,b1⟩;clear hcm;have x1:=x0.next b1;have y1:=y0.next b1;have y1a:=y1.c0;have y1b:=y1.c1;go_wp2_with (with_reducible refine Al rfl _ _ rfl w.heap.size _ _ _ _ rfl rfl _ _ x1 ?_;intro w2 x2 ho2;have x2a:=x2.c0;have x2b:=x2.c1);have b2:=AH (z2.next b1) (Nat.le_refl _) ho2;have hf:=DU t B m d k ys w2 (hy.below b2) hd hmd hmk hk;rw[<-hY]at hf
   refine hf.mono ?_;rintro e w3 ⟨v3,rfl,r3,b3⟩;obtain ⟨s3,A3,n3,c3,rfl⟩:=r3.form;have k3:=((r0.next b1).other ho2 (by omega)).next b3;go_wp2_with (with_reducible refine Al rfl _ _ rfl (w.heap.size+1+1) _ _ _ _ rfl rfl _ _ k3 ?_;intro w4 k4 ho4);refine Av rfl rfl k4 rfl ?_;exact ⟨_,rfl,r3.only k3 ho4,AH (b2.next b3) (by omega) ho4⟩
 · have h1:¬(BE Z Y<0):=(by unfold BE;split<;>(try split)<;>omega);generalize BE Z Y=q at *;rw[if_neg hlt];clear hlt hY;go_enter Tryz.func97,Tryz.ntmps97;go_wp2_with fail;refine hcm.mono ?_;rintro e w1 ⟨rfl,b1⟩;clear hcm;have x1:=x0.next b1;have x1a:=x1.c0;have x1b:=x1.c1;have hf:=DU s A n c k xs w1 (hx.below (z2.next b1)) hc hm hn hk;rw[<-hZ]at hf;go_wp2_with fail;refine hf.mono ?_;rintro e w3 ⟨v3,rfl,r3,b3⟩;obtain ⟨s3,A3,n3,c3,rfl⟩:=r3.form;have k3:=(r0.next b1).next b3
   go_wp2_with (with_reducible refine Al rfl _ _ rfl (w.heap.size+1+1) _ _ _ _ rfl rfl _ _ k3 ?_;intro w4 k4 ho4);refine Av rfl rfl k4 rfl ?_;exact ⟨_,rfl,r3.only k3 ho4,AH ((z2.next b1).next b3) (by omega) ho4⟩
end
section
open Go.RowKit
def Cf (w:World) (L:List (Nat×Value×Value)) (W:World):Prop:=Below w.heap.size w W/\∀p∈L,AY W p.1 #[p.2.1,p.2.2]/\w.heap.size<=p.1
variable {w W W':World} {L:List (Nat×Value×Value)} {g:Nat} {a b:Value}
theorem Cf.blk (h:Cf w L W) (hm:(g,a,b)∈L):AY W g #[a,b]:=(h.2 _ hm).1
theorem Cf.nil (h:Below w.heap.size w W):Cf w [] W:=⟨h,fun p hp=>by cases hp⟩
theorem Cf.add (h:Cf w L W) (hb:AY W g #[a,b]) (hg:w.heap.size<=g):Cf w ((g,a,b)::L) W:=
 ⟨h.1,fun p hp=>by
  rcases List.mem_cons.1 hp with rfl|hp
  · exact ⟨hb,hg⟩
  · exact h.2 p hp⟩
theorem Cf.drew (h:Cf w L W):Cf w L W.drew:=⟨h.1.drew,fun p hp=>h.2 p hp⟩
theorem Cf.call (h:Cf w L W) (k:Below W.heap.size W W'):Cf w L W':=⟨h.1.next k,fun p hp=>⟨(h.2 p hp).1.next k,(h.2 p hp).2⟩⟩
theorem Cf.far (h:Cf w L W) (ho:Ao g W W') (hg:w.heap.size<=g) (hne:∀p∈L,p.1≠g):Cf w L W':=
 ⟨AH h.1 hg ho,fun p hp=>⟨(h.2 p hp).1.other ho (hne p hp),(h.2 p hp).2⟩⟩
theorem Au.set2 {v:Value} {Z:Int} {k:Nat} {s:Bool} {B:Option Addr} {m d:Nat} (h:Au W v Z k) (hb:AY W g #[.bool s,.slice B m d]) (x y:Value):Au ((W.setCell ⟨g,0,none⟩ x).setCell ⟨g,1,none⟩ y) v Z k:=h.only hb (Bu W g x y)
def Ay (w:World) (B:Nat) (L:List (Nat×Value×Value)) (W:World):Prop:=Cf w L W/\B<=W.heap.size/\w.heap.size<=B/\∀p∈L,p.1<B
variable {B:Nat}
theorem Ay.keeps (h:Ay w B L W):Cf w L W:=h.1
theorem Ay.old (h:Ay w B L W):Below w.heap.size w W:=h.1.1
theorem Ay.size (h:Ay w B L W):B<=W.heap.size:=h.2.1
theorem Ay.drew (h:Ay w B L W):Ay w B L W.drew:=⟨h.1.drew,h.2⟩
theorem Ay.call (h:Ay w B L W) (k:Below W.heap.size W W'):Ay w B L W':=⟨h.1.call k,Nat.le_trans h.2.1 k.size,h.2.2⟩
theorem Ay.alloc (h:Ay w B L W) (o:Obj):Ay w B L (W.alloc o):=h.call (Ae W o)
theorem Ay.far (h:Ay w B L W) (ho:Ao g W W') (hg:B<=g):Ay w B L W':=
 ⟨h.1.far ho (by have:=h.2.2.1;omega) (fun p hp=>by have:=h.2.2.2 p hp;omega),Nat.le_trans h.2.1 (ho.below (B:=0) (Nat.zero_le _) (Nat.zero_le _)).size,h.2.2⟩
def st2 (W:World) (g:Nat) (x y:Value):World:=(W.setCell ⟨g,0,none⟩ x).setCell ⟨g,1,none⟩ y
theorem Dl (W:World) (g:Nat) (x y:Value):(W.setCell ⟨g,0,none⟩ x).setCell ⟨g,1,none⟩ y=st2 W g x y:=rfl
theorem Ay.st (h:Ay w B L W) (x y:Value) (hg:B<=g):Ay w B L (st2 W g x y):=h.far (Bu W g x y) hg
theorem AY.stOther {k:Nat} {cs:Array Value} {x y:Value} (h:AY W k cs) (hne:k≠g):AY (st2 W g x y) k cs:=h.other (Bu W g x y) hne
theorem Au.alloc {v:Value} {Z:Int} {k:Nat} (h:Au W v Z k) (o:Obj):Au (W.alloc o) v Z k:=h.below (Ae W o)
theorem Au.st {v:Value} {Z:Int} {k:Nat} {s:Bool} {A:Option Addr} {m d:Nat} {x y:Value} (h:Au W v Z k) (hb:AY W g #[.bool s,.slice A m d]):Au (st2 W g x y) v Z k:=h.set2 hb x y
theorem Ay.mk2 {g k:Nat} {a' b':Value} (h:Cf w [(g,a,b),(k,a',b')] W) (h1:B<=W.heap.size) (h2:w.heap.size<=B) (h3:g<B) (h4:k<B):Ay w B [(g,a,b),(k,a',b')] W:=
 ⟨h,h1,h2,fun p hp=>by
  rcases List.mem_cons.1 hp with rfl|hp
  · exact h3
  · rcases List.mem_cons.1 hp with rfl|hp
    · exact h4
    · cases hp⟩
end
end Go.Proofs.YtemfjdedjcjegaaGreatDoor
