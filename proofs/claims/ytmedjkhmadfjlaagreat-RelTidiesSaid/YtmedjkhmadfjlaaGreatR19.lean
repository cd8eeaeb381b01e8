/- Texts of one seat, put together: InsertP RVars RPlain. -/
import Derived.Test.YtmedjkhmadfjlaaGreatR18
set_option linter.unusedVariables false
set_option linter.unusedSimpArgs false
set_option maxRecDepth 100000
set_option maxHeartbeats 16000000
namespace Go.Proofs.YtmedjkhmadfjlaaGreat
section
open Go.RowKit
open Tm
def ints (xs:List Int):List Value:=xs.map fun x=>Value.int .i64 x
theorem Nc (xs:List Int):(ints xs).length=xs.length:=by simp[ints]
theorem Nf (xs ys:List Int):ints (xs++ys)=ints xs++ints ys:=by simp[ints]
theorem Sn (xs:List Int) (i:Nat) (x:Int) (h:xs[i]?=some x):(ints xs)[i]?=some (.int .i64 x):=by simp[ints,h]
def GW (w:World) (A:Option Addr) (n:Nat) (xs:List Int):Prop:=xs.length=n/\(0<n->∃b o,A=some ⟨b,o,none⟩/\∀j u,(ints xs)[j]?=some u->w.cell? ⟨b,o+j,none⟩=some u)
theorem GW.below {w w':World} {A:Option Addr} {n:Nat} {xs:List Int} (h:GW w A n xs) (hb:Below w.heap.size w w'):GW w' A n xs:=by refine ⟨h.1,fun hn=>?_⟩;obtain ⟨b,o,e,hc⟩:=h.2 hn;refine ⟨b,o,e,fun j u hu=>?_⟩;have h1:=hc j u hu;have hlt:=World.block_lt_of_cell? w _ h1;exact (World.cell?_of_block (w:=w) (a:=⟨b,o+j,none⟩) (hb.block b hlt)).trans h1
theorem GW.at_ {w:World} {A:Option Addr} {n i:Nat} {xs:List Int} (h:GW w A n xs) (hi:i<n):∃(b o:Nat) (x:Int),A=some ⟨b,o,none⟩/\b<w.heap.size/\xs[i]?=some x/\w.cell? ⟨b,o+i,none⟩=some (.int .i64 x):=by obtain ⟨b,o,e,hc⟩:=h.2 (by omega);have hx:xs[i]?=some (xs[i]'(by rw[h.1];exact hi)):=List.getElem?_eq_getElem _;have h1:=hc i _ (Sn xs i _ hx);exact ⟨b,o,_,e,World.block_lt_of_cell? w _ h1,hx,h1⟩
theorem AF.ints_in {w:World} {base n c:Nat} {A:Option Addr} {xs:List Int} (h:AF 3 1 w base (.slice A n c) n (ints xs)):GW w A n xs:=by
 have hl:xs.length=n:=by have:=h.1;rw[Nc]at this;omega
 refine ⟨hl,fun hn=>?_⟩;obtain ⟨g,rfl,-,-,hc⟩:=h.cell hn;exact ⟨g,0,rfl,fun j u hu=>by rw[Nat.zero_add];exact (hc j u hu).1⟩
theorem So:(Tryz.prog.info? 3).map (fun i=>(i.zero,i.size,i.bytes))=some (some (.int .i64 0),1,8):=by kernel_rfl
theorem Lt (w:World) (x:Int) (T:TypeId):(w.alloc (.cells #[.int .i64 x] T)).cell? ⟨w.heap.size,0,none⟩=some (.int .i64 x):=by rw[cell_of_row _ _ 0 _ _ _ (heap_alloc_new _ _)];rfl
theorem BQ {w:World} {ops:Array Oper} {rest:List Oper} {o:Oper} {a:Act} {Q:Exit->Act->World->Prop} (hgd:o.guard=none) (s x:Operand)
   (ho:o.op=.call { callee:=.builtin .append,args:=#[s,x],argTypes:=#[70,70] }) (base:Nat) (v:Value) (xs:List Int) (hs:a.eval s=v) (hown:AF 3 1 w base v xs.length (ints xs))
   (g:Nat) (y:Int) (hx:a.eval x=.slice (some ⟨g,0,none⟩) 1 1) (hc:w.cell? ⟨g,0,none⟩=some (.int .i64 y)) (hn:xs.length<=1099511627) (hbase:base<=w.heap.size)
   (h:∀v' w',AF 3 1 w' base v' (xs++[y]).length (ints (xs++[y]))->w.grownBy w' v.ownBlock->wpList Tryz.prog ops Q rest (a.put o.dst v') w'):wpList Tryz.prog ops Q (o::rest) a w:=by
 obtain ⟨i0,hi0,hz0,hz1,hz2⟩:=info_parts So;refine Df hgd s x 70 ho base 3 i0 _ 1 8 Tryz.underlying70 hi0 hz0 hz1 hz2 rfl (by decide) (fun u hu=>by simp[Value.cells]at hu;subst hu;exact NL.i64 _) v xs.length (ints xs) hs hown ⟨g,0,none⟩ 1 1 [.int .i64 y] hx rfl
   (fun j u hu=>?_) (fun u hu=>by simp at hu;subst hu;rfl) (fun u hu=>by simp at hu;subst hu;exact NL.i64 _) (by unfold maxLen;omega) (by omega) hbase ?_
 · cases j with
   |zero=>simp at hu;subst hu;exact hc
   |succ j=>simp at hu
 · intro v' w' h1 h2;refine h v' w' ?_ h2;rw[Nf,List.length_append];exact h1
def G5 (v:Int):Bool->List Int->List Int
 |dn,[]=>if dn then [] else [v]
 |dn,u::us=>(if !dn&&decide (v<=u) then [v] else [])++((if u≠v then [u] else [])++G5 v (dn || decide (v<=u)) us)
theorem JV (v:Int) (us:List Int) (h:∀u∈us,v<u):G5 v true us=us:=by
 induction us with
 |nil=>rfl
 |cons u us ih=> have h1:=h u (List.mem_cons_self ..);unfold G5;rw[if_neg (by simp),if_pos (by omega)];simp[ih (fun x hx=>h x (List.mem_cons_of_mem _ hx))]
theorem Ng (v:Int) (us:List Int) (b:Int) (h:Up b us):G5 v false us=FC v us:=by
 induction us generalizing b with
 |nil=>rfl
 |cons u us ih=>
  unfold G5 FC;rcases Int.lt_trichotomy v u with h1|h1|h1
  · rw[if_pos (by simp;omega),if_pos (by omega),if_pos h1];have hd:decide (v<=u)=true:=(by simp;omega);rw[hd,Bool.or_true,JV v us (fun x hx=>by have:=h.2.gt x hx;omega)];rfl
  · subst h1;rw[if_pos (by simp),if_neg (by simp),if_neg (by omega),if_pos rfl];have hd:decide (v<=v)=true:=(by simp);rw[hd,Bool.or_true,JV v us (fun x hx=>h.2.gt x hx)];rfl
  · rw[if_neg (by simp;omega),if_pos (by omega),if_neg (by omega),if_neg (by omega)];have hd:decide (v<=u)=false:=(by simp;omega);rw[hd,Bool.or_false,ih u h.2];rfl
def U3 (xs:List Int) (w:World) (e:Ending) (w':World):Prop:=∃A c,e=.returned (.slice A xs.length c)/\GW w' A xs.length xs/\xs.length<=c/\c<=9223372036854775807/\Below w.heap.size w w'
def GN (w0:World) (v:Int) (xs:List Int) (q:Nat) (dn:Bool) (sv:Value) (wr:World):Prop:=
 ∃os:List Int,AF 3 1 wr w0.heap.size sv os.length (ints os)/\os++G5 v dn (xs.drop q)=G5 v false xs/\Below w0.heap.size w0 wr/\os.length<=2*q
theorem Oq (A:Option Addr) (n c:Nat) (xs:List Int) (v b0:Int) (w0:World) (hx:GW w0 A n xs) (hn:n<=1099511) (hup:Up b0 xs):Calls Tryz.prog 43 #[.slice A n c,.int .i64 v] w0 (U3 (FC v xs) w0):=by
 have HV:=Ac (Ng v xs b0 hup);have hlen:=Ac hx.1;obtain ⟨y0,y1,-⟩:=Bh 3 w0 #[];have HS:=Ac (show GN w0 v xs 0 false (.slice (some ⟨w0.heap.size,0,none⟩) 0 0) (w0.alloc (.cells #[] 3)) from ⟨[],AF.made #[] 0 (Nat.le_refl _) (by unfold maxLen;omega) rfl (fun u hu=>by simp at hu),by simp,y1,by simp⟩);clear y0 y1 hup;go_enter Tryz.func43,Tryz.ntmps43;go_wp2_with fail
 go_loopw [5,6,7] (fun s t i wr=>∃(q:Nat) (dn:Bool),q<=n/\i=.int .i64 q/\t=.bool dn/\Hid (GN w0 v xs q dn s wr)) (fun _ _ i _=>n-(intOf i).toNat)
 case atStart=>exact ⟨0,false,Nat.zero_le _,rfl,rfl,HS⟩
 case round=>
  obtain ⟨q,dn,hq,rfl,rfl,HR⟩:=hrel;obtain ⟨os,lr,hos,hB,hol⟩:=HR.out;have HL:=Ac lr;have HB:=Ac hB;have hle:os.length<=1099511627:=by omega
  have hsz:=hB.size;by_cases hqn:q<n
  · obtain ⟨bb,o,u,rfl,hlt,hu,c0⟩:=(hx.below hB).at_ hqn;have hlt0:bb<w0.heap.size:=by
     obtain ⟨b',o',u',e',h',-,-⟩:=hx.at_ hqn;injection e' with e'
     injection e' with e'
     omega
    have HC:=Ac (show ∀w2,Below w0.heap.size w0 w2->w2.cell? ⟨bb,o+q,none⟩=some (.int .i64 u) from fun w2 h=>by
     obtain ⟨b',o',u',e',-,hu',h'⟩:=(hx.below h).at_ hqn;injection e' with e'
     injection e' with e1 e2
     rw[hu]at hu';injection hu' with hu'
     subst e1 e2 hu';exact h')
    rw[DL hu,G5]at hos;have HO:=Ac hos;clear hos hu HR lr hB;cases dn with
    |true=>
     by_cases huv:u=v
     · have hne:(u != v)=false:=(by simp[huv]);have HE:=Ac (show GN w0 v xs (q+1) true _ wr from ⟨os,HL.out,by have:=HO.out;rw[if_neg (by simp),if_neg (by simp[huv])]at this;simpa using this,HB.out,by omega⟩);clear huv;go_wp2_with fail;go_roundw
       case rel=>exact ⟨q+1,true,by omega,by go_num,rfl,HE⟩
       case measure=>simp[intOf]<;>omega
     · have hne:(u != v)=true:=(by simp[huv]);have HE:=Ac (show ∀v' w',AF 3 1 w' w0.heap.size v' (os++[u]).length (ints (os++[u]))->Below w0.heap.size w0 w'->GN w0 v xs (q+1) true v' w' from fun v' w' h1 h2=>⟨os++[u],h1,by have:=HO.out;rw[if_neg (by simp),if_pos huv]at this;simpa using this,h2,by simp;omega⟩);clear huv;go_wp2_with (at_builtin;refine BQ rfl _ _ rfl w0.heap.size _ os rfl (HL.out.below (Af _ _)) _ u rfl (Lt _ _ _) hle (by simp;omega) ?_;intro v' w1 l1 g1)
       have HE1:=Ac (HE.out v' w1 (by simpa using l1) ((HL.out.below (Af wr (.cells #[.int .i64 u] 3))).old (HB.out.trans ((Af wr (.cells #[.int .i64 u] 3)).mono hsz)) g1 (Nat.le_refl _) (Nat.le_refl _)));clear l1 g1 c0;go_wp2_with fail;go_roundw
       case rel=>exact ⟨q+1,true,by omega,by go_num,rfl,HE1⟩
       case measure=>simp[intOf]<;>omega
    |false=>
     by_cases hvu:v<=u
     · have hge:decide (v<=u)=true:=(by simpa using hvu);by_cases huv:u=v
       · have hne:(u != v)=false:=(by simp[huv]);have HE:=Ac (show ∀v' w',AF 3 1 w' w0.heap.size v' (os++[v]).length (ints (os++[v]))->Below w0.heap.size w0 w'->GN w0 v xs (q+1) true v' w' from fun v' w' h1 h2=>⟨os++[v],h1,by have:=HO.out;rw[if_pos (by simpa using hvu),if_neg (by simp[huv])]at this;simpa[hvu] using this,h2,by simp;omega⟩);clear huv hvu
         go_wp2_with (at_builtin;refine BQ rfl _ _ rfl w0.heap.size _ os rfl (HL.out.below (Af _ _)) _ v rfl (Lt _ _ _) hle (by simp;omega) ?_;intro v' w1 l1 g1;have hb1:=(HL.out.below (Af wr (.cells #[.int .i64 v] 3))).old (HB.out.trans ((Af wr (.cells #[.int .i64 v] 3)).mono hsz)) g1 (Nat.le_refl _) (Nat.le_refl _);have c1:=HC.out w1 hb1);have HE1:=Ac (HE.out v' w1 (by simpa using l1) hb1);clear l1 g1 c0 hb1;go_wp2_with fail;go_roundw
         case rel=>exact ⟨q+1,true,by omega,by go_num,rfl,HE1⟩
         case measure=>simp[intOf]<;>omega
       · have hne:(u != v)=true:=(by simp[huv]);have HE:=Ac (show ∀v' w',AF 3 1 w' w0.heap.size v' (os++[v]++[u]).length (ints (os++[v]++[u]))->Below w0.heap.size w0 w'->GN w0 v xs (q+1) true v' w' from fun v' w' h1 h2=>⟨os++[v]++[u],h1,by have:=HO.out;rw[if_pos (by simpa using hvu),if_pos huv]at this;simpa[hvu] using this,h2,by simp;omega⟩);clear huv hvu;have tok:True:=trivial;have hle1:(os++[v]).length<=1099511627:=(by simp;omega)
         go_wp2_with (first|(at_builtin;have _t:=tok;refine BQ rfl _ _ rfl w0.heap.size _ os rfl (HL.out.below (Af _ _)) _ v rfl (Lt _ _ _) hle (by simp;omega) ?_;intro v' w1 l1 g1;have hb1:=(HL.out.below (Af wr (.cells #[.int .i64 v] 3))).old (HB.out.trans ((Af wr (.cells #[.int .i64 v] 3)).mono hsz)) g1 (Nat.le_refl _) (Nat.le_refl _);have c1:=HC.out w1 hb1;have hL1:=Ac (show AF 3 1 w1 w0.heap.size v' (os++[v]).length (ints (os++[v])) by simpa using l1);have hsz1:=hb1.size;have HB1:=Ac hb1;clear l1 g1 hb1 tok)|(at_builtin;refine BQ rfl _ _ rfl w0.heap.size _ (os++[v]) rfl (hL1.out.below (Af _ _)) _ u rfl (Lt _ _ _) hle1 (by simp;omega) ?_;intro v2 w2 l2 g2))
         have HE1:=Ac (HE.out v2 w2 (by simpa using l2) ((hL1.out.below (Af w1 (.cells #[.int .i64 u] 3))).old (HB1.out.trans ((Af w1 (.cells #[.int .i64 u] 3)).mono hsz1)) g2 (Nat.le_refl _) (Nat.le_refl _)));clear l2 g2 c1 c0;go_wp2_with fail;go_roundw
         case rel=>exact ⟨q+1,true,by omega,by go_num,rfl,HE1⟩
         case measure=>simp[intOf]<;>omega
     · have hge:decide (v<=u)=false:=(by simpa using hvu);have hne:(u != v)=true:=(by simp;omega);have HE:=Ac (show ∀v' w',AF 3 1 w' w0.heap.size v' (os++[u]).length (ints (os++[u]))->Below w0.heap.size w0 w'->GN w0 v xs (q+1) false v' w' from fun v' w' h1 h2=>⟨os++[u],h1,by have:=HO.out;rw[if_neg (by simpa using hvu),if_pos (by omega)]at this;simpa[hvu] using this,h2,by simp;omega⟩);clear hvu
       go_wp2_with (at_builtin;refine BQ rfl _ _ rfl w0.heap.size _ os rfl (HL.out.below (Af _ _)) _ u rfl (Lt _ _ _) hle (by simp;omega) ?_;intro v' w1 l1 g1);have HE1:=Ac (HE.out v' w1 (by simpa using l1) ((HL.out.below (Af wr (.cells #[.int .i64 u] 3))).old (HB.out.trans ((Af wr (.cells #[.int .i64 u] 3)).mono hsz)) g1 (Nat.le_refl _) (Nat.le_refl _)));clear l1 g1 c0;go_wp2_with fail;go_roundw
       case rel=>exact ⟨q+1,false,by omega,by go_num,rfl,HE1⟩
       case measure=>simp[intOf]<;>omega
  · obtain rfl:q=n:=(by omega);rw[List.drop_of_length_le (by rw[hlen.out];exact Nat.le_refl _)]at hos;have HO:=Ac hos;clear hos lr hB HR;cases dn with
    |true=>
     have he:os=FC v xs:=(by rw[<-HV.out,<-HO.out];simp[G5]);obtain ⟨A9,c9,hv9,h91,h92,-⟩:=HL.out.len;subst hv9;have HE:=Ac he;clear he;go_wp2_with fail;go_ret
     exact ⟨A9,c9,by rw[<-HE.out];rfl,by rw[<-HE.out];exact HL.out.ints_in,by rw[<-HE.out];exact h91,h92,HB.out⟩
    |false=>
     have he:os++[v]=FC v xs:=(by rw[<-HV.out,<-HO.out];simp[G5]);have HE:=Ac he;clear he;go_wp2_with (at_builtin;refine BQ rfl _ _ rfl w0.heap.size _ os rfl (HL.out.below (Af _ _)) _ v rfl (Lt _ _ _) hle (by simp;omega) ?_;intro v' w1 l1 g1);have l2:AF 3 1 w1 w0.heap.size v' (os++[v]).length (ints (os++[v])):=(by simpa using l1)
     have HB1:=Ac ((HL.out.below (Af wr (.cells #[.int .i64 v] 3))).old (HB.out.trans ((Af wr (.cells #[.int .i64 v] 3)).mono hsz)) g1 (Nat.le_refl _) (Nat.le_refl _));rw[HE.out]at l2;obtain ⟨A9,c9,hv9,h91,h92,-⟩:=l2.len;subst hv9;have HI:=Ac l2.ints_in;clear l1 l2 g1;go_wp2_with fail;go_ret
     exact ⟨A9,c9,rfl,HI.out,h91,h92,HB1.out⟩
end
section
open Go.RowKit
open Tm
theorem Nh (v:Int) (us:List Int):(FC v us).length<=us.length+1:=by
 induction us with
 |nil=>simp[FC]
 |cons u us ih=>
  unfold FC;split
  · simp
  · split
    · simp
    · simp;exact ih
theorem JW (ps:List (Int×Int)):∀(qs:List (Int×Int)) (acc:List Int),(JF ps qs acc).length<=acc.length+qs.length
 |[],acc=>by simp[JF]
 |(u,c)::qs,acc=>by
  unfold JF;have h1:=JW ps qs (if AB ps u=0 then acc else FC u acc);have h2:=Nh u acc;split at h1
  · rename_i h;rw[if_pos h];simp;omega
  · rename_i h;rw[if_neg h];simp;omega
theorem Sp (L:List (Int×Int)) (q:Nat) (u c:Int) (h:L[q]?=some (u,c)):JF L (L.take (q+1)) []=if AB L u=0 then JF L (L.take q) [] else FC u (JF L (L.take q) []):=by rw[List.take_add_one,h,Oj];rfl
def VP (w0:World) (L:List (Int×Int)) (q:Nat) (A:Option Addr) (m c:Nat) (wr:World):Prop:=GW wr A m (JF L (L.take q) [])/\Below (w0.heap.size+1) (w0.alloc (.cells #[] 3)) wr
theorem Ih (v:Value) (L:List (Int×Int)) (K:Int) (k:Nat) (w0:World) (hv:D9 w0 v L K k) (hl:L.length<=1099511) (hk:k<=1099511627):Calls Tryz.prog 42 #[v] w0 (U3 (vars L) w0):=by
 have hv0:=hv;obtain ⟨A,n,c,s,B,m,d,rfl,hp,hc1,hc2,-⟩:=hv;have hn:=hp.len;rw[hn]at hl;have HN:=Ac hn;clear hn;obtain ⟨z0,z1,z3⟩:=Bh 40 w0 #[.slice A n c,.bool s,.slice B m d];have y1:=Af (w0.alloc (.cells #[.slice A n c,.bool s,.slice B m d] 40)) (.cells #[] 3);have Z0:=Ac (z0.next y1);have HB0:=Ac (z1.next y1);clear z0 z1 z3 y1;go_enter Tryz.func42,Tryz.ntmps42;go_wp2_with fail
 generalize hW1:((w0.alloc (.cells #[.slice A n c,.bool s,.slice B m d] 40)).alloc (.cells #[] 3))=W1 at *;clear hW1;go_loopw [3,4] (fun sv i wr=>∃(q:Nat) (A1:Option Addr) (m1 c1:Nat),q<=n/\i=.int .i64 q/\sv=.slice A1 m1 c1/\m1<=c1/\c1<=9223372036854775807/\Hid (GW wr A1 m1 (JF L (L.take q) []))/\Hid (Below W1.heap.size W1 wr)) (fun _ i _=>n-(intOf i).toNat)
 case atStart=>exact ⟨0,_,0,0,Nat.zero_le _,rfl,rfl,Nat.le_refl _,by omega,Lib.hid ⟨rfl,fun h=>absurd h (by omega)⟩,Lib.hid (Below.refl _ _)⟩
 case round=>
  obtain ⟨q,A1,m1,c1,hq,rfl,rfl,h11,h12,HI,HB⟩:=hrel;have zt:=Z0.out.next HB.out;have hT:=Ac (HB0.out.next HB.out);have x0:=zt.c0;have x1:=zt.c1;have x2:=zt.c2;by_cases hqn:q<n
  · obtain ⟨bb,o,p,rfl,hlt,hLp,c0,-,-,hz⟩:=(hp.below hT.out).at_ hqn;have HS:=Ac (Sp L q p.v p.Z hLp);have hco:=Gk _ L K p.v k wr (hv0.below hT.out) (by rw[HN.out];omega) hk;have hml:=Ac (show m1<=q from by
      rw[<-HI.out.1];have:=JW L (L.take q) [];simp at this;omega)
    have hmm:m1<=1099511:=(by have:=hml.out;omega);clear hLp hz zt;go_wp2_with fail;refine hco.mono ?_;rintro e w1 ⟨v1,rfl,r1,b1⟩;have hsg:=Bb v1 _ _ w1 r1.in_ (by have:=HN.out;omega);unfold Dm at hsg;clear x0 x1 x2 c0;go_wp2_with fail;refine hsg.mono ?_;rintro e w2 ⟨rfl,b2⟩;have HB2:=Ac ((HB.out.next b1).next b2);have HI2:=Ac ((HI.out.below b1).below b2);by_cases h0:AB L p.v=0
    · rw[h0];rw[show Int.sign 0=0 from rfl];have HE:=Ac (show JF L (L.take (q+1)) []=JF L (L.take q) [] by rw[HS.out,if_pos h0]);clear h0 hsg hco r1;go_wp2_with fail;go_roundw
      case rel=>exact ⟨q+1,A1,m1,c1,by omega,by go_num,rfl,h11,h12,Lib.hid (by rw[HE.out];exact HI2.out),HB2⟩
      case measure=>simp[intOf]<;>omega
    · have h1:((AB L p.v).sign != 0)=true:=(by simpa using h0);have HE:=Ac (show JF L (L.take (q+1)) []=FC p.v (JF L (L.take q) []) by rw[HS.out,if_neg h0]);have hin:=Oq A1 m1 c1 _ p.v (-1) w2 HI2.out hmm (LV L (L.take q) [] trivial);generalize (AB L p.v).sign=sg at *;clear h0 hsg hco r1;go_wp2_with fail;refine hin.mono ?_;rintro e w3 ⟨A3,c3,rfl,i3,h31,h32,b3⟩;have HI3:=Ac i3;have HB3:=Ac (HB2.out.next b3);clear i3 hin b3;go_wp2_with fail;go_roundw
      case rel=>exact ⟨q+1,A3,_,c3,by omega,by go_num,rfl,h31,h32,Lib.hid (by rw[HE.out];exact HI3.out),HB3⟩
      case measure=>simp[intOf]<;>omega
  · obtain rfl:q=n:=(by omega);have HV:=Ac (show JF L (L.take q) []=vars L by rw[List.take_of_length_le (by rw[HN.out];exact Nat.le_refl _),Sd]);have hi:=HI.out;rw[HV.out]at hi;have hl1:=hi.1;subst hl1;have HI2:=Ac hi;clear hi HI zt;go_wp2_with fail;go_ret
    exact ⟨A1,c1,rfl,HI2.out,h11,h12,hT.out⟩
end
section
open Go.RowKit
open Tm
theorem FT (L:List (Int×Int)):(vars L).length<=L.length:=by unfold vars;rw[List.length_map];exact Bz L
theorem JX (L:List (Int×Int)) (q:Nat) (x:Int) (h:(vars L)[q]?=some x):(norm L)[q]?=some (x,AB L x):=by rw[Sb,List.getElem?_map,h];rfl
def BM (W2:World) (g:Nat) (L:List (Int×Int)) (K:Int) (f:Int->Int) (j q:Nat) (wr:World):Prop:=
 ∃(rs:List PV) (A:Option Addr) (c:Nat) (s:Bool) (B:Option Addr) (m d:Nat),AK 40 wr g #[.slice A q c,.bool s,.slice B m d]/\AF 47 3 wr W2.heap.size (.slice A q c) q (flat rs)/\rs.length=q /\
  Cl rs=(L.take q).map (fun p=>(p.1,f p.2))/\(∀p∈rs,Au wr p.num p.Z j)/\Au wr (.agg #[.bool s,.slice B m d]) (f K) j/\AA g W2 wr/\Kp W2 wr
theorem BM.step {W2 W6 w:World} {g q c4 m4 d4 c2 kj:Nat} {A4 B4 A2:Option Addr} {s4:Bool} {L:List (Int×Int)} {K pv pZ:Int} {f:Int->Int} {rs:List PV} {p2:PV}
   (xg:AK 40 W6 g #[.slice A4 q c4,.bool s4,.slice B4 m4 d4]) (lr:AF 47 3 W6 W2.heap.size (.slice A4 q c4) q (flat rs)) (hrl:rs.length=q) (hlin:Cl rs=(L.take q).map (fun p=>(p.1,f p.2)))
   (hrz:∀p∈rs,Au W6 p.num p.Z kj) (zK:Au W6 (.agg #[.bool s4,.slice B4 m4 d4]) (f K) kj) (oW:AA g W2 W6) (kW:Kp W2 W6) (hL:L[q]?=some (pv,pZ)) (h1:p2.v=pv) (h2:p2.Z=f pZ)
   (l2:AF 47 3 w W2.heap.size (.slice A2 (q+1) c2) (rs++[p2]).length (flat (rs++[p2]))) (z2:Au w p2.num p2.Z kj) (tg:Tg (Value.slice A4 q c4).ownBlock W6 w) :
   BM W2 g L K f kj (q+1) (w.setCell ⟨g,0,none⟩ (.slice A2 (q+1) c2)):=by
 have hne:some g≠(Value.slice A4 q c4).ownBlock:=fun e=>lr.offTerm xg e.symm
 have x9:=xg.grown tg.1 hne;have o9:=Lp w g 0 (.slice A2 (q+1) c2);have hk:=x9.kp (Te _ _ _ _ _ _ _) o9;have hlen:(rs++[p2]).length=q+1:=by simp[hrl]
 rw[hlen]at l2;have oW9:AA g W2 w:=⟨tg.1.os.trans oW.os,tg.1.tape.trans oW.tape,tg.1.output.trans oW.output,Nat.le_trans oW.size tg.1.size,fun b hb hbn=> (tg.1.block b (Nat.lt_of_lt_of_le hb oW.size) (fun e=>by have:=(lr.lt b e.symm).1;omega)).trans (oW.block b hb hbn)⟩
 refine ⟨rs++[p2],A2,c2,s4,B4,m4,d4,x9.set_0 _,l2.onlyTerm x9 o9,hlen,?_,fun x hx=>?_,(zK.kp tg.2).kp hk,oW9.trans o9,(kW.trans tg.2).trans hk⟩
 · rw[Bu,hlin,List.take_add_one,hL,List.map_append];simp[Cl,PV.part,h1,h2]
 · rcases List.mem_append.1 hx with hx|hx
   · exact ((hrz x hx).kp tg.2).kp hk
   · simp at hx;subst hx;exact z2.kp hk
theorem GW.keepT {w w':World} {A:Option Addr} {n g m c d q:Nat} {xs:List Int} {B C:Option Addr} {s:Bool} {b0:Array Value} (h:GW w A n xs) (hb:AK 40 w g #[.slice B m c,.bool s,.slice C q d]) (ho:AA g w w'):GW w' A n xs:=by
 refine ⟨h.1,fun hn=>?_⟩;obtain ⟨b,o,e,hc⟩:=h.2 hn;refine ⟨b,o,e,fun j u hu=>?_⟩;have h1:=hc j u hu;refine ho.gb.cell h1 (fun hh=>?_);injection hh with hh
 have hh':b=g:=hh;subst hh';have hu2:∃x,u=.int .i64 x:=by obtain ⟨x,-,hx⟩:=List.mem_map.1 (List.mem_of_getElem? hu);exact ⟨x,hx.symm⟩
 obtain ⟨x,rfl⟩:=hu2;rw[cell_of_row w b _ _ _ _ hb]at h1;match o+j,h1 with
 |0,h1=>simp at h1
 |1,h1=>simp at h1
 |2,h1=>simp at h1
 |i+3,h1=>simp at h1
theorem DN (v:Value) (L:List (Int×Int)) (K:Int) (k:Nat) (w0:World) (hv:D9 w0 v L K k) (hl:L.length<=1099511) (hk:k<=1099511627):Calls Tryz.prog 48 #[v] w0 (BG (norm L) K (k+L.length) w0):=by
 have hv0:=hv;obtain ⟨A,n,c,s,B,m,d,rfl,hp,hc1,hc2,hK⟩:=hv;obtain ⟨z0,z1,z2,z3⟩:=Bi 40 40 w0 #[.slice A n c,.bool s,.slice B m d] #[.slice none 0 0,.bool false,.slice none 0 0];have x1:=z0.c1;have x2:=z0.c2;have hcl:=LS _ K k _ (hK.below z2) (by omega);go_enter Tryz.func48,Tryz.ntmps48;go_wp2_with fail;refine hcl.mono ?_;rintro e w1 ⟨v1,rfl,r1,b1⟩;obtain ⟨s1,A1,n1,c1,rfl⟩:=r1.form;have t1:=z2.next b1;have q0:=z0.next b1;have q1:=z1.next b1
 have hz3:=Ac (show w0.heap.size+2<=w1.heap.size by have:=b1.size;omega);obtain ⟨y0,y1,y2⟩:=Bh 40 w1 #[.slice none 0 0,.bool s1,.slice A1 n1 c1];have p0:=q0.next y1;have p1:=q1.next y1;have tt:=t1.next y1;have x0:=p0.c0;have x1':=p0.c1;have x2':=p0.c2;have hva:=Ih _ L K k _ (hv0.below tt) hl hk;have HR1:=Ac (r1.below y1);have Y0:=Ac y0;have P1:=Ac p1;have P0:=Ac p0;have TT:=Ac tt;have HY2:=Ac y2;clear hcl r1 t1 q0 q1 y0 y1 y2 p1 tt x1 x2 z0 z1 z2 z3 b1 hp hK;go_wp2_with fail
 refine hva.mono ?_;rintro e W1 ⟨AV,cV,rfl,iv,hv1,hv2,b2⟩;have IV:=Ac iv;have XB:=Ac (Y0.out.next b2);have HW1:=Ac (TT.out.next b2);have XR:=Ac (P1.out.next b2);have XP:=Ac (P0.out.next b2);have HG8:=Ac (show w0.heap.size+1<w1.heap.size by have:=hz3.out;omega);have HE:=Ac (show BM W1 w1.heap.size (norm L) K (fun z=>z) (k+L.length) 0 W1 from
  ⟨[],none,0,s1,A1,n1,c1,XB.out,AF.nil _ _ _ _,rfl,rfl,fun p hp=>by simp at hp,(HR1.out.below b2).mono (by omega),AA.refl _ _,Kp.refl _⟩)
 have hm1:(vars L).length<=1099511:=by have:=FT L;omega
 clear iv b2 x0 x1' x2' hva;generalize hm:(vars L).length=m1 at *;have HM:=Ac hm;clear hm;go_wp2_with fail;go_loopw [5] (fun i wr=>∃q:Nat,q<=m1/\i=.int .i64 q/\Hid (BM W1 w1.heap.size (norm L) K (fun z=>z) (k+L.length) q wr)) (fun i _=>m1-(intOf i).toNat)
 case atStart=>exact ⟨0,Nat.zero_le _,rfl,HE⟩
 case round=>
  obtain ⟨q,hq,rfl,HR⟩:=hrel;obtain ⟨rs,A4,c4,s4,B4,m4,d4,xg,lr,hrl,hlin,hrz,zK,oW,kW⟩:=HR.out;have hT:Below w0.heap.size w0 wr:=HW1.out.trans (oW.below HW1.out.size (by have:=HG8.out;omega));by_cases hqn:q<m1
  · obtain ⟨bb,o,x,rfl,hlt,hx,c0⟩:=(IV.out.keepT (b0:=#[]) XB.out oW).at_ hqn;have HLp:=Ac (JX L q x hx);have HXG:=Ac xg;have HL:=Ac lr;have HRL:=Ac hrl;have HLI:=Ac hlin;have HRZ:=Ac hrz;have HZK:=Ac zK;have HOW:=Ac oW;have HKW:=Ac kW;have HWS:=Ac oW.size;have HTT:=Ac hT;have HRW:=Ac (show ∀gs,(Value.slice A4 q c4).ownBlock=some gs->gs<wr.heap.size from fun gs e=>(lr.lt gs e).2)
    have HF6:=Ac (fun W (h:Below wr.heap.size wr W)=>Gk _ L K x k W (hv0.below (HTT.out.next h)) hl hk);have zt:=XP.out.other oW (by have:=HG8.out;omega)
    have SOF:=Ac (show ∀W,Below wr.heap.size wr W->(W.cell? ⟨w1.heap.size,0,none⟩=some (.slice A4 q c4)/\W.cell? ⟨bb,o+q,none⟩=some (.int .i64 x)/\W.cell? ⟨w0.heap.size,0,none⟩=some (.slice A n c)/\W.cell? ⟨w0.heap.size,1,none⟩=some (.bool s)/\W.cell? ⟨w0.heap.size,2,none⟩=some (.slice B m d)) from fun W h=>⟨(HXG.out.next h).c0,(h.cell (p:=⟨bb,o+q,none⟩) hlt).trans c0,(zt.next h).c0,(zt.next h).c1,(zt.next h).c2⟩);clear xg lr hrl hlin hrz zK oW kW hT hx c0 zt HR
    go_wp2_with fail
    refine AW (by kernel_rfl) (by kernel_rfl) (by kernel_rfl) (by kernel_rfl) (Tg (Value.slice A4 q c4).ownBlock) (fun j v w=>match j with|0=>v=.pointer (some ⟨w1.heap.size,0,none⟩)|1=>v=.slice A4 q c4|2=>v=.slice (some ⟨bb,o,none⟩) m1 cV|3=>v=.int .i64 (q:Int)|4=>v=.pointer (some ⟨bb,o+q,none⟩)|5=>v=.int .i64 x|6=>v=.agg #[.slice A n c,.bool s,.slice B m d]|7=>v=.slice (some ⟨bb,o,none⟩) m1 cV|8=>v=.int .i64 (q:Int)|9=>v=.pointer (some ⟨bb,o+q,none⟩)|10=>v=.int .i64 x|11=>∃s B m d,v=.agg #[.bool s,.slice B m d]/\Au w (.agg #[.bool s,.slice B m d]) (AB L x) (k+L.length)|12=>∃s B m d,v=.agg #[.int .i64 x,.bool s,.slice B m d]/\Au w (.agg #[.bool s,.slice B m d]) (AB L x) (k+L.length)|13=>∃gs s B m d,v=.slice (some ⟨gs,0,none⟩) 1 1/\wr.heap.size<=gs/\AK 47 w gs #[.int .i64 x,.bool s,.slice B m d]/\Au w (.agg #[.bool s,.slice B m d]) (AB L x) (k+L.length)|14=>True|15=>v=.pointer (some ⟨w1.heap.size,0,none⟩)|_=>True) (GA 14 wr (fun v w=>∃p2:PV,p2.v=x/\p2.Z=(AB L x)/\AF 47 3 w W1.heap.size v (rs++[p2]).length (flat (rs++[p2]))/\Au w p2.num p2.Z (k+L.length)/\Tg (Value.slice A4 q c4).ownBlock wr w)) ?_ (fun _=>GA.start _ (Ap wr 1)) ?_ ?_
    · intro j v w w' hT h;match j,h with
      |0,h=>exact h
      |1,h=>exact h
      |2,h=>exact h
      |3,h=>exact h
      |4,h=>exact h
      |5,h=>exact h
      |6,h=>exact h
      |7,h=>exact h
      |8,h=>exact h
      |9,h=>exact h
      |10,h=>exact h
      |11,h=>exact (by obtain ⟨s,B,m,d,e,z⟩:=h;exact ⟨s,B,m,d,e,z.kp hT.2⟩)
      |12,h=>exact (by obtain ⟨s,B,m,d,e,z⟩:=h;exact ⟨s,B,m,d,e,z.kp hT.2⟩)
      |13,h=>exact (by obtain ⟨gs,s,B,m,d,e,h1,h2,h3⟩:=h;exact ⟨gs,s,B,m,d,e,h1,h2.grown hT.1 (fun e=>by have:=HRW.out gs e.symm;omega),h3.kp hT.2⟩)
      |14,h=>exact trivial
      |15,h=>exact h
      |j+16,h=>trivial
    · refine ⟨?_,?_,?_,?_,?_,?_,?_,?_,?_,?_,?_,?_,?_,?_,?_,?_,trivial⟩
      · intro l9 σ w a hin hout hl hla hs hc hp hG hF;refine Ad.none rfl ?_;have e3:a.tmps.getD 3 undef=.pointer (some ⟨w1.heap.size,0,none⟩):=hout 3 (Ae (by kernel_rfl));refine Does.val (.pointer (some ⟨w1.heap.size,0,none⟩)) (w':=w) ?_ ⟨Tg.refl _ _,rfl,hG.same (by decide)⟩;simp only[Array.getD_eq_getD_getElem?]at e3;go_simp
      · intro l9 σ w a hin hout hl hla hs hc hp hG hF;refine Ad.none rfl ?_;have e18:a.tmps.getD 18 undef=.pointer (some ⟨w1.heap.size,0,none⟩):=Am (hin 0 18) rfl (hp ⟨0,.data⟩ (by simp) rfl) (hF 0);have CC:=SOF.out w (hG.1 (Ai (k:=14) hc hl (by kernel_rfl)));obtain ⟨C0,D0,E0,E1,E2⟩:=CC;refine Does.val (.slice A4 q c4) (w':=w) ?_ ⟨Tg.refl _ _,rfl,hG.same (by decide)⟩;go_simp
      · intro l9 σ w a hin hout hl hla hs hc hp hG hF;refine Ad.none rfl ?_;have e4:a.tmps.getD 4 undef=.slice (some ⟨bb,o,none⟩) m1 cV:=hout 4 (Ae (by kernel_rfl));refine Does.val (.slice (some ⟨bb,o,none⟩) m1 cV) (w':=w) ?_ ⟨Tg.refl _ _,rfl,hG.same (by decide)⟩;simp only[Array.getD_eq_getD_getElem?]at e4;go_simp
      · intro l9 σ w a hin hout hl hla hs hc hp hG hF;refine Ad.none rfl ?_;have e5:a.tmps.getD 5 undef=.int .i64 (q:Int):=hout 5 (Ae (by kernel_rfl));refine Does.val (.int .i64 (q:Int)) (w':=w) ?_ ⟨Tg.refl _ _,rfl,hG.same (by decide)⟩;simp only[Array.getD_eq_getD_getElem?]at e5;go_simp
      · intro l9 σ w a hin hout hl hla hs hc hp hG hF;refine Ad.none rfl ?_;have e20:a.tmps.getD 20 undef=.slice (some ⟨bb,o,none⟩) m1 cV:=Am (hin 2 20) rfl (hp ⟨2,.data⟩ (by simp) rfl) (hF 2);have e21:a.tmps.getD 21 undef=.int .i64 (q:Int):=Am (hin 3 21) rfl (hp ⟨3,.data⟩ (by simp) rfl) (hF 3);refine Does.val (.pointer (some ⟨bb,o+q,none⟩)) (w':=w) ?_ ⟨Tg.refl _ _,rfl,hG.same (by decide)⟩;simp only[Array.getD_eq_getD_getElem?]at e20 e21;go_simp
        (try (intro hh;exfalso;omega))
      · intro l9 σ w a hin hout hl hla hs hc hp hG hF;refine Ad.none rfl ?_;have e22:a.tmps.getD 22 undef=.pointer (some ⟨bb,o+q,none⟩):=Am (hin 4 22) rfl (hp ⟨4,.data⟩ (by simp) rfl) (hF 4);have CC:=SOF.out w (hG.1 (Ai (k:=14) hc (Ai (k:=13) hc (Ai (k:=12) hc hl (by kernel_rfl)) (by kernel_rfl)) (by kernel_rfl)));obtain ⟨C0,D0,E0,E1,E2⟩:=CC;refine Does.val (.int .i64 x) (w':=w) ?_ ⟨Tg.refl _ _,rfl,hG.same (by decide)⟩;go_simp
      · intro l9 σ w a hin hout hl hla hs hc hp hG hF;refine Ad.none rfl ?_;have e1:a.tmps.getD 1 undef=.pointer (some ⟨w0.heap.size,0,none⟩):=hout 1 (Ae (by kernel_rfl));have CC:=SOF.out w (hG.1 (Ai (k:=14) hc (Ai (k:=11) hc hl (by kernel_rfl)) (by kernel_rfl)));obtain ⟨C0,D0,E0,E1,E2⟩:=CC;refine Does.val (.agg #[.slice A n c,.bool s,.slice B m d]) (w':=w) ?_ ⟨Tg.refl _ _,rfl,hG.same (by decide)⟩;go_simp
      · intro l9 σ w a hin hout hl hla hs hc hp hG hF;refine Ad.none rfl ?_;have e4:a.tmps.getD 4 undef=.slice (some ⟨bb,o,none⟩) m1 cV:=hout 4 (Ae (by kernel_rfl));refine Does.val (.slice (some ⟨bb,o,none⟩) m1 cV) (w':=w) ?_ ⟨Tg.refl _ _,rfl,hG.same (by decide)⟩;simp only[Array.getD_eq_getD_getElem?]at e4;go_simp
      · intro l9 σ w a hin hout hl hla hs hc hp hG hF;refine Ad.none rfl ?_;have e5:a.tmps.getD 5 undef=.int .i64 (q:Int):=hout 5 (Ae (by kernel_rfl));refine Does.val (.int .i64 (q:Int)) (w':=w) ?_ ⟨Tg.refl _ _,rfl,hG.same (by decide)⟩;simp only[Array.getD_eq_getD_getElem?]at e5;go_simp
      · intro l9 σ w a hin hout hl hla hs hc hp hG hF;refine Ad.none rfl ?_;have e25:a.tmps.getD 25 undef=.slice (some ⟨bb,o,none⟩) m1 cV:=Am (hin 7 25) rfl (hp ⟨7,.data⟩ (by simp) rfl) (hF 7);have e26:a.tmps.getD 26 undef=.int .i64 (q:Int):=Am (hin 8 26) rfl (hp ⟨8,.data⟩ (by simp) rfl) (hF 8);refine Does.val (.pointer (some ⟨bb,o+q,none⟩)) (w':=w) ?_ ⟨Tg.refl _ _,rfl,hG.same (by decide)⟩;simp only[Array.getD_eq_getD_getElem?]at e25 e26;go_simp
        (try (intro hh;exfalso;omega))
      · intro l9 σ w a hin hout hl hla hs hc hp hG hF;refine Ad.none rfl ?_;have e27:a.tmps.getD 27 undef=.pointer (some ⟨bb,o+q,none⟩):=Am (hin 9 27) rfl (hp ⟨9,.data⟩ (by simp) rfl) (hF 9);have CC:=SOF.out w (hG.1 (Ai (k:=14) hc (Ai (k:=11) hc hl (by kernel_rfl)) (by kernel_rfl)));obtain ⟨C0,D0,E0,E1,E2⟩:=CC;refine Does.val (.int .i64 x) (w':=w) ?_ ⟨Tg.refl _ _,rfl,hG.same (by decide)⟩;go_simp
      · intro l9 σ w a hin hout hl hla hs hc hp hG hF;refine Ad.none rfl ?_;have e24:a.tmps.getD 24 undef=.agg #[.slice A n c,.bool s,.slice B m d]:=Am (hin 6 24) rfl (hp ⟨6,.data⟩ (by simp) rfl) (hF 6);have e28:a.tmps.getD 28 undef=.int .i64 x:=Am (hin 10 28) rfl (hp ⟨10,.data⟩ (by simp) rfl) (hF 10);refine Does.call ?_ (HF6.out w (hG.1 (Ai (k:=14) hc hl (by kernel_rfl)))) ?_
        · go_simp;(try exact eg _ _)
        · rintro e w' ⟨v,rfl,z,hb⟩;exact ⟨_,rfl,Tg.of_below hb,(by obtain ⟨s,B,m,d,rfl⟩:=z.form;exact ⟨s,B,m,d,rfl,z⟩),hG.call (by decide) (Ai (k:=14) hc hl (by kernel_rfl)) hb⟩
      · intro l9 σ w a hin hout hl hla hs hc hp hG hF;refine Ad.none rfl ?_;have e23:a.tmps.getD 23 undef=.int .i64 x:=Am (hin 5 23) rfl (hp ⟨5,.data⟩ (by simp) rfl) (hF 5);have e29:=hin 11 29 rfl (hp ⟨11,.data⟩ (by simp) rfl);obtain ⟨s11,B11,m11,d11,ev11,z11⟩:=hF 11 (hp ⟨11,.data⟩ (by simp) rfl);rw[ev11]at e29;refine Does.val (.agg #[.int .i64 x,.bool s11,.slice B11 m11 d11]) (w':=w) ?_ ⟨Tg.refl _ _,⟨s11,B11,m11,d11,rfl,z11⟩,hG.same (by decide)⟩
        simp only[Array.getD_eq_getD_getElem?]at e23 e29;go_simp
      · intro l9 σ w a hin hout hl hla hs hc hp hG hF;refine Ad.none rfl ?_;have e30:=hin 12 30 rfl (hp ⟨12,.data⟩ (by simp) rfl);obtain ⟨s12,B12,m12,d12,ev12,z12⟩:=hF 12 (hp ⟨12,.data⟩ (by simp) rfl);rw[ev12]at e30
        refine Does.val (.slice (some ⟨w.heap.size,0,none⟩) 1 1) (w':=w.alloc (.cells #[.int .i64 x,.bool s12,.slice B12 m12 d12] 47)) ?_ ⟨Tg.of_below (Af w _),⟨w.heap.size,s12,B12,m12,d12,rfl,(hG.1 (Ai (k:=14) hc hl (by kernel_rfl))).size,AK.new _ _ _,z12.alloc _⟩,hG.call (by decide) (Ai (k:=14) hc hl (by kernel_rfl)) (Af w _)⟩;simp only[Array.getD_eq_getD_getElem?]at e30;go_simp
      · intro l9 σ w a hin hout hl hla hs hc hp hG hF;refine Ad.none rfl ?_;have e19:a.tmps.getD 19 undef=.slice A4 q c4:=Am (hin 1 19) rfl (hp ⟨1,.data⟩ (by simp) rfl) (hF 1);have e31:=hin 13 31 rfl (hp ⟨13,.data⟩ (by simp) rfl);obtain ⟨g13,s13,B13,m13,d13,ev13,hg13,x13,z13⟩:=hF 13 (hp ⟨13,.data⟩ (by simp) rfl);rw[ev13]at e31;have hl0:=hl;have hB:=hG.1 hl;have hl:=HL.out.below hB;obtain ⟨i0,hi0,hz0,hz1,hz2⟩:=info_parts CR
        obtain ⟨v',w',hr,h2,h3⟩:=Cg (P:=Tryz.prog) w W1.heap.size 34 34 47 i0 _ 3 40 Tryz.underlying34 hi0 hz0 hz1 hz2 rfl (by decide) BK (.slice A4 q c4) q (flat rs) hl ⟨g13,0,none⟩ 1 1 (flat [⟨x,s13,B13,m13,d13,(AB L x)⟩]) rfl (fun jj u hu=>by rw[addr_add,Nat.zero_add];exact x13.cell jj u (by simpa[flat,PV.cells] using hu)) (Fc _) (Ew _) (by unfold maxLen;omega) (by omega) (Nat.le_trans HWS.out hB.size);have hk:=hl.kp h3
        refine Does.val v' (w':=w') ?_ ⟨⟨h3,hk⟩,trivial,GA.on_ hl0 (by rw[hs];decide) ⟨⟨x,s13,B13,m13,d13,(AB L x)⟩,rfl,rfl,?_,z13.kp hk,⟨World.grownBy.trans2 hB h3,(Kp.of_below hB).trans hk⟩⟩⟩
        · exact Bn rfl e19 e31 hr
        · rw[Do,List.length_append,HRL.out];exact h2
      · intro l9 σ w a hin hout hl hla hs hc hp hG hF;refine Ad.none rfl ?_;have e3:a.tmps.getD 3 undef=.pointer (some ⟨w1.heap.size,0,none⟩):=hout 3 (Ae (by kernel_rfl));refine Does.val (.pointer (some ⟨w1.heap.size,0,none⟩)) (w':=w) ?_ ⟨Tg.refl _ _,rfl,hG.same (by decide)⟩;simp only[Array.getD_eq_getD_getElem?]at e3;go_simp
    · intro o ho;injection ho with ho;subst ho
      intro l9 σ w a hall hin hout hG hF;refine Ad.none rfl ?_;have e33:a.tmps.getD 33 undef=.pointer (some ⟨w1.heap.size,0,none⟩):=(hin 15 33 rfl (by decide)).trans (hF 15 (by decide));have e32:=hin 14 32 rfl (by decide);have z14:=hF 14 (by decide);obtain ⟨p2,e1,e2,l2,z2,tg⟩:=hG.2 (hall 14 (by decide));have hlr:=HL.out;have x9:=HXG.out.grown tg.1 (fun e=>hlr.offTerm HXG.out e.symm);obtain ⟨A2,c2,hv2,-,-,-⟩:=l2.len;have hlen2:(rs++[p2]).length=q+1:=(by simp[HRL.out])
      rw[hlen2]at hv2;rw[hv2]at e32 l2;have u0:=x9.c0;have u1:=x9.fr 0;refine Does.skip (w':=w.setCell ⟨w1.heap.size,0,none⟩ (.slice A2 (q+1) c2)) (by go_simp) ?_;have HE2:=Ac (BM.step (f:=fun z=>z) HXG.out hlr HRL.out HLI.out HRZ.out HZK.out HOW.out HKW.out HLp.out e1 e2 l2 z2 tg)
      rw[show fin _ σ undef _=(Act.put (Act.put (Act.put (Act.put (Act.put (Act.put (Act.put (Act.put (Act.put (Act.put (Act.put (Act.put (Act.put (Act.put (Act.put (Act.put (Act.put _ (some 18) (σ 0)) (some 19) (σ 1)) (some 20) (σ 2)) (some 21) (σ 3)) (some 22) (σ 4)) (some 23) (σ 5)) (some 24) (σ 6)) (some 25) (σ 7)) (some 26) (σ 8)) (some 27) (σ 9)) (some 28) (σ 10)) (some 29) (σ 11)) (some 30) (σ 12)) (some 31) (σ 13)) (some 32) (σ 14)) (some 33) (σ 15)) none undef) from (Bt hall).trans rfl]
      simp only[Act.put,List.setIfInBounds_toArray,List.set_cons_zero,List.set_cons_succ];generalize σ 0=tt0;generalize σ 1=tt1;generalize σ 2=tt2;generalize σ 3=tt3;generalize σ 4=tt4;generalize σ 5=tt5;generalize σ 6=tt6;generalize σ 7=tt7;generalize σ 8=tt8;generalize σ 9=tt9;generalize σ 10=tt10;generalize σ 11=tt11;generalize σ 12=tt12;generalize σ 13=tt13;generalize σ 14=tt14 at *;generalize σ 15=tt15;clear hF hG hall hin hout SOF HF6 HRW l2 z2 tg x9 u0 u1 hlen2
      generalize w.setCell ⟨w1.heap.size,0,none⟩ (.slice A2 (q+1) c2)=w8 at *;go_wp2_with fail;go_roundw
      case rel=>exact ⟨q+1,by omega,by go_num,HE2⟩
      case measure=>simp[intOf]<;>omega
  · obtain rfl:q=m1:=(by omega);have hL2:=Ac (show Cl rs=norm L by
      rw[hlin,List.take_of_length_le (by rw[<-HM.out];unfold vars;rw[List.length_map];exact Nat.le_refl _)];simp)
    have hR:=XR.out.other oW (by have:=HG8.out;omega);obtain ⟨A',c',hv',hc1',hc2',-⟩:=lr.len;injection hv' with e1' e2' e3'
    subst e1' e3';have HP:=Ac (show CY wr A4 q (Cl rs) (k+L.length) from ⟨rs,lr.parts hrl (fun p hp=>(hrz p hp).in_),rfl,hrz⟩);have HZK:=Ac zK;have HB:=Ac hT;have x0:=xg.c0;have x1:=xg.c1;have x2:=xg.c2;clear lr hrl hlin hrz zK oW kW HR xg hT;go_wp2_with (with_reducible refine Be rfl _ _ rfl (w0.heap.size+1) _ _ _ _ _ _ _ rfl rfl _ _ _ hR ?_;intro w7 k7 ho7);refine BJ rfl rfl k7 rfl ?_
    refine ⟨_,rfl,Aw.only (⟨A4,q,c4,s4,B4,m4,d4,rfl,?_,hc1',hc2',HZK.out⟩:Aw wr _ _ _ _) hR ho7,AE HB.out (by omega) ho7⟩;rw[<-hL2.out];exact HP.out
end
end Go.Proofs.YtmedjkhmadfjlaaGreat
