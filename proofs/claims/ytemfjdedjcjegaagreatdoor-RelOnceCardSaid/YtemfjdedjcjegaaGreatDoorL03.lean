/- Texts of one seat, put together: Add Ref RefA Of Alive1. -/
import Derived.Test.YtemfjdedjcjegaaGreatDoorL02
set_option linter.unusedVariables false
set_option linter.unusedSimpArgs false
set_option maxRecDepth 100000
set_option maxHeartbeats 16000000
namespace Go.Proofs.YtemfjdedjcjegaaGreatDoor
section
open Go.RowKit
def Lm (N:Nat) (w:World) (e:Ending) (w':World):Prop:=∃A n,e=.returned (.slice A n n)/\Own w' w.heap.size A n n N/\Below w.heap.size w w'
theorem Do (A:Option Addr) (n c:Nat) (xs:List Nat) (w:World) (hx:Am w A n xs) (hc:n<=c) (hm:c<=9223372036854775807) (hb:n<=1099511627776) :
   Calls Tryz.prog 124 #[.slice A n c] w (Lm (Limb.val xs) w):=by
 obtain ⟨i0,hi0,hz0,hz1,hz2⟩:=info_parts H7;generalize ha:Limb.val xs=a;have HA:=Lib.hid ha;clear ha;go_enter Tryz.func124,Tryz.ntmps124;go_wp2_with fail;refine (BX A n c xs w hx hc hm).mono ?_;rintro e w' ⟨A1,n1,rfl,hcut1,rfl⟩;rw[HA.out]at hcut1;obtain ⟨hn1,hn2,hx1,_⟩:=hcut1;have HN:=Lib.hid hn1;clear hn1 hx HA;by_cases h0:n1=0
 · subst h0;go_wp2_with fail;go_ret
   refine ⟨none,0,rfl,?_,Below.refl _ _⟩;have:a=0:=(Limb.canon_len_zero a).1 HN.out.symm;rw[this];exact Own.zero _ _ _ _ (by omega)
 · have h1:((n1:Int)==0)=false:=(by simp;omega);have hpos:1<=n1:=(by omega);clear h0;go_wp2_with (first
    |(at_make;refine AU _ rfl _ _ rfl _ n1 rfl rfl rfl (by omega) ?_;intro w1 hr1 hb1 hs1)
    |(with_reducible refine AZ rfl _ _ rfl w.heap.size 0 _ _ _ _ n1 n1 rfl (fun _=>rfl) rfl _ (Limb.canon a) hr1 (hx1.below hb1) (Nat.le_refl _) (by simp) ?_;intro w2 hr2 ho2))
   go_ret
   have hle:=Limb.canon_len_le;have hput:put (List.replicate n1 0) 0 (Limb.canon a)=Limb.canon a:=by unfold put;rw[<-HN.out];simp
   rw[hput]at hr2;exact ⟨_,n1,rfl,Own.row hr2 (Limb.ok_canon a) (Nat.le_refl _) (Nat.le_refl _) (by rw[<-HN.out];exact Nat.le_refl _) (by omega) (by rw[HN.out];simp),hb1.trans (ho2.below (by omega) (Nat.le_refl _))⟩
theorem PS {xs ys:List Nat} (hl:xs.length=ys.length) (h:∀i,i<xs.length->xs.getD i 0=ys.getD i 0):xs=ys:=by apply List.ext_getElem hl;intro i h1 h2;have:=h i h1;rwa [List.getD_eq_getElem?_getD,List.getD_eq_getElem?_getD,List.getElem?_eq_getElem h1,List.getElem?_eq_getElem h2]at this
theorem Row.take_eq {w:World} {g m:Nat} {zs xs:List Nat} (hr:Row w g zs) (hx:Am w (some ⟨g,0,none⟩) m xs) (hm:m<=zs.length):zs.take m=xs:=by
 have hl:=hx.len;apply PS (by rw[List.length_take];omega);intro i hi;rw[List.length_take]at hi;obtain ⟨b,o,x,hbo,_,hx2,hc⟩:=hx.at_ (i:=i) (by omega);injection hbo with hbo
 injection hbo with h1 h2
 subst h1;subst h2;rw[Nat.zero_add,hr.cell (i:=i) (by omega)]at hc;injection hc with hc
 injection hc with _ hc
 rw[<-hx2,List.getD_eq_getElem?_getD,List.getElem?_take_of_lt (by omega),<-List.getD_eq_getElem?_getD];omega
theorem Own.ofCut {w:World} {g n m N base:Nat} {A':Option Addr} {zs:List Nat} (hr:Row w g zs) (ho:Limb.Ok zs) (hi:H9 w (some ⟨g,0,none⟩) A' n m N) (hb:base<=g) (hn:n<=zs.length) (h62:n<=4611686018427387904):Own w base A' m m N:=by
 obtain ⟨h1,h2,h3,h4⟩:=hi;refine ⟨h1,Nat.le_refl _,by omega,fun h0=>?_⟩;have hm:0<m:=by
   rcases Nat.eq_zero_or_pos m with hm|hm
   · exact absurd ((Limb.canon_len_zero N).1 (by rw[<-h1];exact hm)) h0
   · exact hm
 rcases h4 with rfl|rfl
 · exact ⟨g,zs,rfl,hb,hr,ho,by omega,hr.take_eq h3 (by omega)⟩
 · obtain ⟨_,_,e,_⟩:=h3.2.2 hm;cases e
def Ln (base N:Nat) (w:World) (e:Ending) (w':World):Prop:=∃A' m,e=.returned (.slice A' m m)/\Own w base A' m m N/\w=w'
theorem Bp (g n c N base:Nat) (zs:List Nat) (w:World) (hr:Row w g zs) (ho:Limb.Ok zs) (hn:n<=zs.length) (hc:n<=c) (hm:c<=4611686018427387904) (hb:base<=g) (hN:Limb.val (zs.take n)=N) :
  Calls Tryz.prog 88 #[.slice (some ⟨g,0,none⟩) n c] w (Ln base N w):=by
 subst hN;have hx:=hr.nums ho (o:=0) (n:=n) (by omega);rw[List.drop_zero]at hx;refine (BX _ n c _ w hx hc (by omega)).mono ?_;rintro e w' ⟨A',m,rfl,hi,rfl⟩;exact ⟨A',m,rfl,Own.ofCut hr ho hi hb hn (by omega),rfl⟩
theorem SA {a b:Nat} (h:a<=b):4294967296^a<=4294967296^b:=Nat.pow_le_pow_right (by omega) h
theorem add_lt (a b k:Nat) (ha:a<4294967296^k) (hb:b<4294967296^k):a+b<4294967296^(k+1):=by rw[Nat.pow_succ];omega
def Rx (a b n1:Nat):Prop:=a+b<4294967296^(n1+1)/\put (List.replicate (n1+1) 0) 0 (Limb.canon a)=Limb.fixed (n1+1) a/\put (Limb.fixed (n1+1) a) 0 (Limb.fixed (n1+1) (a+b))=Limb.fixed (n1+1) (a+b)/\Limb.val (win (Limb.fixed (n1+1) a) 0 (n1+1))=a/\Limb.val ((Limb.fixed (n1+1) (a+b)).take (n1+1))=a+b
theorem NR (a b n1 m1:Nat) (hn:n1=(Limb.canon a).length) (hm:m1=(Limb.canon b).length) (h:m1<=n1):Rx a b n1:=by
 have ha:=Limb.canon_lt a;have hb:=Limb.canon_lt b;rw[<-hn]at ha;rw[<-hm]at hb;have hp:=SA h;have hs:=add_lt a b n1 ha (by omega);have ha2:a<4294967296^(n1+1):=by omega
 refine ⟨hs,?_,?_,?_,?_⟩
 · rw[Limb.fixed_eq_canon _ a ha2];unfold put;rw[<-hn];simp
 · unfold put;rw[Limb.fixed_length,List.drop_of_length_le (by rw[Limb.fixed_length];omega)];simp
 · unfold win;rw[List.drop_zero,List.take_of_length_le (by rw[Limb.fixed_length];omega),Limb.fixed_val,Nat.mod_eq_of_lt ha2]
 · rw[List.take_of_length_le (by rw[Limb.fixed_length];omega),Limb.fixed_val,Nat.mod_eq_of_lt hs]
def Ck (N:Nat) (w:World) (e:Ending) (w':World):Prop:=∃A n,e=.returned (.slice A n n)/\Own w' w.heap.size A n n N/\Below w.heap.size w w'
theorem Kw (A B:Option Addr) (n c m d:Nat) (xs ys:List Nat) (w:World) (hx:Am w A n xs) (hc:n<=c) (hm:c<=9223372036854775807) (hn40:n<=1099511627776) (hy:Am w B m ys) (hd:m<=d) (hmd:d<=9223372036854775807) (hm40:m<=1099511627776) :
   Calls Tryz.prog 90 #[.slice A n c,.slice B m d] w (Ck (Limb.val xs+Limb.val ys) w):=by
 generalize ha:Limb.val xs=a;generalize hb:Limb.val ys=b;have HA:=Lib.hid ha;have HB:=Lib.hid hb;clear ha hb;go_enter Tryz.func90,Tryz.ntmps90;go_wp2_with fail;refine (BX A n c xs w hx hc hm).mono ?_;rintro e w' ⟨A1,n1,rfl,hcut1,rfl⟩;rw[HA.out]at hcut1;go_wp2_with fail;refine (BX B m d ys w hy hd hmd).mono ?_;rintro e w' ⟨B1,m1,rfl,hcut2,rfl⟩;rw[HB.out]at hcut2;clear hx hy HA HB;obtain ⟨hn1,hn2,hx1,_⟩:=hcut1;obtain ⟨hm1,hm2,hy1,_⟩:=hcut2;have HN:=Lib.hid hn1
 have HM:=Lib.hid hm1;clear hn1 hm1;by_cases hl:n1<m1
 · have T:=Ad (NR b a m1 n1 HM.out HN.out (by omega));go_wp2_with (first
    |(at_make;refine AU _ rfl _ _ rfl _ (m1+1) rfl rfl (by omega) (by omega) ?_;intro w1 hr1 hb1 hs1)
    |(with_reducible refine AZ rfl _ _ rfl w.heap.size 0 _ _ _ _ m1 m1 rfl (fun _=>rfl) rfl _ (Limb.canon b) hr1 (hy1.below hb1) (by omega) (by simp) ?_;intro w2 hr2 ho2)
    |fail)
   rw[T.out.2.1]at hr2;have hb2:=hb1.trans (ho2.below (Nat.le_of_lt hs1) (Nat.le_refl _));refine (CR w.heap.size 0 (m1+1) _ (Limb.fixed (m1+1) b) A1 n1 n1 (Limb.canon a) _ hr2 (Limb.fixed_ok _ _) (by rw[Limb.fixed_length];omega) (by omega) (hx1.below hb2) (by omega) (fun h=>hx1.apart h (Nat.le_refl _))).mono ?_;rintro e w3 ⟨rfl,hr3,ho3⟩;rw[T.out.2.2.2.1,Limb.val_canon,T.out.2.2.1]at hr3;have hb3:=hb2.trans (ho3.below hb2.size (Nat.le_refl _));go_wp2_with fail
   refine (Bp w.heap.size (m1+1) _ (b+a) w.heap.size _ _ hr3 (Limb.fixed_ok _ _) (by rw[Limb.fixed_length];omega) (by omega) (by omega) (Nat.le_refl _) T.out.2.2.2.2).mono ?_;rintro e w4 ⟨A',k,rfl,how,rfl⟩;go_wp2_with fail;go_ret
   exact ⟨A',k,rfl,by rw[Nat.add_comm a b];exact how,hb3⟩
 · have T:=Ad (NR a b n1 m1 HN.out HM.out (by omega));have hl2:m1<=n1:=(by omega);clear hl;go_wp2_with (first
    |(at_make;refine AU _ rfl _ _ rfl _ (n1+1) rfl rfl (by omega) (by omega) ?_;intro w1 hr1 hb1 hs1)
    |(with_reducible refine AZ rfl _ _ rfl w.heap.size 0 _ _ _ _ n1 n1 rfl (fun _=>rfl) rfl _ (Limb.canon a) hr1 (hx1.below hb1) (by omega) (by simp) ?_;intro w2 hr2 ho2)
    |fail)
   rw[T.out.2.1]at hr2;have hb2:=hb1.trans (ho2.below (Nat.le_of_lt hs1) (Nat.le_refl _));refine (CR w.heap.size 0 (n1+1) _ (Limb.fixed (n1+1) a) B1 m1 m1 (Limb.canon b) _ hr2 (Limb.fixed_ok _ _) (by rw[Limb.fixed_length];omega) (by omega) (hy1.below hb2) (by omega) (fun h=>hy1.apart h (Nat.le_refl _))).mono ?_;rintro e w3 ⟨rfl,hr3,ho3⟩;rw[T.out.2.2.2.1,Limb.val_canon,T.out.2.2.1]at hr3;have hb3:=hb2.trans (ho3.below hb2.size (Nat.le_refl _));go_wp2_with fail
   refine (Bp w.heap.size (n1+1) _ (a+b) w.heap.size _ _ hr3 (Limb.fixed_ok _ _) (by rw[Limb.fixed_length];omega) (by omega) (by omega) (Nat.le_refl _) T.out.2.2.2.2).mono ?_;rintro e w4 ⟨A',k,rfl,how,rfl⟩;go_wp2_with fail;go_ret
   exact ⟨A',k,rfl,how,hb3⟩
def O2 (w:World) (e:Ending) (w':World):Prop:=e=.returned (.tuple #[.slice none 0 0,.bool false])/\∃k,w'=w.drewN k
def M9 (N:Nat) (w:World) (e:Ending) (w':World):Prop:=∃A n,e=.returned (.tuple #[.slice A n n,.bool true])/\Own w' w.heap.size A n n N/\Below w.heap.size w w'
theorem SB (A B:Option Addr) (n c m d:Nat) (xs ys:List Nat) (w:World) (hx:Am w A n xs) (hc:n<=c) (hm:c<=9223372036854775807) (hy:Am w B m ys) (hd:m<=d) (hmd:d<=9223372036854775807) (hlt:Limb.val xs<Limb.val ys) :
  Calls Tryz.prog 91 #[.slice A n c,.slice B m d] w (O2 w):=by
 have h0:=Ru hlt;go_enter Tryz.func91,Tryz.ntmps91;go_wp2_with fail;refine (Ht A B n c m d xs ys w hx hc hm hy hd hmd).mono ?_;rintro e w' ⟨rfl,k,rfl⟩;clear hlt;go_wp2_with fail;go_ret2
 exact ⟨rfl,k,rfl⟩
def Ry (a b n1:Nat):Prop:=Limb.val (win (Limb.canon a) 0 n1)=a/\put (Limb.canon a) 0 (Limb.fixed n1 (a-b))=Limb.fixed n1 (a-b)/\Limb.val ((Limb.fixed n1 (a-b)).take n1)=a-b
theorem Rz (a b n1:Nat) (hn:n1=(Limb.canon a).length):Ry a b n1:=by
 have ha:=Limb.canon_lt a;rw[<-hn]at ha;refine ⟨?_,?_,?_⟩
 · unfold win;rw[List.drop_zero,List.take_of_length_le (by omega),Limb.val_canon]
 · unfold put;rw[Limb.fixed_length,List.drop_of_length_le (by omega)];simp
 · rw[List.take_of_length_le (by rw[Limb.fixed_length];omega),Limb.fixed_val,Nat.mod_eq_of_lt (by omega)]
def Ub (w':World) (base:Nat) (A:Option Addr) (n N:Nat):Prop:=n=(Limb.canon N).length/\(N≠0->∃g,A=some ⟨g,0,none⟩/\base<=g/\Row w' g (Limb.canon N))
theorem Own.trimRow {w:World} {base n N:Nat} {A:Option Addr} (h:Own w base A n n N):n=(Limb.canon N).length/\(N≠0->∃g zs,A=some ⟨g,0,none⟩/\base<=g/\Row w g zs/\Limb.Ok zs/\n<=zs.length/\win zs 0 n=Limb.canon N):=by refine ⟨h.1,fun h0=>?_⟩;obtain ⟨g,zs,e,hg,hr,ho,hc,ht⟩:=h.2.2.2 h0;exact ⟨g,zs,e,hg,hr,ho,hc,by unfold win;rw[List.drop_zero];exact ht⟩
theorem NS (A B:Option Addr) (n c m d:Nat) (xs ys:List Nat) (w:World) (hx:Am w A n xs) (hc:n<=c) (hm:c<=9223372036854775807) (hn40:n<=1099511627776) (hy:Am w B m ys) (hd:m<=d) (hmd:d<=9223372036854775807) (hle:Limb.val ys<=Limb.val xs) :
   Calls Tryz.prog 91 #[.slice A n c,.slice B m d] w (M9 (Limb.val xs-Limb.val ys) w):=by
 generalize ha:Limb.val xs=a at *;generalize hb:Limb.val ys=b at *;have HA:=Lib.hid ha;have HB:=Lib.hid hb;clear ha hb;have h0:=Rv hle;go_enter Tryz.func91,Tryz.ntmps91;go_wp2_with fail;refine (Ht A B n c m d xs ys w hx hc hm hy hd hmd).mono ?_;rintro e w' ⟨rfl,k,rfl⟩;rw[HA.out,HB.out];go_wp2_with fail;refine (Do A n c xs _ (hx.drewN k) hc hm hn40).mono ?_;rintro e w1 ⟨A1,n1,rfl,how1,hb1⟩;rw[HA.out]at how1
 have hbw1:Below w.heap.size w w1:=(below_drewN (Below.refl _ _) k).trans hb1;go_wp2_with fail;refine (BX B m d ys w1 (hy.below hbw1) hd hmd).mono ?_;rintro e w' ⟨B1,m1,rfl,hcut2,rfl⟩;rw[HB.out]at hcut2;obtain ⟨hm1,hm2,hy1,hB1⟩:=hcut2;have HM:=Lib.hid hm1;have hlen:m1<=n1:=by rw[hm1,how1.len];exact Limb.canon_len_mono hle
 clear hm1;by_cases ha0:a=0
 · have hb0:b=0:=(by omega);subst ha0;subst hb0;obtain rfl:n1=0:=how1.len;obtain rfl:m1=0:=(by omega);go_wp2_with fail;refine (Kv _ _ _ _ _).mono ?_;rintro e w' ⟨rfl,rfl⟩;go_wp2_with fail;refine (BX A1 0 0 [] _ (Am.nil _ _) (by omega) (by omega)).mono ?_;rintro e w' ⟨A2,m2,rfl,hcut3,rfl⟩;obtain rfl:m2=0:=hcut3.1;go_wp2_with fail;go_ret2
   exact ⟨A2,0,rfl,Own.zero _ _ _ _ (by omega),hbw1⟩
 · have T:=Ad (Rz a b n1 how1.len);have hown:=how1.trimRow.2;obtain ⟨g,zs,rfl,hg,hr1,hzok,hzl,hwin⟩:=hown ha0;have HW:=Lib.hid hwin;have H0:=Lib.hid ha0;clear hwin ha0;have hap:0<m1->Apart B1 g:=by
    intro h;rcases hB1 with rfl|rfl
    · have:=hy.apart (g:=g) (by omega) (by simpa using hg);exact this
    · intro ad e;cases e
   have hn1:n1<=1099511627776:=by have e1:=how1.len;have e2:Limb.val xs<4294967296^n:=(by have:=Limb.val_lt xs hx.ok;rwa [hx.len]at this);rw[HA.out]at e2;have e3:=Limb.canon_len_le a n e2;omega
   go_wp2_with fail;have hle2:Limb.val (Limb.canon b)<=Limb.val (win zs 0 n1):=(by rw[HW.out,Limb.val_canon,Limb.val_canon];exact hle);have hfit:0+n1<=zs.length:=(by omega);have h62:n1<=4611686018427387904:=(by omega);refine (EC g 0 n1 _ zs B1 m1 m1 (Limb.canon b) _ hr1 hzok hfit h62 hy1 hlen hap hle2).mono ?_;rintro e w3 ⟨rfl,hr3,ho3⟩;rw[HW.out,Limb.val_canon,Limb.val_canon]at hr3;go_wp2_with fail
   refine (Bp g n1 _ (a-b) w.heap.size _ _ hr3 (CQ hzok _ (Limb.fixed_ok _ _)) (by rw[AA _ _ _ (by rw[Limb.fixed_length];omega)];exact hzl) (by omega) (by omega) (by simpa using hg) (by unfold put;rw[List.take_zero,List.nil_append,List.take_append_of_le_length (by rw[Limb.fixed_length];omega)];exact T.out.2.2)).mono ?_
   rintro e w4 ⟨A',j,rfl,how,rfl⟩;go_wp2_with fail;go_ret2
   exact ⟨A',j,rfl,how,hbw1.trans (ho3.below hbw1.size (by simpa using hg))⟩
end
section
open Go.RowKit
def NT (w:World) (base:Nat) (v:Value) (xs:List Nat):Prop:=w.ownsRow base 83 1 v xs.length (Cb xs)/\Limb.Ok xs
theorem NT.alloc {w:World} {base:Nat} {v:Value} {xs:List Nat} (h:NT w base v xs) (o:Obj):NT (w.alloc o) base v xs:=⟨h.1.alloc o,h.2⟩
theorem NT.form {w:World} {base:Nat} {v:Value} {xs:List Nat} (h:NT w base v xs):∃A c,v=.slice A xs.length c/\Am w A xs.length xs/\xs.length<=c/\c<=9223372036854775807:=by
 obtain ⟨⟨hl,hc⟩,ho⟩:=h;rcases hc with ⟨rfl,h0⟩|⟨g,cap,cur,rfl,hb,hh,h1,h2,h3,h4⟩
 · exact ⟨none,0,by rw[h0],by rw[h0];exact ⟨h0,ho,fun h=>absurd h (by omega)⟩,by omega,by omega⟩
 · unfold maxLen at h2;refine ⟨some ⟨g,0,none⟩,cap,rfl,⟨rfl,ho,fun _=>⟨g,0,rfl,fun i hi=>?_⟩⟩,h1,h2⟩;rw[Nat.zero_add,cell_of_row w g i _ _ _ hh,<-Hz xs i hi,<-h4,List.getElem?_take_of_lt (by omega)];simp
theorem NT.empty (w:World) (base:Nat) (hb:base<=w.heap.size):NT (w.alloc (.cells #[] 83)) base (.slice (some ⟨w.heap.size,0,none⟩) 0 0) []:=
 ⟨⟨rfl,.inr ⟨w.heap.size,0,#[],rfl,hb,heap_alloc_new w _,Nat.le_refl _,by unfold maxLen;omega,rfl,rfl⟩⟩,Limb.Ok.nil⟩
theorem Lo (w:World) (u:Value) (e:TypeId):(w.alloc (.cells #[u] e)).cell? ⟨w.heap.size,0,none⟩=some u:=by simp
theorem O3 (w:World) (u:Int) (y:Nat) (e:TypeId) (h:u=(y:Int)):(w.alloc (.cells #[.int .u32 u] e)).cell? ⟨w.heap.size,0,none⟩=some (.int .u32 (y:Int)):=by rw[Lo,h]
theorem Ee (w:World) {ops:Array Oper} {rest:List Oper} {o:Oper} {a:Act} {Q:Exit->Act->World->Prop} (hgd:o.guard=none) (s x:Operand)
   (ho:o.op=.call { callee:=.builtin .append,args:=#[s,x],argTypes:=#[29,29] })
   (base:Nat) (v:Value) (xs:List Nat) (hs:a.eval s=v) (hown:NT w base v xs) (ad:Addr) (y:Nat) (hx:a.eval x=.slice (some ad) 1 1) (hcell:w.cell? ad=some (.int .u32 (y:Int))) (hy:y<4294967296)
   (hlen:xs.length<=4398046511104) (hbase:base<=w.heap.size)
   (h:∀v' w',NT w' base v' (xs++[y])->Below base w w'->wpList Tryz.prog ops Q rest (a.put o.dst v') w'):wpList Tryz.prog ops Q (o::rest) a w:=by
 obtain ⟨i0,hi0,hz0,hz1,hz2⟩:=info_parts H7;refine wpList_append_own _ hgd s x 29 ho base 83 i0 _ 1 4 Tryz.underlying29 hi0 hz0 hz1 hz2 rfl (by omega) v xs.length (Cb xs) hs hown.1 ad 1 1 [.int .u32 (y:Int)] hx rfl ?_ ?_ (by unfold maxLen;omega) (by omega) hbase ?_
 · intro j u hj;match j,hj with
   |0,hj=>
     simp at hj;subst hj;simpa[Addr.add] using hcell
 · intro u hu;simp at hu;subst hu;rfl
 · intro v' w' h1 h2 _;refine h v' w' ⟨?_,hown.2.append (Limb.Ok.cons hy Limb.Ok.nil)⟩ ?_
   · rw[EZ,List.length_append];exact h1
   · exact (Below.refl _ _).grown h2 hbase (fun k hk=>(hown.1.lt k hk).1)
def NU (N:Nat) (w:World) (e:Ending) (w':World):Prop:=∃A n c,e=.returned (.slice A n c)/\Am w' A n (Limb.canon N)/\n<=c/\c<=9223372036854775807/\Below w.heap.size w w'
def R2 (n:Int) (w:World) (e:Ending) (w':World):Prop:=e=.returned (.int .i64 n)/\w=w'
def NV (n:Int) (w:World) (e:Ending) (w':World):Prop:=e=.returned (.int .u64 n)/\w=w'
def mx (n m:Nat):Nat:=if m<n then n else m
theorem TE (n m:Nat):n<=mx n m/\m<=mx n m/\(mx n m=n\/mx n m=m):=by unfold mx;split<;>omega
theorem Ie (A B:Option Addr) (n c m d:Nat) (w:World) (hn:n<=9223372036854775807) (hm:m<=9223372036854775807) :
   Calls Tryz.prog 74 #[.slice A n c,.slice B m d] w (R2 (mx n m:Nat) w):=by
 by_cases h:m<n
 · have hf:mx n m=n:=(by unfold mx;rw[if_pos h]);have HF:=Lib.hid hf;clear hf;go_enter Tryz.func74,Tryz.ntmps74;go_wp2_with fail;go_ret
   exact ⟨by rw[HF.out];rfl,rfl⟩
 · have hf:mx n m=m:=(by unfold mx;rw[if_neg h]);have HF:=Lib.hid hf;clear hf;go_enter Tryz.func74,Tryz.ntmps74;go_wp2_with fail;go_ret
   exact ⟨by rw[HF.out];rfl,rfl⟩
open Limb (limb AE)
theorem PT (A:Option Addr) (n c:Nat) (xs:List Nat) (i:Nat) (w:World) (hx:Am w A n xs) (hm:n<=9223372036854775807) :
   Calls Tryz.prog 75 #[.slice A n c,.int .i64 (i:Int)] w (NV (limb xs i:Nat) w):=by
 by_cases hi:i<n
 · obtain ⟨b,o,x,rfl,hxl,hxe,hc⟩:=hx.at_ hi;have hf:limb xs i=x:=hxe.symm;have HF:=Lib.hid hf;clear hf hxe;go_enter Tryz.func75,Tryz.ntmps75;go_wp2_with fail;go_ret
   exact ⟨by rw[HF.out];rfl,rfl⟩
 · have hf:limb xs i=0:=Limb.limb_beyond (by rw[hx.len];omega);have HF:=Lib.hid hf;clear hf;go_enter Tryz.func75,Tryz.ntmps75;go_wp2_with fail;go_ret
   exact ⟨by rw[HF.out];rfl,rfl⟩
def PU (b:Bool) (w:World) (e:Ending) (w':World):Prop:=e=.returned (.bool b)/\∃k,w'=w.drewN k
theorem PW (A B:Option Addr) (n c d:Nat) (xs:List Nat) (w:World) (hx:Am w A n xs) (hy:Am w B n xs) (hn:n<=9223372036854775807) :
  Calls Tryz.prog 116 #[.slice A n c,.slice B n d] w (PU true w):=by
 have h0:((n:Int) != (n:Int))=false:=by simp
 go_enter Tryz.func116,Tryz.ntmps116;go_wp2_with fail;go_loopw [5] (fun i wr=>∃k:Nat,k<=n/\i=.int .i64 (k:Int)/\∃q,wr=w.drewN q) (fun i _=>n-(intOf i).toNat)
 case atStart=>exact ⟨0,Nat.zero_le _,rfl,0,rfl⟩
 case round=>
  obtain ⟨k,hk,rfl,q,rfl⟩:=hrel;by_cases hkn:k<n
  · obtain ⟨b1,o1,x,rfl,hxb,hxe,hxc⟩:=hx.at_ hkn;obtain ⟨b2,o2,y,rfl,hyb,hye,hyc⟩:=hy.at_ hkn;obtain rfl:x=y:=hxe.trans hye.symm;clear hxe hye;have h1:((x:Int) != (x:Int))=false:=(by simp);go_wp2_with fail;go_quiet (fail)
    go_wp2_with fail;go_roundw
    case rel=>exact ⟨k+1,by omega,by go_num,_,rfl⟩
    case measure=>simp[intOf]<;>omega
  · go_wp2_with fail;go_ret
    exact ⟨rfl,q,rfl⟩
def SC (a b:Nat) (w:World) (e:Ending) (w':World):Prop:=e=.returned (.int .i64 (ET a b))/\w=w'
theorem Hi (xs:List Nat) (k:Nat) (hk:k+1<=xs.length) (h:limb xs k=0):Limb.val (xs.take (k+1))=Limb.val (xs.take k):=by have:=Limb.upto_succ xs k;unfold Limb.upto at this;rw[this,h];omega
theorem JG (A:Option Addr) (n c:Nat) (xs:List Nat) (w:World) (hx:Am w A n xs) (hn:n<=1099511627776) :
  Calls Tryz.prog 73 #[.slice A n c] w (NU (Limb.val xs) w):=by
 go_enter Tryz.func73,Tryz.ntmps73;go_wp2_with fail;go_loopw [3,4] (fun v i wr=>∃k:Nat,k<=n/\i=.int .i64 (k:Int)/\NT wr w.heap.size v (xs.take k)/\Below w.heap.size w wr) (fun _ i _=>n-(intOf i).toNat)
 case atStart=>exact ⟨0,Nat.zero_le _,rfl,NT.empty w _ (Nat.le_refl _),(Below.refl _ _).alloc (Nat.le_refl _) _⟩
 case round=>
  obtain ⟨k,hk,rfl,hL,hB⟩:=hrel;by_cases hkn:k<n
  · obtain ⟨b,o,x,hA,hxl,hxe,hc⟩:=(hx.below hB).at_ hkn;subst hA;have HX:=Lib.hid hxe;clear hxe;have hlen:(xs.take k).length<=4398046511104:=(by rw[List.length_take];omega);go_wp2_with (at_builtin;refine Ee _ rfl _ _ rfl w.heap.size _ _ rfl (hL.alloc _) _ x rfl (Lo _ _ _) hxl hlen (by have:=hB.size;simp;omega) ?_;intro v' w1 hL1 hB1);go_roundw
    case rel=> refine ⟨k+1,by omega,by go_num,?_,(hB.alloc hB.size _).trans hB1⟩;rw[Limb.take_succ_getD xs k (by rw[hx.len];omega),<-HX.out];exact hL1
    case measure=>simp[intOf]<;>omega
  · rw[List.take_of_length_le (by rw[hx.len];omega)]at hL;obtain ⟨A1,c1,rfl,hN,hc1,hc2⟩:=hL.form;have hlx:=hx.len;have HL:=Lib.hid hlx;rw[hlx];rw[hlx]at hN hc1;have hok:=hx.ok;clear hL hx hlx;go_wp2_with fail;go_loopw [3] (fun v wr=>∃j c2:Nat,j<=n/\j<=c2/\c2<=9223372036854775807/\v=.slice A1 j c2/\Am wr A1 j (xs.take j)/\Below w.heap.size w wr/\Hid (Limb.val (xs.take j)=Limb.val xs)) (fun v _=>match v with|.slice _ j _=>j|_=>0)
    case atStart=>exact ⟨n,c1,Nat.le_refl _,hc1,hc2,rfl,by rw[List.take_of_length_le (by rw[HL.out];exact Nat.le_refl _)];exact hN,hB,by show _=_;rw[List.take_of_length_le (by rw[HL.out];exact Nat.le_refl _)]⟩
    case round=>
     clear hB hN hc1 hc2;obtain ⟨j,c2,hj,hc1,hc2,rfl,hN,hB,HV⟩:=hrel;rcases Nat.eq_zero_or_pos j with hj0|hj0
     · subst hj0;go_wp2_with fail;go_ret
       refine ⟨A1,0,c2,rfl,?_,by omega,hc2,hB⟩;have h0:Limb.val xs=0:=(by rw[<-HV.out];simp[Limb.val]);rw[h0];exact Am.nil _ _
     · obtain ⟨b,o,x,rfl,hxl,hxe,hc⟩:=hN.at_ (i:=j-1) (by omega);have HX:=Lib.hid hxe;clear hxe;by_cases hx0:x=0
       · have h1:((x:Int)==0)=true:=(by simp[hx0]);have HX0:=Lib.hid hx0;clear hx0;go_wp2_with fail;go_roundw
         case rel=>
          have hg:limb xs (j-1)=0:=by rw[<-HX0.out,HX.out];unfold limb;rw[List.getD_eq_getElem?_getD,List.getD_eq_getElem?_getD,List.getElem?_take_of_lt (by omega)]
          have hcz:=Hi xs (j-1) (by rw[HL.out];omega) hg;have e1:j-1+1=j:=(by omega);rw[e1]at hcz;have hN2:=hN.take (k:=j-1) (by omega);rw[List.take_take,Nat.min_eq_left (by omega)]at hN2;exact ⟨j-1,c2,by omega,by omega,hc2,rfl,hN2,hB,by show _=_;rw[<-hcz];exact HV.out⟩
         case measure=>show j-1<j;omega
       · have h1:((x:Int)==0)=false:=(by simp;omega);have HX0:=Lib.hid hx0;clear hx0;go_wp2_with fail;go_ret
         refine ⟨_,j,c2,rfl,?_,hc1,hc2,hB⟩;have hl:(xs.take j).length=j:=(by rw[List.length_take,HL.out];omega);have hcn:=Limb.canon_take (xs.take j) (hok.take j) j (by omega) (fun i h1 h2=>by omega) (fun _=>by rw[<-HX.out];exact HX0.out);rw[HV.out,List.take_take,Nat.min_self]at hcn;rw[hcn];exact hN
end
section
open Go.RowKit
open Limb (limb AE upto upto_succ Ap Aq)
def JH (xs ys os:List Nat) (k z:Nat):Prop:=os.length=k/\Limb.val os+4294967296^k*z=upto xs k+upto ys k
theorem JH.step {xs ys os:List Nat} {k z:Nat} (h:JH xs ys os k z):JH xs ys (os++[(limb xs k+limb ys k+z)%4294967296]) (k+1) ((limb xs k+limb ys k+z)/4294967296):=by
 obtain ⟨hl,hv⟩:=h;refine ⟨by simp[hl],?_⟩;rw[Limb.val_append,hl,upto_succ,upto_succ];have e:Limb.val [(limb xs k+limb ys k+z)%4294967296]=(limb xs k+limb ys k+z)%4294967296:=by simp[Limb.val]
 rw[e,Nat.pow_succ,Nat.mul_assoc];have e2:4294967296^k*((limb xs k+limb ys k+z)%4294967296)+4294967296^k*(4294967296*((limb xs k+limb ys k+z)/4294967296))=4294967296^k*limb xs k+4294967296^k*limb ys k+4294967296^k*z:=by
  rw[<-Nat.mul_add,<-Nat.mul_add,<-Nat.mul_add];congr 1
  omega
 omega
theorem JH.done {xs ys os:List Nat} {k z:Nat} (h:JH xs ys os k z) (hx:Limb.Ok xs) (hy:Limb.Ok ys) (h1:xs.length+1<=k) (h2:ys.length+1<=k):Limb.val os=Limb.val xs+Limb.val ys:=by obtain ⟨hl,hv⟩:=h;rw[Ap xs k (by omega),Ap ys k (by omega)]at hv;obtain ⟨j,rfl⟩:∃j,k=j+1:=⟨k-1,by omega⟩;have b1:=Nat.lt_of_lt_of_le (Limb.val_lt xs hx) (Limb.pow_mono (show xs.length<=j by omega));have b2:=Nat.lt_of_lt_of_le (Limb.val_lt ys hy) (Limb.pow_mono (show ys.length<=j by omega));refine Limb.carry_zero _ _ _ _ hv ?_;rw[Nat.pow_succ];exact Limb.sum_lt _ _ _ b1 b2
theorem PX (A B:Option Addr) (n c m d:Nat) (xs ys:List Nat) (w:World) (hx:Am w A n xs) (hy:Am w B m ys) (hn:n<=549755813888) (hm:m<=549755813888) :
  Calls Tryz.prog 41 #[.slice A n c,.slice B m d] w (NU (Limb.val xs+Limb.val ys) w):=by
 obtain ⟨hm1,hm2,hm3⟩:=TE n m;have hle:mx n m<=549755813888:=by omega
 clear hm3;go_enter Tryz.func41,Tryz.ntmps41;go_wp2_with fail;go_loopw [5,6,7] (fun v cz i wr=>∃k z:Nat,∃os:List Nat,k<=mx n m+1/\z<=1/\i=.int .i64 (k:Int)/\cz=.int .u64 (z:Int)/\NT wr w.heap.size v os/\Below w.heap.size w wr/\Hid (JH xs ys os k z)) (fun _ _ i _=>mx n m+1-(intOf i).toNat)
 case atStart=>exact ⟨0,0,[],Nat.zero_le _,Nat.zero_le _,rfl,rfl,NT.empty w _ (Nat.le_refl _),(Below.refl _ _).alloc (Nat.le_refl _) _,⟨rfl,by simp[Limb.val,upto]⟩⟩
 case round=>
  obtain ⟨k,z,os,hk,hz,rfl,rfl,hL,hB,HA⟩:=hrel;have hol:os.length<=4398046511104:=by rw[HA.out.1];omega
  have hxk:=AE hx.ok k;have hyk:=AE hy.ok k;by_cases hkn:k<=mx n m
  · go_wp2_with fail;refine (Ie A B n c m d wr (by omega) (by omega)).mono ?_;rintro e w' ⟨rfl,rfl⟩;go_wp2_with fail;refine (PT A n c xs k wr (hx.below hB) (by omega)).mono ?_;rintro e w' ⟨rfl,rfl⟩;go_wp2_with fail;refine (PT B m d ys k wr (hy.below hB) (by omega)).mono ?_;rintro e w' ⟨rfl,rfl⟩
    go_wp2_with (at_builtin;refine Ee _ rfl _ _ rfl w.heap.size _ _ rfl (hL.alloc _) _ ((limb xs k+limb ys k+z)%4294967296) rfl (O3 _ _ _ _ (by omega)) (by omega) hol (by have:=hB.size;simp;omega) ?_;intro v' w1 hL1 hB1);go_roundw
    case rel=>exact ⟨k+1,(limb xs k+limb ys k+z)/4294967296,_,by omega,by omega,by go_num,by go_num,hL1,(hB.alloc hB.size _).trans hB1,HA.out.step⟩
    case measure=>simp[intOf]<;>omega
  · go_wp2_with fail;refine (Ie A B n c m d wr (by omega) (by omega)).mono ?_;rintro e w' ⟨rfl,rfl⟩;obtain ⟨A1,c1,rfl,hN,hc1,hc2⟩:=hL.form;have hv:=HA.out.done hx.ok hy.ok (by rw[hx.len];omega) (by rw[hy.len];omega);have HV:=Lib.hid hv;have hol2:os.length<=1099511627776:=(by rw[HA.out.1];omega);clear hL hv;go_wp2_with fail;refine (JG A1 _ c1 os wr hN hol2).mono ?_;rintro e w2 ⟨A2,n2,c2,rfl,hN2,h1,h2,hB2⟩;rw[HV.out]at hN2;go_wp2_with fail;go_ret
    exact ⟨A2,n2,c2,rfl,hN2,h1,h2,hB.trans (hB2.mono hB.size)⟩
def U5 (xs ys os:List Nat) (k z:Nat):Prop:=os.length=k/\Limb.val os+upto ys k=upto xs k+4294967296^k*z
def R6 (w:World) (e:Ending) (w':World):Prop:=e=.returned (.tuple #[.slice none 0 0,.bool false])/\w=w'
def Rt (N:Nat) (w:World) (e:Ending) (w':World):Prop:=∃A n c,e=.returned (.tuple #[.slice A n c,.bool true])/\Am w' A n (Limb.canon N)/\n<=c/\c<=9223372036854775807/\Below w.heap.size w w'
def U6 (xs os:List Nat) (m k z:Nat):Prop:=os.length=k/\Limb.val os+4294967296^k*z=upto xs k*m
theorem Kx (x m:Nat) (hx:x<4294967296) (hm:m<4294967296):x*m<=18446744065119617025:=by have:=Nat.mul_le_mul (show x<=4294967295 by omega) (show m<=4294967295 by omega);omega
theorem Ig (x m:Nat) (hx:x<4294967296) (hm:m<4294967296):(x:Int)*(m:Int)<=18446744065119617025/\0<=(x:Int)*(m:Int)/\(x:Int)*(m:Int)=((x*m:Nat):Int):=by have h:=Kx x m hx hm;rw[<-Int.natCast_mul];omega
end
section
open Go.RowKit
theorem Row.new (w:World) (zs:List Nat) (us:Array Value) (h:us=(Cb zs).toArray):Row (w.alloc (.cells us 83)) w.heap.size zs:=by unfold Row;rw[h];exact heap_alloc_new w _
theorem PY (N:Nat) (w:World) (h:N/4294967296<4294967296) :
  Calls Tryz.prog 82 #[.int .u64 (N:Int)] w (Ck N w):=by
 go_enter Tryz.func82,Tryz.ntmps82;go_wp2_with fail;have hr:=Row.new w [N%4294967296,N/4294967296] #[.int .u32 ((N:Int)%4294967296),.int .u32 ((N:Int)/4294967296)] (by simp[Cb]);refine (Bp w.heap.size 2 2 N w.heap.size _ _ hr (Limb.Ok.cons (by omega) (Limb.Ok.cons h Limb.Ok.nil)) (by simp) (by omega) (by omega) (Nat.le_refl _) (by simp[Limb.val];omega)).mono ?_;rintro e w' ⟨A',m,rfl,how,rfl⟩;go_wp2_with fail;go_ret
 exact ⟨A',m,rfl,how,(Below.refl _ _).alloc (Nat.le_refl _) _⟩
theorem of_int (v:Int) (N:Nat) (w:World) (hv:v=(N:Int)) (h:N/4294967296<4294967296):Calls Tryz.prog 82 #[.int .u64 v] w (Ck N w):=by subst hv;exact PY N w h
theorem Am.new (w:World) (xs:List Nat) (us:Array Value) (h:us=(Cb xs).toArray) (ho:Limb.Ok xs) (n:Nat) (hn:n=xs.length):Am (w.alloc (.cells us 83)) (some ⟨w.heap.size,0,none⟩) n xs:=by subst hn;have:=(Row.new w xs us h).nums ho (o:=0) (n:=xs.length) (by omega);simpa using this
def Ef (w:World) (e:Ending) (w':World):Prop:=e=.returned (.bool true)/\Below w.heap.size w w'
def SD (b:Bool) (w:World) (e:Ending) (w':World):Prop:=e=.returned (.bool b)/\w=w'
end
section
open Go.RowKit
theorem O4 (x:Nat) (h0:x≠0) (h:x<4294967296):Limb.canon x=[x]:=by
 rw[Limb.canon_pos x h0];have e1:x%4294967296=x:=by omega
 have e2:x/4294967296=0:=by omega
 rw[e1,e2,Limb.canon_zero]
theorem Uo (w:World) (x N:Nat) (us:Array Value) (hus:us=(Cb [x]).toArray) (h0:x≠0) (h:x<4294967296) (hN:x=N):Am (w.alloc (.cells us 83)) (some ⟨w.heap.size,0,none⟩) 1 (Limb.canon N):=by subst hN;rw[O4 x h0 h];exact Am.new w [x] us hus (Limb.Ok.cons h Limb.Ok.nil) 1 rfl
theorem CG {w:World} {A:Option Addr} {n N k:Nat} (h:Am w A n (Limb.canon N)) (hN:N<4294967296^k):n<=k:=by rw[<-h.len];exact Limb.canon_len_le N k hN
end
end Go.Proofs.YtemfjdedjcjegaaGreatDoor
