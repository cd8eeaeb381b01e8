/- Texts of one seat, put together: Add Ref. -/
import Derived.Test.YtmedjkhmadfjlaaGreatR02
set_option linter.unusedVariables false
set_option linter.unusedSimpArgs false
set_option maxRecDepth 100000
set_option maxHeartbeats 16000000
namespace Go.Proofs.YtmedjkhmadfjlaaGreat
section
open Go.RowKit
def Rc (N:Nat) (w:World) (e:Ending) (w':World):Prop:=∃A n,e=.returned (.slice A n n)/\Own w' w.heap.size A n n N/\Below w.heap.size w w'
theorem EZ (A:Option Addr) (n c:Nat) (xs:List Nat) (w:World) (hx:Av w A n xs) (hc:n<=c) (hm:c<=9223372036854775807) (hb:n<=1099511627776) :
   Calls Tryz.prog 154 #[.slice A n c] w (Rc (Limb.val xs) w):=by
 obtain ⟨i0,hi0,hz0,hz1,hz2⟩:=info_parts Jo;generalize ha:Limb.val xs=a;have HA:=Lib.hid ha;clear ha;go_enter Tryz.func154,Tryz.ntmps154;go_wp2_with fail;refine (Ct A n c xs w hx hc hm).mono ?_;rintro e w' ⟨A1,n1,rfl,hcut1,rfl⟩;rw[HA.out]at hcut1;obtain ⟨hn1,hn2,hx1,_⟩:=hcut1;have HN:=Lib.hid hn1;clear hn1 hx HA;by_cases h0:n1=0
 · subst h0;go_wp2_with fail;go_ret
   refine ⟨none,0,rfl,?_,Below.refl _ _⟩;have:a=0:=(Limb.canon_len_zero a).1 HN.out.symm;rw[this];exact Own.zero _ _ _ _ (by omega)
 · have h1:((n1:Int)==0)=false:=(by simp;omega);have hpos:1<=n1:=(by omega);clear h0;go_wp2_with (first
    |(at_make;refine Bl _ rfl _ _ rfl _ n1 rfl rfl rfl (by omega) ?_;intro w1 hr1 hb1 hs1)
    |(with_reducible refine Bw rfl _ _ rfl w.heap.size 0 _ _ _ _ n1 n1 rfl (fun _=>rfl) rfl _ (Limb.canon a) hr1 (hx1.below hb1) (Nat.le_refl _) (by simp) ?_;intro w2 hr2 ho2))
   go_ret
   have hle:=Limb.canon_len_le;have hput:put (List.replicate n1 0) 0 (Limb.canon a)=Limb.canon a:=by unfold put;rw[<-HN.out];simp
   rw[hput]at hr2;exact ⟨_,n1,rfl,Own.row hr2 (Limb.ok_canon a) (Nat.le_refl _) (Nat.le_refl _) (by rw[<-HN.out];exact Nat.le_refl _) (by omega) (by rw[HN.out];simp),hb1.trans (ho2.below (by omega) (Nat.le_refl _))⟩
theorem Re {xs ys:List Nat} (hl:xs.length=ys.length) (h:∀i,i<xs.length->xs.getD i 0=ys.getD i 0):xs=ys:=by apply List.ext_getElem hl;intro i h1 h2;have:=h i h1;rwa [List.getD_eq_getElem?_getD,List.getD_eq_getElem?_getD,List.getElem?_eq_getElem h1,List.getElem?_eq_getElem h2]at this
theorem Row.take_eq {w:World} {g m:Nat} {zs xs:List Nat} (hr:Row w g zs) (hx:Av w (some ⟨g,0,none⟩) m xs) (hm:m<=zs.length):zs.take m=xs:=by
 have hl:=hx.len;apply Re (by rw[List.length_take];omega);intro i hi;rw[List.length_take]at hi;obtain ⟨b,o,x,hbo,_,hx2,hc⟩:=hx.at_ (i:=i) (by omega);injection hbo with hbo
 injection hbo with h1 h2
 subst h1;subst h2;rw[Nat.zero_add,hr.cell (i:=i) (by omega)]at hc;injection hc with hc
 injection hc with _ hc
 rw[<-hx2,List.getD_eq_getElem?_getD,List.getElem?_take_of_lt (by omega),<-List.getD_eq_getElem?_getD];omega
theorem Own.ofCut {w:World} {g n m N base:Nat} {A':Option Addr} {zs:List Nat} (hr:Row w g zs) (ho:Limb.Ok zs) (hi:Jp w (some ⟨g,0,none⟩) A' n m N) (hb:base<=g) (hn:n<=zs.length) (h62:n<=4611686018427387904):Own w base A' m m N:=by
 obtain ⟨h1,h2,h3,h4⟩:=hi;refine ⟨h1,Nat.le_refl _,by omega,fun h0=>?_⟩;have hm:0<m:=by
   rcases Nat.eq_zero_or_pos m with hm|hm
   · exact absurd ((Limb.canon_len_zero N).1 (by rw[<-h1];exact hm)) h0
   · exact hm
 rcases h4 with rfl|rfl
 · exact ⟨g,zs,rfl,hb,hr,ho,by omega,hr.take_eq h3 (by omega)⟩
 · obtain ⟨_,_,e,_⟩:=h3.2.2 hm;cases e
def M5 (base N:Nat) (w:World) (e:Ending) (w':World):Prop:=∃A' m,e=.returned (.slice A' m m)/\Own w base A' m m N/\w=w'
theorem BU (g n c N base:Nat) (zs:List Nat) (w:World) (hr:Row w g zs) (ho:Limb.Ok zs) (hn:n<=zs.length) (hc:n<=c) (hm:c<=4611686018427387904) (hb:base<=g) (hN:Limb.val (zs.take n)=N) :
  Calls Tryz.prog 146 #[.slice (some ⟨g,0,none⟩) n c] w (M5 base N w):=by
 subst hN;have hx:=hr.nums ho (o:=0) (n:=n) (by omega);rw[List.drop_zero]at hx;refine (Ct _ n c _ w hx hc (by omega)).mono ?_;rintro e w' ⟨A',m,rfl,hi,rfl⟩;exact ⟨A',m,rfl,Own.ofCut hr ho hi hb hn (by omega),rfl⟩
theorem U9 {a b:Nat} (h:a<=b):4294967296^a<=4294967296^b:=Nat.pow_le_pow_right (by omega) h
theorem add_lt (a b k:Nat) (ha:a<4294967296^k) (hb:b<4294967296^k):a+b<4294967296^(k+1):=by rw[Nat.pow_succ];omega
def Ti (a b n1:Nat):Prop:=a+b<4294967296^(n1+1)/\put (List.replicate (n1+1) 0) 0 (Limb.canon a)=Limb.fixed (n1+1) a/\put (Limb.fixed (n1+1) a) 0 (Limb.fixed (n1+1) (a+b))=Limb.fixed (n1+1) (a+b)/\Limb.val (win (Limb.fixed (n1+1) a) 0 (n1+1))=a/\Limb.val ((Limb.fixed (n1+1) (a+b)).take (n1+1))=a+b
theorem Pd (a b n1 m1:Nat) (hn:n1=(Limb.canon a).length) (hm:m1=(Limb.canon b).length) (h:m1<=n1):Ti a b n1:=by
 have ha:=Limb.canon_lt a;have hb:=Limb.canon_lt b;rw[<-hn]at ha;rw[<-hm]at hb;have hp:=U9 h;have hs:=add_lt a b n1 ha (by omega);have ha2:a<4294967296^(n1+1):=by omega
 refine ⟨hs,?_,?_,?_,?_⟩
 · rw[Limb.fixed_eq_canon _ a ha2];unfold put;rw[<-hn];simp
 · unfold put;rw[Limb.fixed_length,List.drop_of_length_le (by rw[Limb.fixed_length];omega)];simp
 · unfold win;rw[List.drop_zero,List.take_of_length_le (by rw[Limb.fixed_length];omega),Limb.fixed_val,Nat.mod_eq_of_lt ha2]
 · rw[List.take_of_length_le (by rw[Limb.fixed_length];omega),Limb.fixed_val,Nat.mod_eq_of_lt hs]
def CO (N:Nat) (w:World) (e:Ending) (w':World):Prop:=∃A n,e=.returned (.slice A n n)/\Own w' w.heap.size A n n N/\Below w.heap.size w w'
theorem LH (A B:Option Addr) (n c m d:Nat) (xs ys:List Nat) (w:World) (hx:Av w A n xs) (hc:n<=c) (hm:c<=9223372036854775807) (hn40:n<=1099511627776) (hy:Av w B m ys) (hd:m<=d) (hmd:d<=9223372036854775807) (hm40:m<=1099511627776) :
   Calls Tryz.prog 148 #[.slice A n c,.slice B m d] w (CO (Limb.val xs+Limb.val ys) w):=by
 generalize ha:Limb.val xs=a;generalize hb:Limb.val ys=b;have HA:=Lib.hid ha;have HB:=Lib.hid hb;clear ha hb;go_enter Tryz.func148,Tryz.ntmps148;go_wp2_with fail;refine (Ct A n c xs w hx hc hm).mono ?_;rintro e w' ⟨A1,n1,rfl,hcut1,rfl⟩;rw[HA.out]at hcut1;go_wp2_with fail;refine (Ct B m d ys w hy hd hmd).mono ?_;rintro e w' ⟨B1,m1,rfl,hcut2,rfl⟩;rw[HB.out]at hcut2;clear hx hy HA HB;obtain ⟨hn1,hn2,hx1,_⟩:=hcut1;obtain ⟨hm1,hm2,hy1,_⟩:=hcut2;have HN:=Lib.hid hn1
 have HM:=Lib.hid hm1;clear hn1 hm1;by_cases hl:n1<m1
 · have T:=Ac (Pd b a m1 n1 HM.out HN.out (by omega));go_wp2_with (first
    |(at_make;refine Bl _ rfl _ _ rfl _ (m1+1) rfl rfl (by omega) (by omega) ?_;intro w1 hr1 hb1 hs1)
    |(with_reducible refine Bw rfl _ _ rfl w.heap.size 0 _ _ _ _ m1 m1 rfl (fun _=>rfl) rfl _ (Limb.canon b) hr1 (hy1.below hb1) (by omega) (by simp) ?_;intro w2 hr2 ho2)
    |fail)
   rw[T.out.2.1]at hr2;have hb2:=hb1.trans (ho2.below (Nat.le_of_lt hs1) (Nat.le_refl _));refine (Ds w.heap.size 0 (m1+1) _ (Limb.fixed (m1+1) b) A1 n1 n1 (Limb.canon a) _ hr2 (Limb.fixed_ok _ _) (by rw[Limb.fixed_length];omega) (by omega) (hx1.below hb2) (by omega) (fun h=>hx1.apart h (Nat.le_refl _))).mono ?_;rintro e w3 ⟨rfl,hr3,ho3⟩;rw[T.out.2.2.2.1,Limb.val_canon,T.out.2.2.1]at hr3;have hb3:=hb2.trans (ho3.below hb2.size (Nat.le_refl _));go_wp2_with fail
   refine (BU w.heap.size (m1+1) _ (b+a) w.heap.size _ _ hr3 (Limb.fixed_ok _ _) (by rw[Limb.fixed_length];omega) (by omega) (by omega) (Nat.le_refl _) T.out.2.2.2.2).mono ?_;rintro e w4 ⟨A',k,rfl,how,rfl⟩;go_wp2_with fail;go_ret
   exact ⟨A',k,rfl,by rw[Nat.add_comm a b];exact how,hb3⟩
 · have T:=Ac (Pd a b n1 m1 HN.out HM.out (by omega));have hl2:m1<=n1:=(by omega);clear hl;go_wp2_with (first
    |(at_make;refine Bl _ rfl _ _ rfl _ (n1+1) rfl rfl (by omega) (by omega) ?_;intro w1 hr1 hb1 hs1)
    |(with_reducible refine Bw rfl _ _ rfl w.heap.size 0 _ _ _ _ n1 n1 rfl (fun _=>rfl) rfl _ (Limb.canon a) hr1 (hx1.below hb1) (by omega) (by simp) ?_;intro w2 hr2 ho2)
    |fail)
   rw[T.out.2.1]at hr2;have hb2:=hb1.trans (ho2.below (Nat.le_of_lt hs1) (Nat.le_refl _));refine (Ds w.heap.size 0 (n1+1) _ (Limb.fixed (n1+1) a) B1 m1 m1 (Limb.canon b) _ hr2 (Limb.fixed_ok _ _) (by rw[Limb.fixed_length];omega) (by omega) (hy1.below hb2) (by omega) (fun h=>hy1.apart h (Nat.le_refl _))).mono ?_;rintro e w3 ⟨rfl,hr3,ho3⟩;rw[T.out.2.2.2.1,Limb.val_canon,T.out.2.2.1]at hr3;have hb3:=hb2.trans (ho3.below hb2.size (Nat.le_refl _));go_wp2_with fail
   refine (BU w.heap.size (n1+1) _ (a+b) w.heap.size _ _ hr3 (Limb.fixed_ok _ _) (by rw[Limb.fixed_length];omega) (by omega) (by omega) (Nat.le_refl _) T.out.2.2.2.2).mono ?_;rintro e w4 ⟨A',k,rfl,how,rfl⟩;go_wp2_with fail;go_ret
   exact ⟨A',k,rfl,how,hb3⟩
def PI (w:World) (e:Ending) (w':World):Prop:=e=.returned (.tuple #[.slice none 0 0,.bool false])/\∃k,w'=w.drewN k
def NK (N:Nat) (w:World) (e:Ending) (w':World):Prop:=∃A n,e=.returned (.tuple #[.slice A n n,.bool true])/\Own w' w.heap.size A n n N/\Below w.heap.size w w'
theorem UA (A B:Option Addr) (n c m d:Nat) (xs ys:List Nat) (w:World) (hx:Av w A n xs) (hc:n<=c) (hm:c<=9223372036854775807) (hy:Av w B m ys) (hd:m<=d) (hmd:d<=9223372036854775807) (hlt:Limb.val xs<Limb.val ys) :
  Calls Tryz.prog 149 #[.slice A n c,.slice B m d] w (PI w):=by
 have h0:=OZ hlt;go_enter Tryz.func149,Tryz.ntmps149;go_wp2_with fail;refine (IX A B n c m d xs ys w hx hc hm hy hd hmd).mono ?_;rintro e w' ⟨rfl,k,rfl⟩;clear hlt;go_wp2_with fail;go_ret2
 exact ⟨rfl,k,rfl⟩
def Tj (a b n1:Nat):Prop:=Limb.val (win (Limb.canon a) 0 n1)=a/\put (Limb.canon a) 0 (Limb.fixed n1 (a-b))=Limb.fixed n1 (a-b)/\Limb.val ((Limb.fixed n1 (a-b)).take n1)=a-b
theorem Tk (a b n1:Nat) (hn:n1=(Limb.canon a).length):Tj a b n1:=by
 have ha:=Limb.canon_lt a;rw[<-hn]at ha;refine ⟨?_,?_,?_⟩
 · unfold win;rw[List.drop_zero,List.take_of_length_le (by omega),Limb.val_canon]
 · unfold put;rw[Limb.fixed_length,List.drop_of_length_le (by omega)];simp
 · rw[List.take_of_length_le (by rw[Limb.fixed_length];omega),Limb.fixed_val,Nat.mod_eq_of_lt (by omega)]
def VN (w':World) (base:Nat) (A:Option Addr) (n N:Nat):Prop:=n=(Limb.canon N).length/\(N≠0->∃g,A=some ⟨g,0,none⟩/\base<=g/\Row w' g (Limb.canon N))
theorem Own.trimRow {w:World} {base n N:Nat} {A:Option Addr} (h:Own w base A n n N):n=(Limb.canon N).length/\(N≠0->∃g zs,A=some ⟨g,0,none⟩/\base<=g/\Row w g zs/\Limb.Ok zs/\n<=zs.length/\win zs 0 n=Limb.canon N):=by refine ⟨h.1,fun h0=>?_⟩;obtain ⟨g,zs,e,hg,hr,ho,hc,ht⟩:=h.2.2.2 h0;exact ⟨g,zs,e,hg,hr,ho,hc,by unfold win;rw[List.drop_zero];exact ht⟩
theorem Pe (A B:Option Addr) (n c m d:Nat) (xs ys:List Nat) (w:World) (hx:Av w A n xs) (hc:n<=c) (hm:c<=9223372036854775807) (hn40:n<=1099511627776) (hy:Av w B m ys) (hd:m<=d) (hmd:d<=9223372036854775807) (hle:Limb.val ys<=Limb.val xs) :
   Calls Tryz.prog 149 #[.slice A n c,.slice B m d] w (NK (Limb.val xs-Limb.val ys) w):=by
 generalize ha:Limb.val xs=a at *;generalize hb:Limb.val ys=b at *;have HA:=Lib.hid ha;have HB:=Lib.hid hb;clear ha hb;have h0:=Pa hle;go_enter Tryz.func149,Tryz.ntmps149;go_wp2_with fail;refine (IX A B n c m d xs ys w hx hc hm hy hd hmd).mono ?_;rintro e w' ⟨rfl,k,rfl⟩;rw[HA.out,HB.out];go_wp2_with fail;refine (EZ A n c xs _ (hx.drewN k) hc hm hn40).mono ?_;rintro e w1 ⟨A1,n1,rfl,how1,hb1⟩;rw[HA.out]at how1
 have hbw1:Below w.heap.size w w1:=(below_drewN (Below.refl _ _) k).trans hb1;go_wp2_with fail;refine (Ct B m d ys w1 (hy.below hbw1) hd hmd).mono ?_;rintro e w' ⟨B1,m1,rfl,hcut2,rfl⟩;rw[HB.out]at hcut2;obtain ⟨hm1,hm2,hy1,hB1⟩:=hcut2;have HM:=Lib.hid hm1;have hlen:m1<=n1:=by rw[hm1,how1.len];exact Limb.canon_len_mono hle
 clear hm1;by_cases ha0:a=0
 · have hb0:b=0:=(by omega);subst ha0;subst hb0;obtain rfl:n1=0:=how1.len;obtain rfl:m1=0:=(by omega);go_wp2_with fail;refine (LG _ _ _ _ _).mono ?_;rintro e w' ⟨rfl,rfl⟩;go_wp2_with fail;refine (Ct A1 0 0 [] _ (Av.nil _ _) (by omega) (by omega)).mono ?_;rintro e w' ⟨A2,m2,rfl,hcut3,rfl⟩;obtain rfl:m2=0:=hcut3.1;go_wp2_with fail;go_ret2
   exact ⟨A2,0,rfl,Own.zero _ _ _ _ (by omega),hbw1⟩
 · have T:=Ac (Tk a b n1 how1.len);have hown:=how1.trimRow.2;obtain ⟨g,zs,rfl,hg,hr1,hzok,hzl,hwin⟩:=hown ha0;have HW:=Lib.hid hwin;have H0:=Lib.hid ha0;clear hwin ha0;have hap:0<m1->Apart B1 g:=by
    intro h;rcases hB1 with rfl|rfl
    · have:=hy.apart (g:=g) (by omega) (by simpa using hg);exact this
    · intro ad e;cases e
   have hn1:n1<=1099511627776:=by have e1:=how1.len;have e2:Limb.val xs<4294967296^n:=(by have:=Limb.val_lt xs hx.ok;rwa [hx.len]at this);rw[HA.out]at e2;have e3:=Limb.canon_len_le a n e2;omega
   go_wp2_with fail;have hle2:Limb.val (Limb.canon b)<=Limb.val (win zs 0 n1):=(by rw[HW.out,Limb.val_canon,Limb.val_canon];exact hle);have hfit:0+n1<=zs.length:=(by omega);have h62:n1<=4611686018427387904:=(by omega);refine (Fs g 0 n1 _ zs B1 m1 m1 (Limb.canon b) _ hr1 hzok hfit h62 hy1 hlen hap hle2).mono ?_;rintro e w3 ⟨rfl,hr3,ho3⟩;rw[HW.out,Limb.val_canon,Limb.val_canon]at hr3;go_wp2_with fail
   refine (BU g n1 _ (a-b) w.heap.size _ _ hr3 (DD hzok _ (Limb.fixed_ok _ _)) (by rw[AM _ _ _ (by rw[Limb.fixed_length];omega)];exact hzl) (by omega) (by omega) (by simpa using hg) (by unfold put;rw[List.take_zero,List.nil_append,List.take_append_of_le_length (by rw[Limb.fixed_length];omega)];exact T.out.2.2)).mono ?_
   rintro e w4 ⟨A',j,rfl,how,rfl⟩;go_wp2_with fail;go_ret2
   exact ⟨A',j,rfl,how,hbw1.trans (ho3.below hbw1.size (by simpa using hg))⟩
end
section
open Go.RowKit
def KE (w:World) (base:Nat) (v:Value) (xs:List Nat):Prop:=w.ownsRow base 122 1 v xs.length (Cy xs)/\Limb.Ok xs
theorem KE.alloc {w:World} {base:Nat} {v:Value} {xs:List Nat} (h:KE w base v xs) (o:Obj):KE (w.alloc o) base v xs:=⟨h.1.alloc o,h.2⟩
theorem KE.form {w:World} {base:Nat} {v:Value} {xs:List Nat} (h:KE w base v xs):∃A c,v=.slice A xs.length c/\Av w A xs.length xs/\xs.length<=c/\c<=9223372036854775807:=by
 obtain ⟨⟨hl,hc⟩,ho⟩:=h;rcases hc with ⟨rfl,h0⟩|⟨g,cap,cur,rfl,hb,hh,h1,h2,h3,h4⟩
 · exact ⟨none,0,by rw[h0],by rw[h0];exact ⟨h0,ho,fun h=>absurd h (by omega)⟩,by omega,by omega⟩
 · unfold maxLen at h2;refine ⟨some ⟨g,0,none⟩,cap,rfl,⟨rfl,ho,fun _=>⟨g,0,rfl,fun i hi=>?_⟩⟩,h1,h2⟩;rw[Nat.zero_add,cell_of_row w g i _ _ _ hh,<-Jm xs i hi,<-h4,List.getElem?_take_of_lt (by omega)];simp
theorem KE.empty (w:World) (base:Nat) (hb:base<=w.heap.size):KE (w.alloc (.cells #[] 122)) base (.slice (some ⟨w.heap.size,0,none⟩) 0 0) []:=
 ⟨⟨rfl,.inr ⟨w.heap.size,0,#[],rfl,hb,heap_alloc_new w _,Nat.le_refl _,by unfold maxLen;omega,rfl,rfl⟩⟩,Limb.Ok.nil⟩
theorem KE.ok {w:World} {base:Nat} {v:Value} {xs:List Nat} (h:KE w base v xs):Limb.Ok xs:=h.2
theorem Jt (w:World) (u:Value) (e:TypeId):(w.alloc (.cells #[u] e)).cell? ⟨w.heap.size,0,none⟩=some u:=by simp
theorem Gd (w:World) (u:Int) (y:Nat) (e:TypeId) (h:u=(y:Int)):(w.alloc (.cells #[.int .u32 u] e)).cell? ⟨w.heap.size,0,none⟩=some (.int .u32 (y:Int)):=by rw[Jt,h]
theorem BP (w:World) {ops:Array Oper} {rest:List Oper} {o:Oper} {a:Act} {Q:Exit->Act->World->Prop} (hgd:o.guard=none) (s x:Operand)
   (ho:o.op=.call { callee:=.builtin .append,args:=#[s,x],argTypes:=#[36,36] })
   (base:Nat) (v:Value) (xs:List Nat) (hs:a.eval s=v) (hown:KE w base v xs) (ad:Addr) (y:Nat) (hx:a.eval x=.slice (some ad) 1 1) (hcell:w.cell? ad=some (.int .u32 (y:Int))) (hy:y<4294967296)
   (hlen:xs.length<=4398046511104) (hbase:base<=w.heap.size)
   (h:∀v' w',KE w' base v' (xs++[y])->Below base w w'->wpList Tryz.prog ops Q rest (a.put o.dst v') w'):wpList Tryz.prog ops Q (o::rest) a w:=by
 obtain ⟨i0,hi0,hz0,hz1,hz2⟩:=info_parts Jo;refine wpList_append_own _ hgd s x 36 ho base 122 i0 _ 1 4 Tryz.underlying36 hi0 hz0 hz1 hz2 rfl (by omega) v xs.length (Cy xs) hs hown.1 ad 1 1 [.int .u32 (y:Int)] hx rfl ?_ ?_ (by unfold maxLen;omega) (by omega) hbase ?_
 · intro j u hj;match j,hj with
   |0,hj=>
     simp at hj;subst hj;simpa[Addr.add] using hcell
 · intro u hu;simp at hu;subst hu;rfl
 · intro v' w' h1 h2 _;refine h v' w' ⟨?_,hown.2.append (Limb.Ok.cons hy Limb.Ok.nil)⟩ ?_
   · rw[FH,List.length_append];exact h1
   · exact (Below.refl _ _).grown h2 hbase (fun k hk=>(hown.1.lt k hk).1)
def Ge (N:Nat) (w:World) (e:Ending) (w':World):Prop:=∃A n c,e=.returned (.slice A n c)/\Av w' A n (Limb.canon N)/\n<=c/\c<=9223372036854775807/\Below w.heap.size w w'
def Tl (n:Int) (w:World) (e:Ending) (w':World):Prop:=e=.returned (.int .i64 n)/\w=w'
def Pf (n:Int) (w:World) (e:Ending) (w':World):Prop:=e=.returned (.int .u64 n)/\w=w'
def mx (n m:Nat):Nat:=if m<n then n else m
theorem Rf (n m:Nat):n<=mx n m/\m<=mx n m/\(mx n m=n\/mx n m=m):=by unfold mx;split<;>omega
theorem Et (A B:Option Addr) (n c m d:Nat) (w:World) (hn:n<=9223372036854775807) (hm:m<=9223372036854775807) :
   Calls Tryz.prog 142 #[.slice A n c,.slice B m d] w (Tl (mx n m:Nat) w):=by
 by_cases h:m<n
 · have hf:mx n m=n:=(by unfold mx;rw[if_pos h]);have HF:=Lib.hid hf;clear hf;go_enter Tryz.func142,Tryz.ntmps142;go_wp2_with fail;go_ret
   exact ⟨by rw[HF.out];rfl,rfl⟩
 · have hf:mx n m=m:=(by unfold mx;rw[if_neg h]);have HF:=Lib.hid hf;clear hf;go_enter Tryz.func142,Tryz.ntmps142;go_wp2_with fail;go_ret
   exact ⟨by rw[HF.out];rfl,rfl⟩
open Limb (limb AQ)
theorem De (A:Option Addr) (n c:Nat) (xs:List Nat) (i:Nat) (w:World) (hx:Av w A n xs) (hm:n<=9223372036854775807) :
   Calls Tryz.prog 143 #[.slice A n c,.int .i64 (i:Int)] w (Pf (limb xs i:Nat) w):=by
 by_cases hi:i<n
 · obtain ⟨b,o,x,rfl,hxl,hxe,hc⟩:=hx.at_ hi;have hf:limb xs i=x:=hxe.symm;have HF:=Lib.hid hf;clear hf hxe;go_enter Tryz.func143,Tryz.ntmps143;go_wp2_with fail;go_ret
   exact ⟨by rw[HF.out];rfl,rfl⟩
 · have hf:limb xs i=0:=Limb.limb_beyond (by rw[hx.len];omega);have HF:=Lib.hid hf;clear hf;go_enter Tryz.func143,Tryz.ntmps143;go_wp2_with fail;go_ret
   exact ⟨by rw[HF.out];rfl,rfl⟩
def Ju (b:Bool) (w:World) (e:Ending) (w':World):Prop:=e=.returned (.bool b)/\∃k,w'=w.drewN k
theorem Rh (A B:Option Addr) (n c d:Nat) (xs:List Nat) (w:World) (hx:Av w A n xs) (hy:Av w B n xs) (hn:n<=9223372036854775807) :
  Calls Tryz.prog 151 #[.slice A n c,.slice B n d] w (Ju true w):=by
 have h0:((n:Int) != (n:Int))=false:=by simp
 go_enter Tryz.func151,Tryz.ntmps151;go_wp2_with fail;go_loopw [5] (fun i wr=>∃k:Nat,k<=n/\i=.int .i64 (k:Int)/\∃q,wr=w.drewN q) (fun i _=>n-(intOf i).toNat)
 case atStart=>exact ⟨0,Nat.zero_le _,rfl,0,rfl⟩
 case round=>
  obtain ⟨k,hk,rfl,q,rfl⟩:=hrel;by_cases hkn:k<n
  · obtain ⟨b1,o1,x,rfl,hxb,hxe,hxc⟩:=hx.at_ hkn;obtain ⟨b2,o2,y,rfl,hyb,hye,hyc⟩:=hy.at_ hkn;obtain rfl:x=y:=hxe.trans hye.symm;clear hxe hye;have h1:((x:Int) != (x:Int))=false:=(by simp);go_wp2_with fail;go_quiet (fail)
    go_wp2_with fail;go_roundw
    case rel=>exact ⟨k+1,by omega,by go_num,_,rfl⟩
    case measure=>simp[intOf]<;>omega
  · go_wp2_with fail;go_ret
    exact ⟨rfl,q,rfl⟩
def NM (a b:Nat) (w:World) (e:Ending) (w':World):Prop:=e=.returned (.int .i64 (Ej a b))/\w=w'
theorem Ri {a b:Nat} (h:a<b):Ej a b=-1:=by unfold Ej BC;rw[if_pos (by omega)]
theorem Rj {a b:Nat} (h:b<a):Ej a b=1:=by unfold Ej BC;rw[if_neg (by omega),if_pos (by omega)]
theorem Rk (a:Nat):Ej a a=0:=by unfold Ej BC;simp
theorem M6 (A B:Option Addr) (n c m d:Nat) (xs ys:List Nat) (w:World) (hx:Av w A n xs) (hy:Av w B m ys) (hn:n<=9223372036854775807) (hm:m<=9223372036854775807) :
  Calls Tryz.prog 188 #[.slice A n c,.slice B m d] w (NM (Limb.val xs) (Limb.val ys) w):=by
 have hmx:=Rf n m;obtain ⟨hm1,hm2,hm3⟩:=hmx;have HM:=Lib.hid hm3;have hle:mx n m<=9223372036854775807:=by omega
 clear hm3;go_enter Tryz.func188,Tryz.ntmps188;go_wp2_with fail;refine (Et A B n c m d w hn hm).mono ?_;rintro e w' ⟨rfl,rfl⟩;go_wp2_with fail;go_loop [5] (fun i=>∃k:Nat,k<=mx n m/\i=.int .i64 ((k:Int)-1)/\Hid (∀j,k<=j->limb xs j=limb ys j)) (fun i=>((intOf i)+1).toNat)
 case atStart=>exact ⟨mx n m,Nat.le_refl _,rfl,fun j hj=>by rw[Limb.limb_beyond (by rw[hx.len];omega),Limb.limb_beyond (by rw[hy.len];omega)]⟩
 case round=>
  obtain ⟨k,hk,rfl,HD⟩:=hrel;rcases Nat.eq_zero_or_pos k with hk0|hk0
  · subst hk0;go_wp2_with fail;go_ret
    refine ⟨?_,rfl⟩;rw[Limb.val_eq_of_limbs xs ys (fun j=>HD.out j (Nat.zero_le _)),Rk];rfl
  · obtain ⟨j,rfl⟩:∃j,k=j+1:=⟨k-1,by omega⟩;have e1:(((j+1:Nat):Int)-1)=(j:Int):=(by omega);rw[e1];clear e1;rcases Nat.lt_trichotomy (limb xs j) (limb ys j) with h|h|h
    · have HF:=Ac (Ri (Limb.val_lt_of_limbs xs ys hx.ok j (fun i hi=>HD.out i hi) h));go_wp2_with fail;refine (De A n c xs j _ hx hn).mono ?_;rintro e w' ⟨rfl,rfl⟩;go_wp2_with fail;refine (De B m d ys j _ hy hm).mono ?_;rintro e w' ⟨rfl,rfl⟩;go_wp2_with fail;go_ret
      exact ⟨by rw[HF.out];rfl,rfl⟩
    · have HX:=Lib.hid h;have h1:¬((limb xs j:Int)<(limb ys j:Int)):=(by omega);have h2:¬((limb ys j:Int)<(limb xs j:Int)):=(by omega);clear h;go_wp2_with fail;refine (De A n c xs j _ hx hn).mono ?_;rintro e w' ⟨rfl,rfl⟩;go_wp2_with fail;refine (De B m d ys j _ hy hm).mono ?_;rintro e w' ⟨rfl,rfl⟩;go_wp2_with fail;refine (De A n c xs j _ hx hn).mono ?_;rintro e w' ⟨rfl,rfl⟩;go_wp2_with fail;refine (De B m d ys j _ hy hm).mono ?_;rintro e w' ⟨rfl,rfl⟩;go_wp2_with fail
      go_round
      case rel=>
       refine ⟨j,by omega,by go_num,fun i hi=>?_⟩;rcases Nat.eq_or_lt_of_le hi with h|h
       · subst h;exact HX.out
       · exact HD.out i h
      case measure=>simp[intOf]<;>omega
    · have HF:=Ac (Rj (Limb.val_lt_of_limbs ys xs hy.ok j (fun i hi=>(HD.out i hi).symm) h));have h1:¬((limb xs j:Int)<(limb ys j:Int)):=(by omega);go_wp2_with fail;refine (De A n c xs j _ hx hn).mono ?_;rintro e w' ⟨rfl,rfl⟩;go_wp2_with fail;refine (De B m d ys j _ hy hm).mono ?_;rintro e w' ⟨rfl,rfl⟩;go_wp2_with fail;refine (De A n c xs j _ hx hn).mono ?_;rintro e w' ⟨rfl,rfl⟩;go_wp2_with fail;refine (De B m d ys j _ hy hm).mono ?_;rintro e w' ⟨rfl,rfl⟩
      go_wp2_with fail;go_ret
      exact ⟨by rw[HF.out];rfl,rfl⟩
theorem IG (xs:List Nat) (k:Nat) (hk:k+1<=xs.length) (h:limb xs k=0):Limb.val (xs.take (k+1))=Limb.val (xs.take k):=by have:=Limb.upto_succ xs k;unfold Limb.upto at this;rw[this,h];omega
theorem Cf (A:Option Addr) (n c:Nat) (xs:List Nat) (w:World) (hx:Av w A n xs) (hn:n<=1099511627776) :
  Calls Tryz.prog 131 #[.slice A n c] w (Ge (Limb.val xs) w):=by
 go_enter Tryz.func131,Tryz.ntmps131;go_wp2_with fail;go_loopw [3,4] (fun v i wr=>∃k:Nat,k<=n/\i=.int .i64 (k:Int)/\KE wr w.heap.size v (xs.take k)/\Below w.heap.size w wr) (fun _ i _=>n-(intOf i).toNat)
 case atStart=>exact ⟨0,Nat.zero_le _,rfl,KE.empty w _ (Nat.le_refl _),(Below.refl _ _).alloc (Nat.le_refl _) _⟩
 case round=>
  obtain ⟨k,hk,rfl,hL,hB⟩:=hrel;by_cases hkn:k<n
  · obtain ⟨b,o,x,hA,hxl,hxe,hc⟩:=(hx.below hB).at_ hkn;subst hA;have HX:=Lib.hid hxe;clear hxe;have hlen:(xs.take k).length<=4398046511104:=(by rw[List.length_take];omega);go_wp2_with (at_builtin;refine BP _ rfl _ _ rfl w.heap.size _ _ rfl (hL.alloc _) _ x rfl (Jt _ _ _) hxl hlen (by have:=hB.size;simp;omega) ?_;intro v' w1 hL1 hB1);go_roundw
    case rel=> refine ⟨k+1,by omega,by go_num,?_,(hB.alloc hB.size _).trans hB1⟩;rw[Limb.take_succ_getD xs k (by rw[hx.len];omega),<-HX.out];exact hL1
    case measure=>simp[intOf]<;>omega
  · rw[List.take_of_length_le (by rw[hx.len];omega)]at hL;obtain ⟨A1,c1,rfl,hN,hc1,hc2⟩:=hL.form;have hlx:=hx.len;have HL:=Lib.hid hlx;rw[hlx];rw[hlx]at hN hc1;have hok:=hx.ok;clear hL hx hlx;go_wp2_with fail;go_loopw [3] (fun v wr=>∃j c2:Nat,j<=n/\j<=c2/\c2<=9223372036854775807/\v=.slice A1 j c2/\Av wr A1 j (xs.take j)/\Below w.heap.size w wr/\Hid (Limb.val (xs.take j)=Limb.val xs)) (fun v _=>match v with|.slice _ j _=>j|_=>0)
    case atStart=>exact ⟨n,c1,Nat.le_refl _,hc1,hc2,rfl,by rw[List.take_of_length_le (by rw[HL.out];exact Nat.le_refl _)];exact hN,hB,by show _=_;rw[List.take_of_length_le (by rw[HL.out];exact Nat.le_refl _)]⟩
    case round=>
     clear hB hN hc1 hc2;obtain ⟨j,c2,hj,hc1,hc2,rfl,hN,hB,HV⟩:=hrel;rcases Nat.eq_zero_or_pos j with hj0|hj0
     · subst hj0;go_wp2_with fail;go_ret
       refine ⟨A1,0,c2,rfl,?_,by omega,hc2,hB⟩;have h0:Limb.val xs=0:=(by rw[<-HV.out];simp[Limb.val]);rw[h0];exact Av.nil _ _
     · obtain ⟨b,o,x,rfl,hxl,hxe,hc⟩:=hN.at_ (i:=j-1) (by omega);have HX:=Lib.hid hxe;clear hxe;by_cases hx0:x=0
       · have h1:((x:Int)==0)=true:=(by simp[hx0]);have HX0:=Lib.hid hx0;clear hx0;go_wp2_with fail;go_roundw
         case rel=>
          have hg:limb xs (j-1)=0:=by rw[<-HX0.out,HX.out];unfold limb;rw[List.getD_eq_getElem?_getD,List.getD_eq_getElem?_getD,List.getElem?_take_of_lt (by omega)]
          have hcz:=IG xs (j-1) (by rw[HL.out];omega) hg;have e1:j-1+1=j:=(by omega);rw[e1]at hcz;have hN2:=hN.take (k:=j-1) (by omega);rw[List.take_take,Nat.min_eq_left (by omega)]at hN2;exact ⟨j-1,c2,by omega,by omega,hc2,rfl,hN2,hB,by show _=_;rw[<-hcz];exact HV.out⟩
         case measure=>show j-1<j;omega
       · have h1:((x:Int)==0)=false:=(by simp;omega);have HX0:=Lib.hid hx0;clear hx0;go_wp2_with fail;go_ret
         refine ⟨_,j,c2,rfl,?_,hc1,hc2,hB⟩;have hl:(xs.take j).length=j:=(by rw[List.length_take,HL.out];omega);have hcn:=Limb.canon_take (xs.take j) (hok.take j) j (by omega) (fun i h1 h2=>by omega) (fun _=>by rw[<-HX.out];exact HX0.out);rw[HV.out,List.take_take,Nat.min_self]at hcn;rw[hcn];exact hN
end
end Go.Proofs.YtmedjkhmadfjlaaGreat
