/- Texts of one seat, put together: Mem Add Ref RefA Mul Word Guess DivA Take Shift. -/
import Derived.Test.YtgohmojcopajoaaGreatDoorP08
import Derived.BigRegion
import Derived.StillTailTactics
set_option linter.unusedVariables false
set_option linter.unusedSimpArgs false
set_option maxRecDepth 100000
set_option maxHeartbeats 16000000
namespace Go.Proofs.YtgohmojcopajoaaGreatDoor.Nu
section
open Go.RowKit
theorem BL (w:World) {ops:Array Oper} {rest:List Oper} {o:Oper} {a:Act} {Q:Exit->Act->World->Prop} (hg:o.guard=none) (l c:Operand) (hop:o.op=Op.makeSlice 52 l c)
  (L:Int) (n:Nat) (hl:a.eval l=.int .i64 L) (hc:a.eval c=.int .i64 L) (hL:L=(n:Int)) (hn:n<=35184372088832)
  (hK:∀w',Row w' w.heap.size (List.replicate n 0)->Below w.heap.size w w'->w.heap.size<w'.heap.size->wpList Tryz.prog ops Q rest (a.put o.dst (.slice (some ⟨w.heap.size,0,none⟩) n n)) w') :
  wpList Tryz.prog ops Q (o::rest) a w:=by
 obtain ⟨i0,hi0,hz0,hz1,hz2⟩:=info_parts LP;refine wpList_make_full _ hg l c _ hop w.heap.size 173 i0 _ 1 Tryz.underlying52 hi0 hz0 hz1 .i64 .i64 L L n hl hc hL hL (by rw[hz2];omega) (by unfold maxLen;omega) (Nat.le_refl _) ?_;intro w' ho hgr;have hr:=(Row.made (base:=w.heap.size) ho).1;exact hK w' hr ((Below.refl _ _).grown hgr (Nat.le_refl _) (fun k hk=>by cases hk)) hr.lt
theorem DT (w:World) (g:Nat) (cs:Array Value):An g w (w.setRow g cs):=
 ⟨rfl,rfl,rfl,by simp[World.setRow],fun k _ hne=>setRow_other w g k cs (fun hh=>hne (by rw[hh]))⟩
theorem BX {w:World} {ops:Array Oper} {rest:List Oper} {o:Oper} {a:Act} {Q:Exit->Act->World->Prop} (hgd:o.guard=none) (d s:Operand)
   (ho:o.op=.call { callee:=.builtin .copy,args:=#[d,s],argTypes:=#[52,52] })
   (g off:Nat) (D A:Option Addr) (dLen dCap m c:Nat) (hd:a.eval d=.slice D dLen dCap) (hD:0<m->D=some ⟨g,off,none⟩) (hs:a.eval s=.slice A m c)
   (zs xs:List Nat) (hr:Row w g zs) (hx:Nums w A m xs) (hm:m<=dLen) (hfit:off+m<=zs.length)
   (h:∀w',Row w' g (put zs off xs)->An g w w'->wpList Tryz.prog ops Q rest (a.put o.dst (goInt m)) w'):wpList Tryz.prog ops Q (o::rest) a w:=by
 have hl:=hx.len;by_cases h0:m=0
 · subst h0;have hnil:xs=[]:=List.eq_nil_of_length_eq_zero hl;subst hnil;refine wpList_copy_nothing hgd d s _ _ ho 173 Tryz.underlying52 LQ D A dLen dCap 0 c hd hs (by simp) ?_;exact h w (by simpa[put] using hr) (An.refl g w)
 · obtain ⟨b,q,rfl,hcell⟩:=hx.2.2 (by omega);have hmin:Nat.min m dLen=m:=Nat.min_eq_left hm;have hul:(CP xs).length=m:=(by rw[I6,hl]);obtain rfl:=hD (by omega);refine wpList_copy_own hgd d s _ _ ho 173 Tryz.underlying52 LQ g off dLen dCap ⟨b,q,none⟩ m c hd hs (CP zs).toArray 173 hr (CP xs) (by rw[hul,hmin]) ?_ (by rw[hul];simp[I6];omega) (QP xs) ?_
   · intro j v hj;have hjm:j<m:=by
       rcases Nat.lt_or_ge j m with h1|h1
       · exact h1
       · rw[List.getElem?_eq_none (by omega)]at hj;cases hj
     rw[LO xs j (by omega)]at hj;injection hj with hj
     rw[<-hj,<-hcell j hjm];by_cases hj0:j=0
     · subst hj0;rfl
     · simp[Addr.add,hj0]
   · rw[hul];refine h _ ?_ (DT w g _);unfold Row at hr ⊢;have e:(List.take off (CP zs)++(CP xs++List.drop (off+m) (CP zs)))=CP (put zs off xs):=by
       unfold put;rw[I7,I7,Pw,Px,hl]
     have hh:=setRow_heap w g _ (List.take off (CP zs)++(CP xs++List.drop (off+m) (CP zs))).toArray _ _ hr;rw[e]at hh;exact (by simpa[e] using hh)
end
section
open Go.RowKit
def Rn (N:Nat) (w:World) (e:Ending) (w':World):Prop:=∃A n,e=.returned (.slice A n n)/\Own w' w.heap.size A n n N/\Below w.heap.size w w'
theorem Mp (A:Option Addr) (n c:Nat) (xs:List Nat) (w:World) (hx:Nums w A n xs) (hc:n<=c) (hm:c<=9223372036854775807) (hb:n<=1099511627776) :
   Calls Tryz.prog 156 #[.slice A n c] w (Rn (Limb.val xs) w):=by
 obtain ⟨i0,hi0,hz0,hz1,hz2⟩:=info_parts LP;generalize ha:Limb.val xs=a;have HA:=Lib.hid ha;clear ha;go_enter Tryz.func156,Tryz.ntmps156;go_wp2_with fail;refine (Ck A n c xs w hx hc hm).mono ?_;rintro e w' ⟨A1,n1,rfl,hcut1,rfl⟩;rw[HA.out]at hcut1;obtain ⟨hn1,hn2,hx1,_⟩:=hcut1;have HN:=Lib.hid hn1;clear hn1 hx HA;by_cases h0:n1=0
 · subst h0;go_wp2_with fail;go_ret
   refine ⟨none,0,rfl,?_,Below.refl _ _⟩;have:a=0:=(Limb.canon_len_zero a).1 HN.out.symm;rw[this];exact Own.zero _ _ _ _ (by omega)
 · have h1:((n1:Int)==0)=false:=(by simp;omega);have hpos:1<=n1:=(by omega);clear h0;go_wp2_with (first
    |(at_make;refine BL _ rfl _ _ rfl _ n1 rfl rfl rfl (by omega) ?_;intro w1 hr1 hb1 hs1)
    |(with_reducible refine BX rfl _ _ rfl w.heap.size 0 _ _ _ _ n1 n1 rfl (fun _=>rfl) rfl _ (Limb.canon a) hr1 (hx1.below hb1) (Nat.le_refl _) (by simp) ?_;intro w2 hr2 ho2))
   go_ret
   have hle:=Limb.canon_len_le;have hput:put (List.replicate n1 0) 0 (Limb.canon a)=Limb.canon a:=by unfold put;rw[<-HN.out];simp
   rw[hput]at hr2;exact ⟨_,n1,rfl,Own.row hr2 (Limb.ok_canon a) (Nat.le_refl _) (Nat.le_refl _) (by rw[<-HN.out];exact Nat.le_refl _) (by omega) (by rw[HN.out];simp),hb1.trans (ho2.below (by omega) (Nat.le_refl _))⟩
theorem Ro {xs ys:List Nat} (hl:xs.length=ys.length) (h:∀i,i<xs.length->xs.getD i 0=ys.getD i 0):xs=ys:=by apply List.ext_getElem hl;intro i h1 h2;have:=h i h1;rwa [List.getD_eq_getElem?_getD,List.getD_eq_getElem?_getD,List.getElem?_eq_getElem h1,List.getElem?_eq_getElem h2]at this
theorem _root_.Go.Proofs.YtgohmojcopajoaaGreatDoor.Row.take_eq {w:World} {g m:Nat} {zs xs:List Nat} (hr:Row w g zs) (hx:Nums w (some ⟨g,0,none⟩) m xs) (hm:m<=zs.length):zs.take m=xs:=by
 have hl:=hx.len;apply Ro (by rw[List.length_take];omega);intro i hi;rw[List.length_take]at hi;obtain ⟨b,o,x,hbo,_,hx2,hc⟩:=hx.at_ (i:=i) (by omega);injection hbo with hbo
 injection hbo with h1 h2
 subst h1;subst h2;rw[Nat.zero_add,hr.cell (i:=i) (by omega)]at hc;injection hc with hc
 injection hc with _ hc
 rw[<-hx2,List.getD_eq_getElem?_getD,List.getElem?_take_of_lt (by omega),<-List.getD_eq_getElem?_getD];omega
theorem _root_.Go.Proofs.YtgohmojcopajoaaGreatDoor.Own.ofCut {w:World} {g n m N base:Nat} {A':Option Addr} {zs:List Nat} (hr:Row w g zs) (ho:Limb.Ok zs) (hi:Jl w (some ⟨g,0,none⟩) A' n m N) (hb:base<=g) (hn:n<=zs.length) (h62:n<=4611686018427387904):Own w base A' m m N:=by
 obtain ⟨h1,h2,h3,h4⟩:=hi;refine ⟨h1,Nat.le_refl _,by omega,fun h0=>?_⟩;have hm:0<m:=by
   rcases Nat.eq_zero_or_pos m with hm|hm
   · exact absurd ((Limb.canon_len_zero N).1 (by rw[<-h1];exact hm)) h0
   · exact hm
 rcases h4 with rfl|rfl
 · exact ⟨g,zs,rfl,hb,hr,ho,by omega,hr.take_eq h3 (by omega)⟩
 · obtain ⟨_,_,e,_⟩:=h3.2.2 hm;cases e
def Mq (base N:Nat) (w:World) (e:Ending) (w':World):Prop:=∃A' m,e=.returned (.slice A' m m)/\Own w base A' m m N/\w=w'
theorem Cl (g n c N base:Nat) (zs:List Nat) (w:World) (hr:Row w g zs) (ho:Limb.Ok zs) (hn:n<=zs.length) (hc:n<=c) (hm:c<=4611686018427387904) (hb:base<=g) (hN:Limb.val (zs.take n)=N) :
  Calls Tryz.prog 152 #[.slice (some ⟨g,0,none⟩) n c] w (Mq base N w):=by
 subst hN;have hx:=hr.nums ho (o:=0) (n:=n) (by omega);rw[List.drop_zero]at hx;refine (Ck _ n c _ w hx hc (by omega)).mono ?_;rintro e w' ⟨A',m,rfl,hi,rfl⟩;exact ⟨A',m,rfl,Own.ofCut hr ho hi hb hn (by omega),rfl⟩
theorem UM {a b:Nat} (h:a<=b):4294967296^a<=4294967296^b:=Nat.pow_le_pow_right (by omega) h
theorem add_lt (a b k:Nat) (ha:a<4294967296^k) (hb:b<4294967296^k):a+b<4294967296^(k+1):=by rw[Nat.pow_succ];omega
theorem _root_.Go.Proofs.YtgohmojcopajoaaGreatDoor.Nums.ofCanon {w:World} {A:Option Addr} {n N:Nat} (h:Nums w A n (Limb.canon N)):n=L N:=h.1.symm
def Tk (a b n1:Nat):Prop:=a+b<4294967296^(n1+1)/\put (List.replicate (n1+1) 0) 0 (Limb.canon a)=Limb.fixed (n1+1) a/\put (Limb.fixed (n1+1) a) 0 (Limb.fixed (n1+1) (a+b))=Limb.fixed (n1+1) (a+b)/\Limb.val (win (Limb.fixed (n1+1) a) 0 (n1+1))=a/\Limb.val ((Limb.fixed (n1+1) (a+b)).take (n1+1))=a+b
theorem Pb (a b n1 m1:Nat) (hn:n1=(Limb.canon a).length) (hm:m1=(Limb.canon b).length) (h:m1<=n1):Tk a b n1:=by
 have ha:=Limb.canon_lt a;have hb:=Limb.canon_lt b;rw[<-hn]at ha;rw[<-hm]at hb;have hp:=UM h;have hs:=add_lt a b n1 ha (by omega);have ha2:a<4294967296^(n1+1):=by omega
 refine ⟨hs,?_,?_,?_,?_⟩
 · rw[Limb.fixed_eq_canon _ a ha2];unfold put;rw[<-hn];simp
 · unfold put;rw[Limb.fixed_length,List.drop_of_length_le (by rw[Limb.fixed_length];omega)];simp
 · unfold win;rw[List.drop_zero,List.take_of_length_le (by rw[Limb.fixed_length];omega),Limb.fixed_val,Nat.mod_eq_of_lt ha2]
 · rw[List.take_of_length_le (by rw[Limb.fixed_length];omega),Limb.fixed_val,Nat.mod_eq_of_lt hs]
def DN (N:Nat) (w:World) (e:Ending) (w':World):Prop:=∃A n,e=.returned (.slice A n n)/\Own w' w.heap.size A n n N/\Below w.heap.size w w'
theorem Li (A B:Option Addr) (n c m d:Nat) (xs ys:List Nat) (w:World) (hx:Nums w A n xs) (hc:n<=c) (hm:c<=9223372036854775807) (hn40:n<=1099511627776) (hy:Nums w B m ys) (hd:m<=d) (hmd:d<=9223372036854775807) (hm40:m<=1099511627776) :
   Calls Tryz.prog 130 #[.slice A n c,.slice B m d] w (DN (Limb.val xs+Limb.val ys) w):=by
 generalize ha:Limb.val xs=a;generalize hb:Limb.val ys=b;have HA:=Lib.hid ha;have HB:=Lib.hid hb;clear ha hb;go_enter Tryz.func130,Tryz.ntmps130;go_wp2_with fail;refine (Ck A n c xs w hx hc hm).mono ?_;rintro e w' ⟨A1,n1,rfl,hcut1,rfl⟩;rw[HA.out]at hcut1;go_wp2_with fail;refine (Ck B m d ys w hy hd hmd).mono ?_;rintro e w' ⟨B1,m1,rfl,hcut2,rfl⟩;rw[HB.out]at hcut2;clear hx hy HA HB;obtain ⟨hn1,hn2,hx1,_⟩:=hcut1;obtain ⟨hm1,hm2,hy1,_⟩:=hcut2;have HN:=Lib.hid hn1
 have HM:=Lib.hid hm1;clear hn1 hm1;by_cases hl:n1<m1
 · have T:=Aa (Pb b a m1 n1 HM.out HN.out (by omega));go_wp2_with (first
    |(at_make;refine BL _ rfl _ _ rfl _ (m1+1) rfl rfl (by omega) (by omega) ?_;intro w1 hr1 hb1 hs1)
    |(with_reducible refine BX rfl _ _ rfl w.heap.size 0 _ _ _ _ m1 m1 rfl (fun _=>rfl) rfl _ (Limb.canon b) hr1 (hy1.below hb1) (by omega) (by simp) ?_;intro w2 hr2 ho2)
    |fail)
   rw[T.out.2.1]at hr2;have hb2:=hb1.trans (ho2.below (Nat.le_of_lt hs1) (Nat.le_refl _));refine (Ec w.heap.size 0 (m1+1) _ (Limb.fixed (m1+1) b) A1 n1 n1 (Limb.canon a) _ hr2 (Limb.fixed_ok _ _) (by rw[Limb.fixed_length];omega) (by omega) (hx1.below hb2) (by omega) (fun h=>hx1.apart h (Nat.le_refl _))).mono ?_;rintro e w3 ⟨rfl,hr3,ho3⟩;rw[T.out.2.2.2.1,Limb.val_canon,T.out.2.2.1]at hr3;have hb3:=hb2.trans (ho3.below hb2.size (Nat.le_refl _));go_wp2_with fail
   refine (Cl w.heap.size (m1+1) _ (b+a) w.heap.size _ _ hr3 (Limb.fixed_ok _ _) (by rw[Limb.fixed_length];omega) (by omega) (by omega) (Nat.le_refl _) T.out.2.2.2.2).mono ?_;rintro e w4 ⟨A',k,rfl,how,rfl⟩;go_wp2_with fail;go_ret
   exact ⟨A',k,rfl,by rw[Nat.add_comm a b];exact how,hb3⟩
 · have T:=Aa (Pb a b n1 m1 HN.out HM.out (by omega));have hl2:m1<=n1:=(by omega);clear hl;go_wp2_with (first
    |(at_make;refine BL _ rfl _ _ rfl _ (n1+1) rfl rfl (by omega) (by omega) ?_;intro w1 hr1 hb1 hs1)
    |(with_reducible refine BX rfl _ _ rfl w.heap.size 0 _ _ _ _ n1 n1 rfl (fun _=>rfl) rfl _ (Limb.canon a) hr1 (hx1.below hb1) (by omega) (by simp) ?_;intro w2 hr2 ho2)
    |fail)
   rw[T.out.2.1]at hr2;have hb2:=hb1.trans (ho2.below (Nat.le_of_lt hs1) (Nat.le_refl _));refine (Ec w.heap.size 0 (n1+1) _ (Limb.fixed (n1+1) a) B1 m1 m1 (Limb.canon b) _ hr2 (Limb.fixed_ok _ _) (by rw[Limb.fixed_length];omega) (by omega) (hy1.below hb2) (by omega) (fun h=>hy1.apart h (Nat.le_refl _))).mono ?_;rintro e w3 ⟨rfl,hr3,ho3⟩;rw[T.out.2.2.2.1,Limb.val_canon,T.out.2.2.1]at hr3;have hb3:=hb2.trans (ho3.below hb2.size (Nat.le_refl _));go_wp2_with fail
   refine (Cl w.heap.size (n1+1) _ (a+b) w.heap.size _ _ hr3 (Limb.fixed_ok _ _) (by rw[Limb.fixed_length];omega) (by omega) (by omega) (Nat.le_refl _) T.out.2.2.2.2).mono ?_;rintro e w4 ⟨A',k,rfl,how,rfl⟩;go_wp2_with fail;go_ret
   exact ⟨A',k,rfl,how,hb3⟩
def PF (w:World) (e:Ending) (w':World):Prop:=e=.returned (.tuple #[.slice none 0 0,.bool false])/\∃k,w'=w.drewN k
def NE (N:Nat) (w:World) (e:Ending) (w':World):Prop:=∃A n,e=.returned (.tuple #[.slice A n n,.bool true])/\Own w' w.heap.size A n n N/\Below w.heap.size w w'
theorem UN (A B:Option Addr) (n c m d:Nat) (xs ys:List Nat) (w:World) (hx:Nums w A n xs) (hc:n<=c) (hm:c<=9223372036854775807) (hy:Nums w B m ys) (hd:m<=d) (hmd:d<=9223372036854775807) (hlt:Limb.val xs<Limb.val ys) :
  Calls Tryz.prog 131 #[.slice A n c,.slice B m d] w (PF w):=by
 have h0:=Tf hlt;go_enter Tryz.func131,Tryz.ntmps131;go_wp2_with fail;refine (OZ A B n c m d xs ys w hx hc hm hy hd hmd).mono ?_;rintro e w' ⟨rfl,k,rfl⟩;clear hlt;go_wp2_with fail;go_ret2
 exact ⟨rfl,k,rfl⟩
def Tl (a b n1:Nat):Prop:=Limb.val (win (Limb.canon a) 0 n1)=a/\put (Limb.canon a) 0 (Limb.fixed n1 (a-b))=Limb.fixed n1 (a-b)/\Limb.val ((Limb.fixed n1 (a-b)).take n1)=a-b
theorem Tn (a b n1:Nat) (hn:n1=(Limb.canon a).length):Tl a b n1:=by
 have ha:=Limb.canon_lt a;rw[<-hn]at ha;refine ⟨?_,?_,?_⟩
 · unfold win;rw[List.drop_zero,List.take_of_length_le (by omega),Limb.val_canon]
 · unfold put;rw[Limb.fixed_length,List.drop_of_length_le (by omega)];simp
 · rw[List.take_of_length_le (by rw[Limb.fixed_length];omega),Limb.fixed_val,Nat.mod_eq_of_lt (by omega)]
def Wu (w':World) (base:Nat) (A:Option Addr) (n N:Nat):Prop:=n=(Limb.canon N).length/\(N≠0->∃g,A=some ⟨g,0,none⟩/\base<=g/\Row w' g (Limb.canon N))
theorem _root_.Go.Proofs.YtgohmojcopajoaaGreatDoor.Own.trimRow {w:World} {base n N:Nat} {A:Option Addr} (h:Own w base A n n N):n=(Limb.canon N).length/\(N≠0->∃g zs,A=some ⟨g,0,none⟩/\base<=g/\Row w g zs/\Limb.Ok zs/\n<=zs.length/\win zs 0 n=Limb.canon N):=by refine ⟨h.1,fun h0=>?_⟩;obtain ⟨g,zs,e,hg,hr,ho,hc,ht⟩:=h.2.2.2 h0;exact ⟨g,zs,e,hg,hr,ho,hc,by unfold win;rw[List.drop_zero];exact ht⟩
theorem Pd (A B:Option Addr) (n c m d:Nat) (xs ys:List Nat) (w:World) (hx:Nums w A n xs) (hc:n<=c) (hm:c<=9223372036854775807) (hn40:n<=1099511627776) (hy:Nums w B m ys) (hd:m<=d) (hmd:d<=9223372036854775807) (hle:Limb.val ys<=Limb.val xs) :
   Calls Tryz.prog 131 #[.slice A n c,.slice B m d] w (NE (Limb.val xs-Limb.val ys) w):=by
 generalize ha:Limb.val xs=a at *;generalize hb:Limb.val ys=b at *;have HA:=Lib.hid ha;have HB:=Lib.hid hb;clear ha hb;have h0:=Ti hle;go_enter Tryz.func131,Tryz.ntmps131;go_wp2_with fail;refine (OZ A B n c m d xs ys w hx hc hm hy hd hmd).mono ?_;rintro e w' ⟨rfl,k,rfl⟩;rw[HA.out,HB.out];go_wp2_with fail;refine (Mp A n c xs _ (hx.drewN k) hc hm hn40).mono ?_;rintro e w1 ⟨A1,n1,rfl,how1,hb1⟩;rw[HA.out]at how1
 have hbw1:Below w.heap.size w w1:=(below_drewN (Below.refl _ _) k).trans hb1;go_wp2_with fail;refine (Ck B m d ys w1 (hy.below hbw1) hd hmd).mono ?_;rintro e w' ⟨B1,m1,rfl,hcut2,rfl⟩;rw[HB.out]at hcut2;obtain ⟨hm1,hm2,hy1,hB1⟩:=hcut2;have HM:=Lib.hid hm1;have hlen:m1<=n1:=by rw[hm1,how1.len];exact Limb.canon_len_mono hle
 clear hm1;by_cases ha0:a=0
 · have hb0:b=0:=(by omega);subst ha0;subst hb0;obtain rfl:n1=0:=how1.len;obtain rfl:m1=0:=(by omega);go_wp2_with fail;refine (Lh _ _ _ _ _).mono ?_;rintro e w' ⟨rfl,rfl⟩;go_wp2_with fail;refine (Ck A1 0 0 [] _ (Nums.nil _ _) (by omega) (by omega)).mono ?_;rintro e w' ⟨A2,m2,rfl,hcut3,rfl⟩;obtain rfl:m2=0:=hcut3.1;go_wp2_with fail;go_ret2
   exact ⟨A2,0,rfl,Own.zero _ _ _ _ (by omega),hbw1⟩
 · have T:=Aa (Tn a b n1 how1.len);have hown:=how1.trimRow.2;obtain ⟨g,zs,rfl,hg,hr1,hzok,hzl,hwin⟩:=hown ha0;have HW:=Lib.hid hwin;have H0:=Lib.hid ha0;clear hwin ha0;have hap:0<m1->Apart B1 g:=by
    intro h;rcases hB1 with rfl|rfl
    · have:=hy.apart (g:=g) (by omega) (by simpa using hg);exact this
    · intro ad e;cases e
   have hn1:n1<=1099511627776:=by have e1:=how1.len;have e2:Limb.val xs<4294967296^n:=(by have:=Limb.val_lt xs hx.ok;rwa [hx.len]at this);rw[HA.out]at e2;have e3:=Limb.canon_len_le a n e2;omega
   go_wp2_with fail;have hle2:Limb.val (Limb.canon b)<=Limb.val (win zs 0 n1):=(by rw[HW.out,Limb.val_canon,Limb.val_canon];exact hle);have hfit:0+n1<=zs.length:=(by omega);have h62:n1<=4611686018427387904:=(by omega);refine (F7 g 0 n1 _ zs B1 m1 m1 (Limb.canon b) _ hr1 hzok hfit h62 hy1 hlen hap hle2).mono ?_;rintro e w3 ⟨rfl,hr3,ho3⟩;rw[HW.out,Limb.val_canon,Limb.val_canon]at hr3;go_wp2_with fail
   refine (Cl g n1 _ (a-b) w.heap.size _ _ hr3 (F6 hzok _ (Limb.fixed_ok _ _)) (by rw[Bw _ _ _ (by rw[Limb.fixed_length];omega)];exact hzl) (by omega) (by omega) (by simpa using hg) (by unfold put;rw[List.take_zero,List.nil_append,List.take_append_of_le_length (by rw[Limb.fixed_length];omega)];exact T.out.2.2)).mono ?_
   rintro e w4 ⟨A',j,rfl,how,rfl⟩;go_wp2_with fail;go_ret2
   exact ⟨A',j,rfl,how,hbw1.trans (ho3.below hbw1.size (by simpa using hg))⟩
end
section
open Go.RowKit
def Yc (w:World) (base:Nat) (v:Value) (xs:List Nat):Prop:=w.ownsRow base 173 1 v xs.length (CP xs)/\Limb.Ok xs
def Wv (N:Nat) (w:World) (e:Ending) (w':World):Prop:=∃A n c,e=.returned (.slice A n c)/\Nums w' A n (Limb.canon N)/\n<=c/\c<=9223372036854775807/\Below w.heap.size w w'
def Ww (n:Int) (w:World) (e:Ending) (w':World):Prop:=e=.returned (.int .i64 n)/\w=w'
def To (n:Int) (w:World) (e:Ending) (w':World):Prop:=e=.returned (.int .u64 n)/\w=w'
def mx (n m:Nat):Nat:=if m<n then n else m
open Limb (limb Bf)
theorem Gd (A:Option Addr) (n c:Nat) (xs:List Nat) (i:Nat) (w:World) (hx:Nums w A n xs) (hm:n<=9223372036854775807) :
   Calls Tryz.prog 149 #[.slice A n c,.int .i64 (i:Int)] w (To (limb xs i:Nat) w):=by
 by_cases hi:i<n
 · obtain ⟨b,o,x,rfl,hxl,hxe,hc⟩:=hx.at_ hi;have hf:limb xs i=x:=hxe.symm;have HF:=Lib.hid hf;clear hf hxe;go_enter Tryz.func149,Tryz.ntmps149;go_wp2_with fail;go_ret
   exact ⟨by rw[HF.out];rfl,rfl⟩
 · have hf:limb xs i=0:=Limb.limb_beyond (by rw[hx.len];omega);have HF:=Lib.hid hf;clear hf;go_enter Tryz.func149,Tryz.ntmps149;go_wp2_with fail;go_ret
   exact ⟨by rw[HF.out];rfl,rfl⟩
def Rp (b:Bool) (w:World) (e:Ending) (w':World):Prop:=e=.returned (.bool b)/\∃k,w'=w.drewN k
def UO (a b:Nat) (w:World) (e:Ending) (w':World):Prop:=e=.returned (.int .i64 (IK a b))/\w=w'
end
section
open Go.RowKit
open Limb (limb Bf upto Az AF AA)
def Xi (xs ys os:List Nat) (k z:Nat):Prop:=os.length=k/\Limb.val os+4294967296^k*z=upto xs k+upto ys k
def Xj (xs ys os:List Nat) (k z:Nat):Prop:=os.length=k/\Limb.val os+upto ys k=upto xs k+4294967296^k*z
def Tq (w:World) (e:Ending) (w':World):Prop:=e=.returned (.tuple #[.slice none 0 0,.bool false])/\w=w'
def SN (N:Nat) (w:World) (e:Ending) (w':World):Prop:=∃A n c,e=.returned (.tuple #[.slice A n c,.bool true])/\Nums w' A n (Limb.canon N)/\n<=c/\c<=9223372036854775807/\Below w.heap.size w w'
def Xk (xs os:List Nat) (m k z:Nat):Prop:=os.length=k/\Limb.val os+4294967296^k*z=upto xs k*m
theorem Lj (x m:Nat) (hx:x<4294967296) (hm:m<4294967296):x*m<=18446744065119617025:=by have:=Nat.mul_le_mul (show x<=4294967295 by omega) (show m<=4294967295 by omega);omega
theorem Mr (x m:Nat) (hx:x<4294967296) (hm:m<4294967296):(x:Int)*(m:Int)<=18446744065119617025/\0<=(x:Int)*(m:Int)/\(x:Int)*(m:Int)=((x*m:Nat):Int):=by have h:=Lj x m hx hm;rw[<-Int.natCast_mul];omega
end
section
open Go.RowKit
open Limb (limb Bf upto Az AF AA)
theorem Lk (zs:List Nat) (o:Nat) (ws:List Nat) (h:o+ws.length<=zs.length) :
  Limb.val (put zs o ws)+4294967296^o*Limb.val (win zs o ws.length)=Limb.val zs+4294967296^o*Limb.val ws:=by
 have hl:(zs.take o).length=o:=by rw[List.length_take];omega
 have e1:Limb.val (put zs o ws)=Limb.val (zs.take o)+4294967296^o*(Limb.val ws+4294967296^ws.length*Limb.val (zs.drop (o+ws.length))):=by unfold put;rw[Limb.val_append,hl,Limb.val_append]
 have e2:Limb.val zs=Limb.val (zs.take o)+4294967296^o*(Limb.val (win zs o ws.length)+4294967296^ws.length*Limb.val (zs.drop (o+ws.length))):=by rw[Limb.val_take_drop zs o (by omega),Limb.val_take_drop (zs.drop o) ws.length (by rw[List.length_drop];omega),List.drop_drop];rfl
 rw[e1,e2,Nat.mul_add,Nat.mul_add];omega
theorem Js (A:Option Addr) (n c k:Nat) (xs:List Nat) (w:World) (hx:Nums w A n xs) (hk:k<=n) (hc:n<=c) (hm:c<=9223372036854775807) :
  Calls Tryz.prog 207 #[.slice A n c,.int .i64 (k:Int)] w (EN A (Limb.val (xs.take k)) w):=by
 go_enter Tryz.func207,Tryz.ntmps207;go_wp2_with fail;refine (DR A k k (xs.take k) w (hx.take hk) (Nat.le_refl _) (by omega)).mono ?_;rintro e w' ⟨rfl,rfl⟩;go_wp2_with fail;go_ret
 exact ⟨rfl,rfl⟩
def Hm (g o m f:Nat) (zs xs:List Nat) (w:World) (k c:Nat) (wr:World):Prop:=
 ∃cur:List Nat,cur.length=m/\Limb.Ok cur/\Row wr g (put zs o cur)/\An g w wr/\Limb.val cur+4294967296^k*c=Limb.val (win zs o m)+upto xs k*f
theorem Hm.start (g o m f:Nat) (zs xs:List Nat) (w:World) (hz:Limb.Ok zs) (hr:Row w g zs) (hn:o+m<=zs.length):Hm g o m f zs xs w 0 0 w:=
 ⟨win zs o m,win_length zs o m hn,ND hz o m,by unfold win;rw[Jr zs o m hn];exact hr,An.refl g w,by simp[AA]⟩
theorem Hm.only {g o m f:Nat} {zs xs:List Nat} {w:World} {k c:Nat} {wr:World} (h:Hm g o m f zs xs w k c wr):An g w wr:=by obtain ⟨_,_,_,_,hon,_⟩:=h;exact hon
theorem Hm.at_ {g o m f:Nat} {zs xs:List Nat} {w:World} {k c:Nat} {wr:World} (h:Hm g o m f zs xs w k c wr) (hn:o+m<=zs.length) (hk:k<m) :
   ∃z:Nat,z<4294967296/\wr.cell? ⟨g,o+k,none⟩=some (.int .u32 (z:Int))/\wr.frozen? ⟨g,o+k,none⟩=false /\
     ∀s c':Nat,s<4294967296->s+4294967296*c'=z+limb xs k*f+c->Hm g o m f zs xs w (k+1) c' (wr.setCell ⟨g,o+k,none⟩ (.int .u32 (s:Int))):=by
 obtain ⟨cur,hl,ho,hr,hon,hv⟩:=h;have hfit:o+cur.length<=zs.length:=by omega
 refine ⟨cur.getD k 0,ho.getD k,?_,hr.frozen _,fun s c' hs he=>?_⟩
 · rw[hr.cell (i:=o+k) (by rw[Bw _ _ _ hfit];omega),Jq zs o cur hfit k (by omega)]
 · refine ⟨cur.set k s,by simp[hl],ho.set k s hs,?_,hon.setCell _ _,?_⟩
   · rw[<-Lg zs o cur hfit k s (by omega)];exact hr.set_ _ _
   · rw[Limb.step_set cur k s (limb xs k*f) c c' (by omega) _ hv he,Az,Nat.add_mul,Nat.mul_assoc,Nat.add_assoc]
def UP (g o m f:Nat) (zs xs:List Nat) (w:World) (e:Ending) (w':World):Prop:=
 ∃(cur:List Nat) (cy:Nat),e=.returned (.int .u32 (cy:Int))/\cy<4294967296/\cur.length=m/\Limb.Ok cur/\Row w' g (put zs o cur)/\An g w w'/\Hid (Limb.val cur+4294967296^m*cy=Limb.val (win zs o m)+Limb.val xs*f)
theorem Jt (g o m c f:Nat) (zs:List Nat) (A:Option Addr) (d:Nat) (xs:List Nat) (w:World) (hr:Row w g zs) (hz:Limb.Ok zs) (hn:o+m<=zs.length) (hc:m<=4611686018427387904) (hcc:m<=c)
  (hx:Nums w A m xs) (hap:0<m->Apart A g) (hf:f<4294967296) :
  Calls Tryz.prog 206 #[.slice (some ⟨g,o,none⟩) m c,.slice A m d,.int .u32 (f:Int)] w (UP g o m f zs xs w):=by
 have R:=Aa (Hm.start g o m f zs xs w hz hr hn);clear hr hz;go_enter Tryz.func206,Tryz.ntmps206;go_wp2_with fail;go_loopw [7,12] (fun c i wr=>∃k z:Nat,k<=m/\z<4294967296/\i=.int .i64 (k:Int)/\c=.int .u64 (z:Int)/\Hid (Hm g o m f zs xs w k z wr)) (fun _ i _=>m-(intOf i).toNat)
 case atStart=>exact ⟨0,0,Nat.zero_le _,by omega,rfl,rfl,R.out⟩
 case round=>
  clear R;obtain ⟨k,z,hk,hz1,rfl,rfl,R⟩:=hrel;by_cases hkm:k<m
  · have hxr:=hx.grown R.out.only (hap (by omega));obtain ⟨b1,o1,y,rfl,hyb,hye,hyc⟩:=hxr.at_ hkm;obtain ⟨zz,hzz,hcell,hfroz,hstep⟩:=R.out.at_ hn hkm;have hpn:=Lj _ _ hyb hf;obtain ⟨hp1,hp2,hp3⟩:=Mr _ _ hyb hf;have HP:=Lib.hid hp3;have HY:=Lib.hid hye;have HS:=Aa hstep;clear hye hstep hp3 hxr;go_wp2_with fail;have es:((z:Int)+((y:Int)*(f:Int)+(zz:Int)))%4294967296=(((z+(y*f+zz))%4294967296:Nat):Int):=(by have:=HP.out;omega)
    have ec:((z:Int)+((y:Int)*(f:Int)+(zz:Int)))/4294967296=(((z+(y*f+zz))/4294967296:Nat):Int):=(by have:=HP.out;omega);rw[es,ec];clear es ec;go_roundw
    case rel=>exact ⟨k+1,_,by omega,by omega,by go_num,rfl,HS.out _ _ (by omega) (by have e:=HY.out;unfold limb;rw[<-e];omega)⟩
    case measure=>simp[intOf];omega
  · obtain rfl:k=m:=(by omega);clear hkm;go_wp2_with fail;go_ret
    obtain ⟨cur,hl,ho,hr,hon,hv⟩:=R.out;exact ⟨cur,z,rfl,hz1,hl,ho,hr,hon,by show _=_;rw[hv,AF xs k (by rw[hx.len];omega)]⟩
theorem Ev (a b n m:Nat) (ha:a<4294967296^n) (hb:b<4294967296^m):a*b<4294967296^(n+m):=by rw[Nat.pow_add];exact Nat.mul_lt_mul'' ha hb
theorem upto_lt (ys:List Nat) (h:Limb.Ok ys) (k:Nat):upto ys k<4294967296^k:=by unfold upto;have h1:=Limb.val_lt (ys.take k) (h.take k);exact Nat.lt_of_lt_of_le h1 (Limb.pow_mono (by rw[List.length_take];omega))
theorem UQ (V P Q W C2 c cy ay T new old:Nat) (h1:new+Q*old=P+Q*cy) (h0:old=0) (h2:P+c*W=V+c*C2) (h3:C2+T*cy=W+ay) (h4:Q=c*T):new=V+c*ay:=by
 subst h0;subst h4;have e:c*(C2+T*cy)=c*(W+ay):=by rw[h3]
 rw[Nat.mul_add,Nat.mul_add,<-Nat.mul_assoc]at e;rw[Nat.mul_zero]at h1;omega
def Ux (g n m:Nat) (xs ys:List Nat) (w:World) (k:Nat) (wr:World):Prop:=
 ∃cur:List Nat,cur.length=n+m/\Limb.Ok cur/\Row wr g cur/\Below w.heap.size w wr/\Limb.val cur=Limb.val xs*upto ys k
theorem Ts (cur cur2 xs ys:List Nat) (n m k cy:Nat) (hl:cur.length=n+m) (hx:Limb.val xs<4294967296^n) (hy:Limb.Ok ys) (hk:k<m) (hv:Limb.val cur=Limb.val xs*upto ys k) (hl2:cur2.length=n)
  (h:Limb.val cur2+4294967296^n*cy=Limb.val (win cur k n)+Limb.val xs*limb ys k):Limb.val ((put cur k cur2).set (k+n) cy)=Limb.val xs*upto ys (k+1):=by
 have hfit:k+cur2.length<=cur.length:=by omega
 have e1:=Lk cur k cur2 hfit;rw[hl2]at e1;have hlt:Limb.val cur<4294967296^(k+n):=by rw[hv,Nat.add_comm k n];exact Ev _ _ _ _ hx (upto_lt ys hy k)
 have e2:=Limb.val_set (put cur k cur2) (k+n) cy (by rw[Bw _ _ _ hfit];omega);have e3:(put cur k cur2).getD (k+n) 0=0:=by
  have h0:=Limb.limb_zero_of_lt cur (k+n) hlt;unfold limb at h0;unfold put;have hl3:(cur.take k).length=k:=by rw[List.length_take];omega
  rw[List.getD_eq_getElem?_getD,List.getElem?_append_right (by omega),hl3,List.getElem?_append_right (by omega),List.getElem?_drop,<-List.getD_eq_getElem?_getD,<-h0];congr 1
  omega
 have:=UQ _ _ _ _ _ _ _ _ _ _ _ e2 e3 e1 h (Nat.pow_add 4294967296 k n);rw[this,hv,Az,Nat.mul_add,Nat.mul_left_comm]
theorem _root_.Go.Proofs.YtgohmojcopajoaaGreatDoor.Nums.lt {w:World} {A:Option Addr} {n:Nat} {xs:List Nat} (h:Nums w A n xs):Limb.val xs<4294967296^n:=by have:=Limb.val_lt xs h.ok;rwa [h.len]at this
theorem Ew (A B:Option Addr) (n c m d:Nat) (xs ys:List Nat) (w:World) (hx:Nums w A n xs) (hcn:n<=c) (hc9:c<=9223372036854775807) (hn40:n<=1099511627776) (hy:Nums w B m ys) (hdm:m<=d) (hd9:d<=9223372036854775807) (hmn:m<=n) :
  Calls Tryz.prog 192 #[.slice A n c,.slice B m d] w (DN (Limb.val xs*Limb.val ys) w):=by
 go_enter Tryz.func192,Tryz.ntmps192;go_wp2_with (at_make;refine BL _ rfl _ _ rfl _ (n+m) rfl rfl (by omega) (by omega) ?_;intro w1 hr1 hb1 hs1);have R:Hid (Ux w.heap.size n m xs ys w 0 w1):=⟨List.replicate (n+m) 0,by simp,Limb.Ok.replicate _,hr1,hb1,by rw[Limb.val_replicate,AA,Nat.mul_zero]⟩;clear hr1;go_loopw [16] (fun i wr=>∃k:Nat,k<=m/\i=.int .i64 (k:Int)/\w.heap.size<wr.heap.size/\Hid (Ux w.heap.size n m xs ys w k wr)) (fun i _=>m-(intOf i).toNat)
 case atStart=>exact ⟨0,Nat.zero_le _,rfl,hs1,R.out⟩
 case round=>
  clear R hb1 hs1;obtain ⟨k,hk,rfl,hsz,R⟩:=hrel;obtain ⟨cur,hl,ho,hr,hb,hv⟩:=R.out;have HL:=Lib.hid hl;have HV:=Lib.hid hv;clear hv R;by_cases hkm:k<m
  · obtain ⟨b1,o1,y,rfl,hyb,hye,hyc⟩:=(hy.below hb).at_ hkm;have HY:=Lib.hid hye;clear hye hl;go_wp2_with fail;refine (Jt w.heap.size k n _ y cur A c xs wr hr ho (by rw[HL.out];omega) (by omega) (by omega) (hx.below hb) (fun h=>hx.apart h (Nat.le_refl _)) hyb).mono ?_;rintro e w2 ⟨cur2,cy,rfl,hcy,hl2,ho2,hr2,hon2,HE⟩;have HL2:=Lib.hid hl2;clear hl2;have hfit:k+cur2.length<=cur.length:=(by rw[HL.out,HL2.out];omega)
    have hc2:=hr2.cell (i:=k+n) (by rw[Bw _ _ _ hfit,HL.out];omega);have hf2:=hr2.frozen (k+n);go_wp2_with fail;go_roundw
    case rel=>
     refine ⟨k+1,by omega,by go_num,by have:=hon2.size;simp[World.setCell];omega,_,?_,(F6 ho k ho2).set (k+n) cy hcy,hr2.set_ _ _,(hb.trans (hon2.below (by omega) (Nat.le_refl _))).setCell (Nat.le_refl _) _,?_⟩
     · rw[List.length_set,Bw _ _ _ hfit];exact HL.out
     · exact Ts cur cur2 xs ys n m k cy HL.out hx.lt hy.ok hkm HV.out HL2.out (by have e:=HY.out;unfold limb;rw[<-e];exact HE.out)
    case measure=>simp[intOf];omega
  · obtain rfl:k=m:=(by omega);clear hkm;go_wp2_with fail;refine (Cl w.heap.size (n+k) _ (Limb.val xs*Limb.val ys) w.heap.size cur wr hr ho (by rw[hl];omega) (by omega) (by omega) (Nat.le_refl _) (by rw[List.take_of_length_le (by omega),HV.out,AF ys k (by rw[hy.len];omega)])).mono ?_;rintro e w4 ⟨A',j,rfl,how,rfl⟩;go_wp2_with fail;go_ret
    exact ⟨A',j,rfl,how,hb⟩
end
section
open Go.RowKit
open Limb (limb Bf upto Az AF AA)
end
section
open Go.RowKit
open Limb (limb Bf upto Az AF AA)
def Tt (r0 r1 r2 b0 b1 q:Nat):Prop:=q<4294967296/\q*(b1*4294967296+b0)<=(r2*4294967296+r1)*4294967296+r0 /\
 ∀p,p<4294967296->p*(b1*4294967296+b0)<=(r2*4294967296+r1)*4294967296+r0->p<=q
def VN (r0 r1 r2 b0 b1 q t:Nat):Prop:=q*b1+t=r2*4294967296+r1/\∀p,p<4294967296->p*(b1*4294967296+b0)<=(r2*4294967296+r1)*4294967296+r0->p<=q
def VC (r0 r1 r2 b0 b1:Nat) (w:World) (e:Ending) (w':World):Prop:=∃q:Nat,e=.returned (.int .u64 (q:Int))/\q<4294967296/\Hid (Tt r0 r1 r2 b0 b1 q)/\∃k,w'=w.drewN k
end
section
open Go.RowKit
open Limb (limb Bf upto Az AF AA)
def Xl (g o m f:Nat) (zs xs:List Nat) (w:World) (k c:Nat) (wr:World):Prop:=
 ∃cur:List Nat,cur.length=m/\Limb.Ok cur/\Row wr g (put zs o cur)/\An g w wr/\Limb.val cur+upto xs k*f=Limb.val (win zs o m)+4294967296^k*c
def WK (g o m f:Nat) (zs xs:List Nat) (w:World) (e:Ending) (w':World):Prop:=
 ∃(cur:List Nat) (cy:Nat),e=.returned (.int .u32 (cy:Int))/\cy<4294967296/\cur.length=m/\Limb.Ok cur/\Row w' g (put zs o cur)/\An g w w'/\Hid (Limb.val cur+Limb.val xs*f=Limb.val (win zs o m)+4294967296^m*cy)
def Xm (g m f:Nat) (zs:List Nat) (w:World) (k z:Nat) (wr:World):Prop:=
 ∃cur:List Nat,cur.length=m/\Limb.Ok cur/\Row wr g (put zs 0 cur)/\An g w wr/\(∀i,i<k->limb cur i=limb zs i)/\z<f/\Limb.val ((win zs 0 m).drop k)=f*Limb.val (cur.drop k)+z
def WL (g m f:Nat) (zs:List Nat) (w:World) (e:Ending) (w':World):Prop:=
 e=.returned (.int .u32 ((Limb.val (win zs 0 m)%f:Nat):Int))/\Row w' g (put zs 0 (Limb.fixed m (Limb.val (win zs 0 m)/f)))/\An g w w'
end
section
open Go.RowKit
open Limb (limb Bf upto Az AF AA)
structure VO (zs ys:List Nat) (o j q:Nat):Prop where
 lo:Limb.val (win zs o (j+3))/Limb.val ys<=q
 hi:q<=Limb.val (win zs o (j+3))/Limb.val ys+1
structure Wx (zs ys cur:List Nat) (o k q cy:Nat):Prop where
 over:limb zs (o+k)<cy->1<=q/\q-1=Limb.val (win zs o (k+1))/Limb.val ys/\Limb.fixed k (Limb.val cur+Limb.val ys)=Limb.fixed k (Limb.val (win zs o (k+1))%Limb.val ys)
 even:cy<=limb zs (o+k)->q=Limb.val (win zs o (k+1))/Limb.val ys/\cur=Limb.fixed k (Limb.val (win zs o (k+1))%Limb.val ys)
 JS:(put zs o (Limb.fixed k (Limb.val (win zs o (k+1))%Limb.val ys))).set (o+k) 0=put zs o (Limb.fixed (k+1) (Limb.val (win zs o (k+1))%Limb.val ys))
def Ct (g o j:Nat) (zs ys:List Nat) (w:World) (e:Ending) (w':World):Prop:=
 e=.returned (.int .u32 ((Limb.val (win zs o (j+3))/Limb.val ys:Nat):Int))/\Row w' g (put zs o (Limb.fixed (j+3) (Limb.val (win zs o (j+3))%Limb.val ys)))/\An g w w'
end
section
open Go.RowKit
open Limb (limb Bf upto Az AF AA)
def lo (s x:Nat):Nat:=x*2^s%4294967296
def hi (s x:Nat):Nat:=x/2^(32-s)
theorem JU (xs:List Nat) (i v:Nat) (h:i<xs.length):limb (xs.set i v) i=v:=by unfold limb;rw[List.getD_eq_getElem?_getD,List.getElem?_set_self h];rfl
theorem Ms (xs:List Nat) (i j v:Nat) (h:i≠j):limb (xs.set i v) j=limb xs j:=by unfold limb;rw[List.getD_eq_getElem?_getD,List.getElem?_set_ne h,<-List.getD_eq_getElem?_getD]
def Xn (g N s:Nat) (old:List Nat) (w:World) (i:Nat) (wr:World):Prop:=
 ∃cur:List Nat,cur.length=N/\Limb.Ok cur/\Row wr g cur/\Below w.heap.size w wr/\w.heap.size<=g/\(∀t,t<=i->limb cur t=limb old t)/\Limb.val (cur.drop (i+1))=2^s*Limb.val (old.drop (i+1))+hi s (limb old i)
def VD (m n N:Nat) (w:World) (e:Ending) (w':World):Prop:=
 ∃zs:List Nat,e=.returned (.slice (some ⟨w.heap.size,0,none⟩) n n)/\zs.length=n/\Limb.Ok zs/\Row w' w.heap.size zs/\Limb.val zs=N/\Below w.heap.size w w'
end
end Go.Proofs.YtgohmojcopajoaaGreatDoor.Nu
