/- Texts of one seat, put together: Plain. -/
import Derived.Test.YtmedjkhmadfjlaaGreatR15
set_option linter.unusedVariables false
set_option linter.unusedSimpArgs false
set_option maxRecDepth 100000
set_option maxHeartbeats 16000000
namespace Go.Proofs.YtmedjkhmadfjlaaGreat
section
open Go.RowKit
open Tm
theorem Oo (u c:Int) (ps:List (Int×Int)):(RY u c ps).length<=ps.length+1:=by
 induction ps with
 |nil=>unfold RY;split<;>simp
 |cons p ps ih=>
  obtain ⟨v,d⟩:=p;unfold RY;split
  · split<;>simp
  · split
    · split
      · simp;omega
      · simp
    · simp;exact ih
theorem Bz (ps:List (Int×Int)):(norm ps).length<=ps.length:=by
 induction ps with
 |nil=>simp[norm]
 |cons p ps ih=>
  obtain ⟨u,c⟩:=p;unfold norm;split
  · simp;omega
  · have:=Oo u c (norm ps);simp;omega
def Er (L:List (Int×Int)) (k:Nat) (w:World) (e:Ending) (w':World):Prop:=∃A n c,e=.returned (.slice A n c)/\FE w' A n (norm L) k/\n<=c/\c<=9223372036854775807/\Below w.heap.size w w'
def G3 (B:Nat) (w3:World) (qs:List PV) (k q:Nat) (v:Value) (wr:World):Prop:=
 ∃rs:List PV,AF 47 3 wr B v rs.length (flat rs)/\Cl rs=Ea [] (Cl (qs.take q))/\(∀p∈rs,BO wr p.num p.Z (k+q))/\Below B w3 wr/\rs.length<=q
theorem Lq (w:World) (p:PV):∀j u,(flat [p])[j]?=some u->(w.alloc (.cells #[.int .i64 p.v,.bool p.s,.slice p.B p.m p.d] 47)).cell? ⟨w.heap.size,0+j,none⟩=some u:=by intro j u hu;rw[Nat.zero_add,cell_of_row _ w.heap.size j _ _ _ (heap_alloc_new w _)];simpa[flat,PV.cells] using hu
theorem Fw (w:World) (p:PV) (g:Nat) (hg:g=w.heap.size):∀j u,(flat [p])[j]?=some u->(w.alloc (.cells #[.int .i64 p.v,.bool p.s,.slice p.B p.m p.d] 47)).cell? ⟨g,0+j,none⟩=some u:=by subst hg;exact Lq w p
theorem G3.grow {B k q:Nat} {w3 W w1:World} {qs rs:List PV} {p:PV} {v v':Value} (h1:AF 47 3 W B v rs.length (flat rs)) (hn:AF 47 3 w1 B v' (rs++[p]).length (flat (rs++[p]))) (hg:W.grownBy w1 v.ownBlock)
   (hm:Ea [] (Cl (qs.take (q+1)))=Cl rs++[p.part]) (hz:∀x∈rs,BO W x.num x.Z (k+q)) (hp:BO W p.num p.Z k) (hb:Below B w3 W) (hw:B<=w3.heap.size) (hl:rs.length<=q):G3 B w3 qs k (q+1) v' w1:=by
 refine ⟨rs++[p],hn,by rw[hm,Bu];rfl,fun x hx=>?_,h1.old hb hg (Nat.le_refl _) hw,by simp;omega⟩;have hk:=h1.kp hg;rcases List.mem_append.1 hx with hx|hx
 · exact ((hz x hx).kp hk).mono (by omega)
 · simp at hx;subst hx;exact (hp.kp hk).mono (by omega)
theorem List.set_getElem?_self' {α:Type} {l:List α} {i:Nat} {x:α} (h:l[i]?=some x):l.set i x=l:=by obtain ⟨hlt,rfl⟩:=List.getElem?_eq_some_iff.1 h;exact List.set_getElem_self hlt
theorem G3.join {B g4 c4 t k q n8 c8:Nat} {w3 W wr:World} {qs is:List PV} {lp p:PV} {s8:Bool} {A8:Option Addr} (ht:is.length=t) (h1:AF 47 3 W B (.slice (some ⟨g4,0,none⟩) (t+1) c4) (t+1) (flat (is++[lp])))
   (hm:Ea [] (Cl (qs.take (q+1)))=Cl is++[(lp.v,lp.Z+p.Z)]) (hz:∀x∈is++[lp],BO W x.num x.Z (k+q)) (hp:Au W (.agg #[.bool s8,.slice A8 n8 c8]) (lp.Z+p.Z) (k+q+1)) (hB:B<=g4) (hb:Below B w3 W) (hw:B<=w3.heap.size) (hl:t+1<=q) :
   G3 B w3 qs k (q+1) (.slice (some ⟨g4,0,none⟩) (t+1) c4) ((W.setCell ⟨g4,t*3+1,none⟩ (.bool s8)).setCell ⟨g4,t*3+2,none⟩ (.slice A8 n8 c8)):=by
 have h2:=(h1.set (j:=t*3+1) (NL.bool s8)).set (j:=t*3+2) (NL.slice A8 n8 c8);have o2:AA g4 W ((W.setCell ⟨g4,t*3+1,none⟩ (.bool s8)).setCell ⟨g4,t*3+2,none⟩ (.slice A8 n8 c8)):=((AA.refl g4 W).setCell _ _).setCell _ _;have hk:=h1.kp o2;have e:((flat (is++[lp])).set (t*3+1) (.bool s8)).set (t*3+2) (.slice A8 n8 c8)=flat (is++[⟨lp.v,s8,A8,n8,c8,lp.Z+p.Z⟩]):=by
   have h3:=Na (is++[lp]) t ⟨lp.v,s8,A8,n8,c8,lp.Z+p.Z⟩ (by simp[ht]);have h4:(is++[lp]).set t ⟨lp.v,s8,A8,n8,c8,lp.Z+p.Z⟩=is++[⟨lp.v,s8,A8,n8,c8,lp.Z+p.Z⟩]:=by rw[<-ht,List.set_append_right _ _ (Nat.le_refl _),Nat.sub_self];rfl
   rw[h4]at h3;rw[<-h3];congr 2
   obtain ⟨f0,-,-⟩:=flat_get (is++[lp]) t lp (by simp[<-ht]);rw[show 3*t=t*3 by omega]at f0;exact (List.set_getElem?_self' f0).symm
 rw[e]at h2;have hl2:(is++[(⟨lp.v,s8,A8,n8,c8,lp.Z+p.Z⟩:PV)]).length=t+1:=by simp[ht]
 refine ⟨is++[⟨lp.v,s8,A8,n8,c8,lp.Z+p.Z⟩],by rw[hl2];exact h2,by rw[hm,Bu];rfl,fun x hx=>?_,hb.trans (o2.below (Nat.le_trans hw hb.size) hB),by rw[hl2];omega⟩;rcases List.mem_append.1 hx with hx|hx
 · exact ((hz x (List.mem_append_left _ hx)).kp hk).mono (by omega)
 · simp at hx;subst hx;exact (hp.kp hk).in_
theorem Gj (A:Option Addr) (n c:Nat) (L:List (Int×Int)) (k:Nat) (w:World) (hx:FE w A n L k) (hc:n<=c) (hc2:c<=9223372036854775807) (hn:n<=1099511) (hk:k<=1099511627) :
  Calls Tryz.prog 115 #[.slice A n c] w (Er L (k+n) w):=by
 have ha:=Mc A n c L k w hx (by omega) (by omega);unfold U2 at ha;go_enter Tryz.func115,Tryz.ntmps115;go_wp2_with fail;cases hr:Cm (-1) L with
 |true=>
  rw[hr]at ha;have HN:=Ac (LU ((MY _ _).1 hr));clear hr;refine ha.mono ?_;rintro e w1 ⟨rfl,b1⟩;have hx1:=Ac ((hx.below b1).mono (show k<=k+n by omega));clear hx;go_wp2_with fail;go_ret
  exact ⟨A,n,c,rfl,by rw[HN.out];exact hx1.out,hc,hc2,b1⟩
 |false=>
  rw[hr]at ha;have hn0:0<n:=by
   rcases Nat.eq_zero_or_pos n with h|h
   · have h2:=hx.len;rw[h]at h2;rw[List.eq_nil_of_length_eq_zero h2]at hr;cases hr
   · exact h
  clear hr;refine ha.mono ?_;rintro e w1 ⟨rfl,b1⟩;obtain ⟨ps,hps,hL⟩:=hx;have HL:=Ac hL;clear hL;have hpl:=hps.1;have hcl:=KO A n c ps k w1 (hps.below b1) hn0 (by omega);go_wp2_with fail;refine hcl.mono ?_;rintro e w2 ⟨g,c1,rfl,l2,b2⟩;have hso:=Md w1.heap.size g n c1 ps w2 l2 (by omega);have hgB:=(l2.lt g rfl).1;go_wp2_with fail;refine hso.mono ?_;rintro e w3 ⟨rfl,qs,hperm,l3,hsort,o3⟩
  have t3:Below w.heap.size w w3:=(b1.next b2).trans (o3.below (Nat.le_trans b1.size b2.size) (Nat.le_trans b1.size hgB));have hql:qs.length=n:=by rw[hperm.length_eq];exact hpl
  have hq3:AJ w3 (some ⟨g,0,none⟩) n qs k:=l3.parts hql (fun p hp=>(((hps.2.2 p (hperm.mem_iff.1 hp)).below b1).below b2).kp (l2.kp o3));have HP:=Ac hperm;have HS:=Ac hsort;have HT:=Ac t3;have hcap:=l3.len;obtain ⟨A',c',hv,hcn,hcm,-⟩:=hcap;injection hv with e1 e2 e3
  subst e1 e3;have HQ:=Ac hq3;have hqlen:=Ac hql;clear hperm hsort t3 hps hpl hcl hso l2 l3 o3 b1 b2 hgB hq3 hql ha;have HB:=Ac (show 0<w3.heap.size by have:=HQ.out.at3 hn0;obtain ⟨b,o,p,-,h,-⟩:=this;omega);go_wp2_with fail;go_loopw [4,17] (fun v i wr=>∃q:Nat,q<=n/\i=.int .i64 q/\Hid (G3 w3.heap.size w3 qs k q v wr)) (fun _ i _=>n-(intOf i).toNat)
  case atStart=>exact ⟨0,Nat.zero_le _,rfl,Lib.hid ⟨[],AF.nil _ _ _ _,rfl,fun p hp=>by simp at hp,Below.refl _ _,Nat.le_refl _⟩⟩
  case round=>
   obtain ⟨q,hq,rfl,HR⟩:=hrel;by_cases hqn:q<n
   · obtain ⟨rs,hr1,hr2,hr3,hr4,hr5⟩:=HR.out;obtain ⟨b0,o0,p,e0,hlt,hp,c0,c1,c2,hz⟩:=(HQ.out.below hr4).at3 hqn;injection e0 with e0
     injection e0 with e0 e00
     subst e0 e00;rw[Nat.zero_add]at c0 c1 c2;obtain ⟨A4,c4,rfl,h41,h42,h43⟩:=hr1.len;have hpush:=Ac (show Ea [] (Cl (qs.take (q+1)))=push (Cl rs) p.v p.Z by rw[KJ _ _ _ hp,PV.part,Ol,hr2]);clear HR;by_cases hv0:p.v<0
     · have hd:decide (p.v<0)=true:=(by simpa using hv0);have HD:=Ac (show ∀w2,Below wr.heap.size wr w2->G3 w3.heap.size w3 qs k (q+1) (.slice A4 rs.length c4) w2 from fun w2 hb=>⟨rs,hr1.below hb,by rw[hpush.out];unfold push;rw[if_pos hv0],fun p' hp'=>((hr3 p' hp').below hb).mono (by omega),hr4.trans (hb.mono hr4.size),by omega⟩);obtain ⟨z0,z1,-⟩:=Bh 47 wr #[.int .i64 p.v,.bool p.s,.slice p.B p.m p.d];have hz1:=Ac z1;have x0:=z0.c0;generalize rs.length=t at *
       clear hpush hr1 hr2 hr3 hr4 hz hp z0 z1;generalize p.v=pv at *;generalize p.s=psg at *;generalize p.B=pB at *;generalize p.m=pm at *;generalize p.d=pd at *;go_wp2_with fail;go_roundw
       case rel=>exact ⟨q+1,by omega,by go_num,Lib.hid (HD.out _ hz1.out)⟩
       case measure=>simp[intOf]<;>omega
     · have hd:decide (p.v<0)=false:=(by simpa using hv0);obtain ⟨z0,z1,-⟩:=Bh 47 wr #[.int .i64 p.v,.bool p.s,.slice p.B p.m p.d];have x0:=z0.c0;have x1:=z0.c1;have x2:=z0.c2;rcases List.eq_nil_or_concat rs with rfl|⟨is,lp,hcc⟩
       · have hd2:decide (0<=((([]:List PV).length:Nat):Int)-1)=false:=(by simp);have HZ:=Ac hz;have HP1:=Ac hp;have hz1:=Ac z1;have HR1:=Ac hr1;have H41:=Ac h41;clear hz hp z1 z0 hr1 h43;simp only[List.length_nil]at *;have hpp:=Ac (show Ea [] (Cl (qs.take (q+1)))=Cl ([]:List PV)++[p.part] by rw[hpush.out];unfold push;rw[if_neg hv0];rfl);clear hpush;go_wp2_with fail;go_quiet (fail)
         go_wp2_with (at_builtin;refine Bv rfl _ _ rfl w3.heap.size _ [] rfl (HR1.out.below ?hb1) _ 0 1 1 [p] rfl rfl ?hn1 (by simp) ?hs1 ?k1)
         case hn1=>exact Fw _ p _ (by simp)
         case hb1=>exact ((Af wr _).next (Ap _ _)).next (Af _ _)
         case hs1=>have:=hr4.size;simp;omega
         case k1=>
           intro v' w1 l1 g1;have tb:=((Af wr (.cells #[.int .i64 p.v,.bool p.s,.slice p.B p.m p.d] 47)).next (Ap _ nq)).next (Af _ (.cells #[.int .i64 p.v,.bool p.s,.slice p.B p.m p.d] 47));have HG:=Ac (G3.grow (HR1.out.below tb) l1 g1 hpp.out (fun x hx=>by simp at hx) ((HZ.out).below tb) (hr4.trans (tb.mono hr4.size)) (Nat.le_refl _) (Nat.zero_le _));clear tb g1 l1;go_wp2_with fail;go_roundw
           case rel=>exact ⟨q+1,by omega,by go_num,HG⟩
           case measure=>simp[intOf]<;>omega
       ·
         obtain rfl:rs=is++[lp]:=(by rw[hcc,List.concat_eq_append]);clear hcc;have hlen1:(is++[lp]).length=is.length+1:=(by simp);have hlget:(is++[lp])[is.length]?=some lp:=(by simp);obtain ⟨g4,rfl⟩:=h43 (by omega);obtain ⟨g',e',hB4,hlt4,hc4⟩:=hr1.cell (by omega);injection e' with e'
         injection e' with e'
         subst e';obtain ⟨f0,f1,f2⟩:=flat_get _ _ _ hlget;rw[show 3*is.length=is.length*3 by omega]at f0 f1 f2;obtain ⟨d0,u0⟩:=hc4 _ _ f0;obtain ⟨d1,u1⟩:=hc4 _ _ f1;obtain ⟨d2,u2⟩:=hc4 _ _ f2;have HZ:=Ac hz;have HZR:=Ac hr3;have HP1:=Ac hp;have HR1:=Ac hr1;have HR2:=Ac hr2;clear f0 f1 f2 hc4 hr2 hlget hz hp hr3;by_cases hvv:lp.v=p.v
         · have hpp:=Ac (show Ea [] (Cl (qs.take (q+1)))=Cl is++[(lp.v,lp.Z+p.Z)] by
             rw[hpush.out];unfold push;rw[if_neg hv0,Bu];show (match (Cl is++[(lp.v,lp.Z)]).getLast? with|none=>_|some (u,d)=>_)=_;rw[List.getLast?_concat];show (if lp.v=p.v then _ else _)=_;rw[if_pos hvv];show (Cl is++[(lp.v,lp.Z)]).dropLast++_=_;rw[List.dropLast_concat])
           have hbb:(lp.v==p.v)=true:=(by simpa using hvv);have HV:=Ac hvv;have Z1:=Ac z1;clear hpush hr1 h43 hvv;rw[hlen1]at hr5 h41 HR1 ⊢;clear hlen1;generalize ht:is.length=t at *;have HT:=Ac ht;have Z0:=Ac z0;clear ht z0 z1;have htb:t<=1099510:=(by omega);go_wp2_with fail;have W5b:=Af wr (.cells #[.int .i64 p.v,.bool p.s,.slice p.B p.m p.d] 47);generalize hW5:(wr.alloc (.cells #[.int .i64 p.v,.bool p.s,.slice p.B p.m p.d] 47))=W5 at *
           have z5:AK 47 W5 wr.heap.size #[.int .i64 p.v,.bool p.s,.slice p.B p.m p.d]:=Z0.out;clear hW5;have SOF:=Ac (show ∀W,Below W5.heap.size W5 W->(Below W5.heap.size W5 W/\W.cell? ⟨g4,t*3,none⟩=some (.int .i64 lp.v)/\W.cell? ⟨wr.heap.size,0,none⟩=some (.int .i64 p.v)) from fun W h=>⟨h,by rw[((W5b.next h).cell (p:=⟨g4,t*3,none⟩) hlt4)];exact d0,(z5.next h).c0⟩);clear d0 d1 d2 u0 u1 u2 x0 x1 x2 c0 c1 c2
           refine AO (by kernel_rfl) (by kernel_rfl) (by kernel_rfl) (fun w w'=>Below w.heap.size w w') (fun j v w=>match j with|0=>v=.int .i64 (t:Int)|1=>v=.bool true|2=>v=.bool true|3=>v=.slice (some ⟨g4,0,none⟩) (t+1) c4|4=>v=.int .i64 (t:Int)|5=>v=.pointer (some ⟨g4,t*3,none⟩)|6=>v=.pointer (some ⟨g4,t*3,none⟩)|7=>v=.int .i64 lp.v|8=>v=.pointer (some ⟨wr.heap.size,0,none⟩)|9=>v=.int .i64 p.v|10=>v=.bool true|11=>v=.bool true|12=>v=.bool true|_=>True) (fun _ _ w=>Below W5.heap.size W5 w) ?_ (fun _=>Ap W5 1) ?_ ?_
           · intro j v w w' hT h;match j,h with
             |0,h=>exact h
             |1,h=>exact h
             |2,h=>exact h
             |3,h=>exact h
             |4,h=>exact h
             |5,h=>exact h
             |6,h=>exact h
             |7,h=>exact h
             |8,h=>exact h
             |9,h=>exact h
             |10,h=>exact h
             |11,h=>exact h
             |12,h=>exact h
             |j+13,h=>trivial
           · refine ⟨?_,?_,?_,?_,?_,?_,?_,?_,?_,?_,?_,?_,?_,trivial⟩
             · intro l9 σ w a hin hout hl hc hp hG hF;refine Ad.none rfl ?_;have e7:a.tmps.getD 7 undef=.int .i64 (t:Int):=hout 7 (Ae (by kernel_rfl));refine Does.val (.int .i64 (t:Int)) (w':=w) ?_ ⟨Below.refl _ _,rfl,hG⟩;simp only[Array.getD_eq_getD_getElem?]at e7;go_simp
             · intro l9 σ w a hin hout hl hc hp hG hF;refine Ad.none rfl ?_;have e33:a.tmps.getD 33 undef=.int .i64 (t:Int):=Am (hin 0 33) rfl (hp ⟨0,.data⟩ (by simp) rfl) (hF 0);refine Does.val (.bool true) (w':=w) ?_ ⟨Below.refl _ _,rfl,hG⟩;simp only[Array.getD_eq_getD_getElem?]at e33;go_simp
             · intro l9 σ w a hin hout hl hc hp hG hF;refine Ad.none rfl ?_;have e34:a.tmps.getD 34 undef=.bool true:=Am (hin 1 34) rfl (hp ⟨1,.data⟩ (by simp) rfl) (hF 1);refine Does.val (.bool true) (w':=w) ?_ ⟨Below.refl _ _,rfl,hG⟩;simp only[Array.getD_eq_getD_getElem?]at e34;go_simp
             · intro l9 σ w a hin hout hl hc hp hG hF;refine Ad.some (d:=35) (b:=true) rfl rfl (Am (hin 2 35) rfl (hp ⟨2,.guard⟩ (by simp) rfl) (hF 2)) ?_;refine Or.inl ⟨rfl,?_⟩;have e4:a.tmps.getD 4 undef=.slice (some ⟨g4,0,none⟩) (t+1) c4:=hout 4 (Ae (by kernel_rfl));refine Does.val (.slice (some ⟨g4,0,none⟩) (t+1) c4) (w':=w) ?_ ⟨Below.refl _ _,rfl,hG⟩;simp only[Array.getD_eq_getD_getElem?]at e4;go_simp
             · intro l9 σ w a hin hout hl hc hp hG hF;refine Ad.some (d:=35) (b:=true) rfl rfl (Am (hin 2 35) rfl (hp ⟨2,.guard⟩ (by simp) rfl) (hF 2)) ?_;refine Or.inl ⟨rfl,?_⟩;have e7:a.tmps.getD 7 undef=.int .i64 (t:Int):=hout 7 (Ae (by kernel_rfl));refine Does.val (.int .i64 (t:Int)) (w':=w) ?_ ⟨Below.refl _ _,rfl,hG⟩;simp only[Array.getD_eq_getD_getElem?]at e7;go_simp
             · intro l9 σ w a hin hout hl hc hp hG hF;refine Ad.some (d:=35) (b:=true) rfl rfl (Am (hin 2 35) rfl (hp ⟨2,.guard⟩ (by simp) rfl) (hF 2)) ?_;refine Or.inl ⟨rfl,?_⟩;have e36:a.tmps.getD 36 undef=.slice (some ⟨g4,0,none⟩) (t+1) c4:=Am (hin 3 36) rfl (hp ⟨3,.data⟩ (by simp) rfl) (hF 3);have e37:a.tmps.getD 37 undef=.int .i64 (t:Int):=Am (hin 4 37) rfl (hp ⟨4,.data⟩ (by simp) rfl) (hF 4)
               refine Does.val (.pointer (some ⟨g4,t*3,none⟩)) (w':=w) ?_ ⟨Below.refl _ _,rfl,hG⟩;simp only[Array.getD_eq_getD_getElem?]at e36 e37;go_simp;(try (intro hh;exfalso;omega))
             · intro l9 σ w a hin hout hl hc hp hG hF;refine Ad.some (d:=35) (b:=true) rfl rfl (Am (hin 2 35) rfl (hp ⟨2,.guard⟩ (by simp) rfl) (hF 2)) ?_;refine Or.inl ⟨rfl,?_⟩;have e38:a.tmps.getD 38 undef=.pointer (some ⟨g4,t*3,none⟩):=Am (hin 5 38) rfl (hp ⟨5,.data⟩ (by simp) rfl) (hF 5);refine Does.val (.pointer (some ⟨g4,t*3,none⟩)) (w':=w) ?_ ⟨Below.refl _ _,rfl,hG⟩;simp only[Array.getD_eq_getD_getElem?]at e38;go_simp
             · intro l9 σ w a hin hout hl hc hp hG hF;refine Ad.some (d:=35) (b:=true) rfl rfl (Am (hin 2 35) rfl (hp ⟨2,.guard⟩ (by simp) rfl) (hF 2)) ?_;refine Or.inl ⟨rfl,?_⟩;have e39:a.tmps.getD 39 undef=.pointer (some ⟨g4,t*3,none⟩):=Am (hin 6 39) rfl (hp ⟨6,.data⟩ (by simp) rfl) (hF 6);have CC:=SOF.out w hG;obtain ⟨-,C1,D1⟩:=CC;refine Does.val (.int .i64 lp.v) (w':=w) ?_ ⟨Below.refl _ _,rfl,hG⟩;go_simp
             · intro l9 σ w a hin hout hl hc hp hG hF;refine Ad.some (d:=35) (b:=true) rfl rfl (Am (hin 2 35) rfl (hp ⟨2,.guard⟩ (by simp) rfl) (hF 2)) ?_;refine Or.inl ⟨rfl,?_⟩;have e6:a.tmps.getD 6 undef=.pointer (some ⟨wr.heap.size,0,none⟩):=hout 6 (Ae (by kernel_rfl));refine Does.val (.pointer (some ⟨wr.heap.size,0,none⟩)) (w':=w) ?_ ⟨Below.refl _ _,rfl,hG⟩;simp only[Array.getD_eq_getD_getElem?]at e6;go_simp
             · intro l9 σ w a hin hout hl hc hp hG hF;refine Ad.some (d:=35) (b:=true) rfl rfl (Am (hin 2 35) rfl (hp ⟨2,.guard⟩ (by simp) rfl) (hF 2)) ?_;refine Or.inl ⟨rfl,?_⟩;have e41:a.tmps.getD 41 undef=.pointer (some ⟨wr.heap.size,0,none⟩):=Am (hin 8 41) rfl (hp ⟨8,.data⟩ (by simp) rfl) (hF 8);have CC:=SOF.out w hG;obtain ⟨-,C1,D1⟩:=CC;refine Does.val (.int .i64 p.v) (w':=w) ?_ ⟨Below.refl _ _,rfl,hG⟩;go_simp
             · intro l9 σ w a hin hout hl hc hp hG hF;refine Ad.some (d:=35) (b:=true) rfl rfl (Am (hin 2 35) rfl (hp ⟨2,.guard⟩ (by simp) rfl) (hF 2)) ?_;refine Or.inl ⟨rfl,?_⟩;have e40:a.tmps.getD 40 undef=.int .i64 lp.v:=Am (hin 7 40) rfl (hp ⟨7,.data⟩ (by simp) rfl) (hF 7);have e42:a.tmps.getD 42 undef=.int .i64 p.v:=Am (hin 9 42) rfl (hp ⟨9,.data⟩ (by simp) rfl) (hF 9);refine Does.val (.bool true) (w':=w) ?_ ⟨Below.refl _ _,rfl,hG⟩
               simp only[Array.getD_eq_getD_getElem?]at e40 e42;go_simp
             · intro l9 σ w a hin hout hl hc hp hG hF;refine Ad.none rfl ?_;have e35:a.tmps.getD 35 undef=.bool true:=Am (hin 2 35) rfl (hp ⟨2,.data⟩ (by simp) rfl) (hF 2);have e43:a.tmps.getD 43 undef=.bool true:=Am (hin 10 43) rfl (hp ⟨10,.data⟩ (by simp) rfl) (hF 10);refine Does.val (.bool true) (w':=w) ?_ ⟨Below.refl _ _,rfl,hG⟩;simp only[Array.getD_eq_getD_getElem?]at e35 e43;go_simp
             · intro l9 σ w a hin hout hl hc hp hG hF;refine Ad.none rfl ?_;have e44:a.tmps.getD 44 undef=.bool true:=Am (hin 11 44) rfl (hp ⟨11,.data⟩ (by simp) rfl) (hF 11);refine Does.val (.bool true) (w':=w) ?_ ⟨Below.refl _ _,rfl,hG⟩;simp only[Array.getD_eq_getD_getElem?]at e44;go_simp
           · intro l9 σ W9 hall hG hF;rw[show mid _ σ l9 _=(Act.put (Act.put (Act.put (Act.put (Act.put (Act.put (Act.put (Act.put (Act.put (Act.put (Act.put (Act.put (Act.put _ (some 33) (σ 0)) (some 34) (σ 1)) (some 35) (σ 2)) (some 36) (σ 3)) (some 37) (σ 4)) (some 38) (σ 5)) (some 39) (σ 6)) (some 40) (σ 7)) (some 41) (σ 8)) (some 42) (σ 9)) (some 43) (σ 10)) (some 44) (σ 11)) (some 32) (σ 12)) from (AU hall).trans rfl];generalize σ 0=tt0;generalize σ 1=tt1
             generalize σ 2=tt2;generalize σ 3=tt3;generalize σ 4=tt4;generalize σ 5=tt5;generalize σ 6=tt6;generalize σ 7=tt7;generalize σ 8=tt8;generalize σ 9=tt9;generalize σ 10=tt10;generalize σ 11=tt11;rw[show σ 12=.bool true from hF 12 (by decide)];simp only[Act.put,List.setIfInBounds_toArray,List.set_cons_zero,List.set_cons_succ];have TG:=hG;clear hF hG hall;clear σ;clear SOF;go_wp2_with fail;have W6b:=W5b.next TG
             have z6:AK 47 W9 wr.heap.size #[.int .i64 p.v,.bool p.s,.slice p.B p.m p.d]:=z5.next TG;have l6:=HR1.out.below W6b;have HA:=Ac (fun W (h:Below W9.heap.size W9 W)=>ML (.agg #[.bool lp.s,.slice lp.B lp.m lp.d]) (.agg #[.bool p.s,.slice p.B p.m p.d]) lp.Z p.Z (k+q) W (((HZR.out lp (by simp)).below W6b).below h) (((HZ.out).below W6b).below h |>.mono (by omega)) (by omega))
             have SOF:=Ac (show ∀W,Below W9.heap.size W9 W->(Below W9.heap.size W9 W/\W.cell? ⟨g4,t*3+1,none⟩=some (.bool lp.s)/\W.cell? ⟨g4,t*3+2,none⟩=some (.slice lp.B lp.m lp.d)/\W.cell? ⟨wr.heap.size,1,none⟩=some (.bool p.s)/\W.cell? ⟨wr.heap.size,2,none⟩=some (.slice p.B p.m p.d)/\W.frozen? ⟨g4,t*3+1,none⟩=false/\W.frozen? ⟨g4,t*3+2,none⟩=false) from fun W h=>by
               have hq:=l6.below h;rw[show t+1=(is++[lp]).length by rw[List.length_append,HT.out];rfl]at hq;obtain ⟨g',e',-,-,hc4⟩:=hq.cell (by simp);injection e' with e'
               injection e' with e'
               subst e';obtain ⟨f0,f1,f2⟩:=flat_get (is++[lp]) t lp (by rw[<-HT.out];simp);rw[show 3*t=t*3 by omega]at f1 f2;exact ⟨h,(hc4 _ _ f1).1,(hc4 _ _ f2).1,(z6.next h).c1,(z6.next h).c2,(hc4 _ _ f1).2,(hc4 _ _ f2).2⟩)
             refine AW (by kernel_rfl) (by kernel_rfl) (by kernel_rfl) (by kernel_rfl) (fun w w'=>Below w.heap.size w w') (fun j v w=>match j with|0=>v=.slice (some ⟨g4,0,none⟩) (t+1) c4|1=>v=.int .i64 (t:Int)|2=>v=.slice (some ⟨g4,0,none⟩) (t+1) c4|3=>v=.int .i64 (t:Int)|4=>v=.pointer (some ⟨g4,t*3,none⟩)|5=>v=.pointer (some ⟨g4,t*3+1,none⟩)|6=>v=.agg #[.bool lp.s,.slice lp.B lp.m lp.d]|7=>v=.pointer (some ⟨wr.heap.size,1,none⟩)|8=>v=.agg #[.bool p.s,.slice p.B p.m p.d]|9=>Au w v (lp.Z+p.Z) (k+q+1)|10=>v=.pointer (some ⟨g4,t*3,none⟩)|11=>v=.pointer (some ⟨g4,t*3+1,none⟩)|_=>True) (fun _ _ w=>Below W9.heap.size W9 w) ?_ (fun _=>Ap W9 1) ?_ ?_
             · intro j v w w' hT h;match j,h with
               |0,h=>exact h
               |1,h=>exact h
               |2,h=>exact h
               |3,h=>exact h
               |4,h=>exact h
               |5,h=>exact h
               |6,h=>exact h
               |7,h=>exact h
               |8,h=>exact h
               |9,h=>exact h.below hT
               |10,h=>exact h
               |11,h=>exact h
               |j+12,h=>trivial
             · refine ⟨?_,?_,?_,?_,?_,?_,?_,?_,?_,?_,?_,?_,trivial⟩
               · intro l9 σ w a hin hout hl hla hs hc hp hG hF;refine Ad.none rfl ?_;have e4:a.tmps.getD 4 undef=.slice (some ⟨g4,0,none⟩) (t+1) c4:=hout 4 (Ae (by kernel_rfl));refine Does.val (.slice (some ⟨g4,0,none⟩) (t+1) c4) (w':=w) ?_ ⟨Below.refl _ _,rfl,hG⟩;simp only[Array.getD_eq_getD_getElem?]at e4;go_simp
               · intro l9 σ w a hin hout hl hla hs hc hp hG hF;refine Ad.none rfl ?_;have e7:a.tmps.getD 7 undef=.int .i64 (t:Int):=hout 7 (Ae (by kernel_rfl));refine Does.val (.int .i64 (t:Int)) (w':=w) ?_ ⟨Below.refl _ _,rfl,hG⟩;simp only[Array.getD_eq_getD_getElem?]at e7;go_simp
               · intro l9 σ w a hin hout hl hla hs hc hp hG hF;refine Ad.none rfl ?_;have e4:a.tmps.getD 4 undef=.slice (some ⟨g4,0,none⟩) (t+1) c4:=hout 4 (Ae (by kernel_rfl));refine Does.val (.slice (some ⟨g4,0,none⟩) (t+1) c4) (w':=w) ?_ ⟨Below.refl _ _,rfl,hG⟩;simp only[Array.getD_eq_getD_getElem?]at e4;go_simp
               · intro l9 σ w a hin hout hl hla hs hc hp hG hF;refine Ad.none rfl ?_;have e7:a.tmps.getD 7 undef=.int .i64 (t:Int):=hout 7 (Ae (by kernel_rfl));refine Does.val (.int .i64 (t:Int)) (w':=w) ?_ ⟨Below.refl _ _,rfl,hG⟩;simp only[Array.getD_eq_getD_getElem?]at e7;go_simp
               · intro l9 σ w a hin hout hl hla hs hc hp hG hF;refine Ad.none rfl ?_;have e47:a.tmps.getD 47 undef=.slice (some ⟨g4,0,none⟩) (t+1) c4:=Am (hin 2 47) rfl (hp ⟨2,.data⟩ (by simp) rfl) (hF 2);have e48:a.tmps.getD 48 undef=.int .i64 (t:Int):=Am (hin 3 48) rfl (hp ⟨3,.data⟩ (by simp) rfl) (hF 3);refine Does.val (.pointer (some ⟨g4,t*3,none⟩)) (w':=w) ?_ ⟨Below.refl _ _,rfl,hG⟩;simp only[Array.getD_eq_getD_getElem?]at e47 e48;go_simp
                 (try (intro hh;exfalso;omega))
               · intro l9 σ w a hin hout hl hla hs hc hp hG hF;refine Ad.none rfl ?_;have e49:a.tmps.getD 49 undef=.pointer (some ⟨g4,t*3,none⟩):=Am (hin 4 49) rfl (hp ⟨4,.data⟩ (by simp) rfl) (hF 4);refine Does.val (.pointer (some ⟨g4,t*3+1,none⟩)) (w':=w) ?_ ⟨Below.refl _ _,rfl,hG⟩;simp only[Array.getD_eq_getD_getElem?]at e49;go_simp
               · intro l9 σ w a hin hout hl hla hs hc hp hG hF;refine Ad.none rfl ?_;have e50:a.tmps.getD 50 undef=.pointer (some ⟨g4,t*3+1,none⟩):=Am (hin 5 50) rfl (hp ⟨5,.data⟩ (by simp) rfl) (hF 5);have CC:=SOF.out w hG;obtain ⟨-,C1,C2,D1,D2,-,-⟩:=CC;refine Does.val (.agg #[.bool lp.s,.slice lp.B lp.m lp.d]) (w':=w) ?_ ⟨Below.refl _ _,rfl,hG⟩;go_simp
               · intro l9 σ w a hin hout hl hla hs hc hp hG hF;refine Ad.none rfl ?_;have e6:a.tmps.getD 6 undef=.pointer (some ⟨wr.heap.size,0,none⟩):=hout 6 (Ae (by kernel_rfl));refine Does.val (.pointer (some ⟨wr.heap.size,1,none⟩)) (w':=w) ?_ ⟨Below.refl _ _,rfl,hG⟩;simp only[Array.getD_eq_getD_getElem?]at e6;go_simp
               · intro l9 σ w a hin hout hl hla hs hc hp hG hF;refine Ad.none rfl ?_;have e52:a.tmps.getD 52 undef=.pointer (some ⟨wr.heap.size,1,none⟩):=Am (hin 7 52) rfl (hp ⟨7,.data⟩ (by simp) rfl) (hF 7);have CC:=SOF.out w hG;obtain ⟨-,C1,C2,D1,D2,-,-⟩:=CC;refine Does.val (.agg #[.bool p.s,.slice p.B p.m p.d]) (w':=w) ?_ ⟨Below.refl _ _,rfl,hG⟩;go_simp
               · intro l9 σ w a hin hout hl hla hs hc hp hG hF;refine Ad.none rfl ?_;have e51:a.tmps.getD 51 undef=.agg #[.bool lp.s,.slice lp.B lp.m lp.d]:=Am (hin 6 51) rfl (hp ⟨6,.data⟩ (by simp) rfl) (hF 6);have e53:a.tmps.getD 53 undef=.agg #[.bool p.s,.slice p.B p.m p.d]:=Am (hin 8 53) rfl (hp ⟨8,.data⟩ (by simp) rfl) (hF 8);refine Does.call ?_ (HA.out w hG) ?_
                 · go_simp
                 · rintro e w' ⟨v,rfl,z,hb⟩;exact ⟨_,rfl,hb,z,hG.next hb⟩
               · intro l9 σ w a hin hout hl hla hs hc hp hG hF;refine Ad.none rfl ?_;have e45:a.tmps.getD 45 undef=.slice (some ⟨g4,0,none⟩) (t+1) c4:=Am (hin 0 45) rfl (hp ⟨0,.data⟩ (by simp) rfl) (hF 0);have e46:a.tmps.getD 46 undef=.int .i64 (t:Int):=Am (hin 1 46) rfl (hp ⟨1,.data⟩ (by simp) rfl) (hF 1);refine Does.val (.pointer (some ⟨g4,t*3,none⟩)) (w':=w) ?_ ⟨Below.refl _ _,rfl,hG⟩;simp only[Array.getD_eq_getD_getElem?]at e45 e46;go_simp
                 (try (intro hh;exfalso;omega))
               · intro l9 σ w a hin hout hl hla hs hc hp hG hF;refine Ad.none rfl ?_;have e55:a.tmps.getD 55 undef=.pointer (some ⟨g4,t*3,none⟩):=Am (hin 10 55) rfl (hp ⟨10,.data⟩ (by simp) rfl) (hF 10);refine Does.val (.pointer (some ⟨g4,t*3+1,none⟩)) (w':=w) ?_ ⟨Below.refl _ _,rfl,hG⟩;simp only[Array.getD_eq_getD_getElem?]at e55;go_simp
             · intro o ho;injection ho with ho;subst ho
               intro l9 σ w a hall hin hout hG hF;refine Ad.none rfl ?_;have e56:a.tmps.getD 56 undef=.pointer (some ⟨g4,t*3+1,none⟩):=(hin 11 56 rfl (by decide)).trans (hF 11 (by decide));have e54:=hin 9 54 rfl (by decide);have z9:=hF 9 (by decide);have zz:=hF 9 (by decide);have CC:=SOF.out w hG;obtain ⟨-,C1,C2,-,-,F1,F2⟩:=CC;obtain ⟨s8,A8,n8,c8,ev8⟩:=Au.form zz;rw[ev8]at e54 zz;have hl9:=l6.below hG
               refine Does.skip (w':=(w.setCell ⟨g4,t*3+1,none⟩ (.bool s8)).setCell ⟨g4,t*3+2,none⟩ (.slice A8 n8 c8)) ?_ ?_
               · go_simp
               · rw[show fin _ σ undef _=(Act.put (Act.put (Act.put (Act.put (Act.put (Act.put (Act.put (Act.put (Act.put (Act.put (Act.put (Act.put (Act.put _ (some 45) (σ 0)) (some 46) (σ 1)) (some 47) (σ 2)) (some 48) (σ 3)) (some 49) (σ 4)) (some 50) (σ 5)) (some 51) (σ 6)) (some 52) (σ 7)) (some 53) (σ 8)) (some 54) (σ 9)) (some 55) (σ 10)) (some 56) (σ 11)) none undef) from (Bt hall).trans rfl]
                 simp only[Act.put,List.setIfInBounds_toArray,List.set_cons_zero,List.set_cons_succ];have HG:=Ac (show G3 w3.heap.size w3 qs k (q+1) (.slice (some ⟨g4,0,none⟩) (t+1) c4) ((w.setCell ⟨g4,t*3+1,none⟩ (.bool s8)).setCell ⟨g4,t*3+2,none⟩ (.slice A8 n8 c8)) from by refine G3.join (is:=is) (lp:=lp) (p:=p) (k:=k) (q:=q) (wr:=wr) HT.out ?_ hpp.out (fun x hx=>((HZR.out x hx).below W6b).below hG) zz hB4 (hr4.trans ((W6b.next hG).mono hr4.size)) (Nat.le_refl _) hr5;exact hl9)
                 generalize σ 0=tt0;generalize σ 1=tt1;generalize σ 2=tt2;generalize σ 3=tt3;generalize σ 4=tt4;generalize σ 5=tt5;generalize σ 6=tt6;generalize σ 7=tt7;generalize σ 8=tt8;generalize σ 9=tt9;generalize σ 10=tt10;generalize σ 11=tt11;clear hF hG hall hin hout zz C1 C2 F1 F2 hl9 SOF HA l6 z6 W6b TG z5 W5b hr4;generalize w.setCell ⟨g4,t*3+1,none⟩ (.bool s8)=w8 at *;generalize w8.setCell ⟨g4,t*3+2,none⟩ (.slice A8 n8 c8)=w9 at *;go_wp2_with fail
                 go_roundw
                 case rel=>exact ⟨q+1,by omega,by go_num,HG⟩
                 case measure=>simp[intOf]<;>omega
         · have hpp:=Ac (show Ea [] (Cl (qs.take (q+1)))=Cl (is++[lp])++[p.part] by
             rw[hpush.out];unfold push;rw[if_neg hv0,Bu];show (match (Cl is++[(lp.v,lp.Z)]).getLast? with|none=>_|some (u,d)=>_)=_;rw[List.getLast?_concat];show (if lp.v=p.v then _ else _)=_;rw[if_neg hvv];rfl)
           have hbb:(lp.v==p.v)=false:=(by simpa using hvv);have Z0:=Ac z0;clear hpush hr1 h43 hvv z1 z0;rw[hlen1]at hr5 h41 HR1 ⊢;have HL1:=Ac hlen1;clear hlen1;generalize ht:is.length=t at *;have HT:=Ac ht;clear ht;have htb:t<=1099510:=(by omega);go_wp2_with fail;have W5b:=Af wr (.cells #[.int .i64 p.v,.bool p.s,.slice p.B p.m p.d] 47);generalize hW5:(wr.alloc (.cells #[.int .i64 p.v,.bool p.s,.slice p.B p.m p.d] 47))=W5 at *
           have z5:AK 47 W5 wr.heap.size #[.int .i64 p.v,.bool p.s,.slice p.B p.m p.d]:=Z0.out;clear hW5;have SOF:=Ac (show ∀W,Below W5.heap.size W5 W->(Below W5.heap.size W5 W/\W.cell? ⟨g4,t*3,none⟩=some (.int .i64 lp.v)/\W.cell? ⟨wr.heap.size,0,none⟩=some (.int .i64 p.v)) from fun W h=>⟨h,by rw[((W5b.next h).cell (p:=⟨g4,t*3,none⟩) hlt4)];exact d0,(z5.next h).c0⟩);clear d0 d1 d2 u0 u1 u2 x0 x1 x2 c0 c1 c2
           refine AO (by kernel_rfl) (by kernel_rfl) (by kernel_rfl) (fun w w'=>Below w.heap.size w w') (fun j v w=>match j with|0=>v=.int .i64 (t:Int)|1=>v=.bool true|2=>v=.bool true|3=>v=.slice (some ⟨g4,0,none⟩) (t+1) c4|4=>v=.int .i64 (t:Int)|5=>v=.pointer (some ⟨g4,t*3,none⟩)|6=>v=.pointer (some ⟨g4,t*3,none⟩)|7=>v=.int .i64 lp.v|8=>v=.pointer (some ⟨wr.heap.size,0,none⟩)|9=>v=.int .i64 p.v|10=>v=.bool false|11=>v=.bool false|12=>v=.bool false|_=>True) (fun _ _ w=>Below W5.heap.size W5 w) ?_ (fun _=>Ap W5 1) ?_ ?_
           · intro j v w w' hT h;match j,h with
             |0,h=>exact h
             |1,h=>exact h
             |2,h=>exact h
             |3,h=>exact h
             |4,h=>exact h
             |5,h=>exact h
             |6,h=>exact h
             |7,h=>exact h
             |8,h=>exact h
             |9,h=>exact h
             |10,h=>exact h
             |11,h=>exact h
             |12,h=>exact h
             |j+13,h=>trivial
           · refine ⟨?_,?_,?_,?_,?_,?_,?_,?_,?_,?_,?_,?_,?_,trivial⟩
             · intro l9 σ w a hin hout hl hc hp hG hF;refine Ad.none rfl ?_;have e7:a.tmps.getD 7 undef=.int .i64 (t:Int):=hout 7 (Ae (by kernel_rfl));refine Does.val (.int .i64 (t:Int)) (w':=w) ?_ ⟨Below.refl _ _,rfl,hG⟩;simp only[Array.getD_eq_getD_getElem?]at e7;go_simp
             · intro l9 σ w a hin hout hl hc hp hG hF;refine Ad.none rfl ?_;have e33:a.tmps.getD 33 undef=.int .i64 (t:Int):=Am (hin 0 33) rfl (hp ⟨0,.data⟩ (by simp) rfl) (hF 0);refine Does.val (.bool true) (w':=w) ?_ ⟨Below.refl _ _,rfl,hG⟩;simp only[Array.getD_eq_getD_getElem?]at e33;go_simp
             · intro l9 σ w a hin hout hl hc hp hG hF;refine Ad.none rfl ?_;have e34:a.tmps.getD 34 undef=.bool true:=Am (hin 1 34) rfl (hp ⟨1,.data⟩ (by simp) rfl) (hF 1);refine Does.val (.bool true) (w':=w) ?_ ⟨Below.refl _ _,rfl,hG⟩;simp only[Array.getD_eq_getD_getElem?]at e34;go_simp
             · intro l9 σ w a hin hout hl hc hp hG hF;refine Ad.some (d:=35) (b:=true) rfl rfl (Am (hin 2 35) rfl (hp ⟨2,.guard⟩ (by simp) rfl) (hF 2)) ?_;refine Or.inl ⟨rfl,?_⟩;have e4:a.tmps.getD 4 undef=.slice (some ⟨g4,0,none⟩) (t+1) c4:=hout 4 (Ae (by kernel_rfl));refine Does.val (.slice (some ⟨g4,0,none⟩) (t+1) c4) (w':=w) ?_ ⟨Below.refl _ _,rfl,hG⟩;simp only[Array.getD_eq_getD_getElem?]at e4;go_simp
             · intro l9 σ w a hin hout hl hc hp hG hF;refine Ad.some (d:=35) (b:=true) rfl rfl (Am (hin 2 35) rfl (hp ⟨2,.guard⟩ (by simp) rfl) (hF 2)) ?_;refine Or.inl ⟨rfl,?_⟩;have e7:a.tmps.getD 7 undef=.int .i64 (t:Int):=hout 7 (Ae (by kernel_rfl));refine Does.val (.int .i64 (t:Int)) (w':=w) ?_ ⟨Below.refl _ _,rfl,hG⟩;simp only[Array.getD_eq_getD_getElem?]at e7;go_simp
             · intro l9 σ w a hin hout hl hc hp hG hF;refine Ad.some (d:=35) (b:=true) rfl rfl (Am (hin 2 35) rfl (hp ⟨2,.guard⟩ (by simp) rfl) (hF 2)) ?_;refine Or.inl ⟨rfl,?_⟩;have e36:a.tmps.getD 36 undef=.slice (some ⟨g4,0,none⟩) (t+1) c4:=Am (hin 3 36) rfl (hp ⟨3,.data⟩ (by simp) rfl) (hF 3);have e37:a.tmps.getD 37 undef=.int .i64 (t:Int):=Am (hin 4 37) rfl (hp ⟨4,.data⟩ (by simp) rfl) (hF 4)
               refine Does.val (.pointer (some ⟨g4,t*3,none⟩)) (w':=w) ?_ ⟨Below.refl _ _,rfl,hG⟩;simp only[Array.getD_eq_getD_getElem?]at e36 e37;go_simp;(try (intro hh;exfalso;omega))
             · intro l9 σ w a hin hout hl hc hp hG hF;refine Ad.some (d:=35) (b:=true) rfl rfl (Am (hin 2 35) rfl (hp ⟨2,.guard⟩ (by simp) rfl) (hF 2)) ?_;refine Or.inl ⟨rfl,?_⟩;have e38:a.tmps.getD 38 undef=.pointer (some ⟨g4,t*3,none⟩):=Am (hin 5 38) rfl (hp ⟨5,.data⟩ (by simp) rfl) (hF 5);refine Does.val (.pointer (some ⟨g4,t*3,none⟩)) (w':=w) ?_ ⟨Below.refl _ _,rfl,hG⟩;simp only[Array.getD_eq_getD_getElem?]at e38;go_simp
             · intro l9 σ w a hin hout hl hc hp hG hF;refine Ad.some (d:=35) (b:=true) rfl rfl (Am (hin 2 35) rfl (hp ⟨2,.guard⟩ (by simp) rfl) (hF 2)) ?_;refine Or.inl ⟨rfl,?_⟩;have e39:a.tmps.getD 39 undef=.pointer (some ⟨g4,t*3,none⟩):=Am (hin 6 39) rfl (hp ⟨6,.data⟩ (by simp) rfl) (hF 6);have CC:=SOF.out w hG;obtain ⟨-,C1,D1⟩:=CC;refine Does.val (.int .i64 lp.v) (w':=w) ?_ ⟨Below.refl _ _,rfl,hG⟩;go_simp
             · intro l9 σ w a hin hout hl hc hp hG hF;refine Ad.some (d:=35) (b:=true) rfl rfl (Am (hin 2 35) rfl (hp ⟨2,.guard⟩ (by simp) rfl) (hF 2)) ?_;refine Or.inl ⟨rfl,?_⟩;have e6:a.tmps.getD 6 undef=.pointer (some ⟨wr.heap.size,0,none⟩):=hout 6 (Ae (by kernel_rfl));refine Does.val (.pointer (some ⟨wr.heap.size,0,none⟩)) (w':=w) ?_ ⟨Below.refl _ _,rfl,hG⟩;simp only[Array.getD_eq_getD_getElem?]at e6;go_simp
             · intro l9 σ w a hin hout hl hc hp hG hF;refine Ad.some (d:=35) (b:=true) rfl rfl (Am (hin 2 35) rfl (hp ⟨2,.guard⟩ (by simp) rfl) (hF 2)) ?_;refine Or.inl ⟨rfl,?_⟩;have e41:a.tmps.getD 41 undef=.pointer (some ⟨wr.heap.size,0,none⟩):=Am (hin 8 41) rfl (hp ⟨8,.data⟩ (by simp) rfl) (hF 8);have CC:=SOF.out w hG;obtain ⟨-,C1,D1⟩:=CC;refine Does.val (.int .i64 p.v) (w':=w) ?_ ⟨Below.refl _ _,rfl,hG⟩;go_simp
             · intro l9 σ w a hin hout hl hc hp hG hF;refine Ad.some (d:=35) (b:=true) rfl rfl (Am (hin 2 35) rfl (hp ⟨2,.guard⟩ (by simp) rfl) (hF 2)) ?_;refine Or.inl ⟨rfl,?_⟩;have e40:a.tmps.getD 40 undef=.int .i64 lp.v:=Am (hin 7 40) rfl (hp ⟨7,.data⟩ (by simp) rfl) (hF 7);have e42:a.tmps.getD 42 undef=.int .i64 p.v:=Am (hin 9 42) rfl (hp ⟨9,.data⟩ (by simp) rfl) (hF 9);refine Does.val (.bool false) (w':=w) ?_ ⟨Below.refl _ _,rfl,hG⟩
               simp only[Array.getD_eq_getD_getElem?]at e40 e42;go_simp
             · intro l9 σ w a hin hout hl hc hp hG hF;refine Ad.none rfl ?_;have e35:a.tmps.getD 35 undef=.bool true:=Am (hin 2 35) rfl (hp ⟨2,.data⟩ (by simp) rfl) (hF 2);have e43:a.tmps.getD 43 undef=.bool false:=Am (hin 10 43) rfl (hp ⟨10,.data⟩ (by simp) rfl) (hF 10);refine Does.val (.bool false) (w':=w) ?_ ⟨Below.refl _ _,rfl,hG⟩;simp only[Array.getD_eq_getD_getElem?]at e35 e43;go_simp
             · intro l9 σ w a hin hout hl hc hp hG hF;refine Ad.none rfl ?_;have e44:a.tmps.getD 44 undef=.bool false:=Am (hin 11 44) rfl (hp ⟨11,.data⟩ (by simp) rfl) (hF 11);refine Does.val (.bool false) (w':=w) ?_ ⟨Below.refl _ _,rfl,hG⟩;simp only[Array.getD_eq_getD_getElem?]at e44;go_simp
           · intro l9 σ W9 hall hG hF;rw[show mid _ σ l9 _=(Act.put (Act.put (Act.put (Act.put (Act.put (Act.put (Act.put (Act.put (Act.put (Act.put (Act.put (Act.put (Act.put _ (some 33) (σ 0)) (some 34) (σ 1)) (some 35) (σ 2)) (some 36) (σ 3)) (some 37) (σ 4)) (some 38) (σ 5)) (some 39) (σ 6)) (some 40) (σ 7)) (some 41) (σ 8)) (some 42) (σ 9)) (some 43) (σ 10)) (some 44) (σ 11)) (some 32) (σ 12)) from (AU hall).trans rfl];generalize σ 0=tt0;generalize σ 1=tt1
             generalize σ 2=tt2;generalize σ 3=tt3;generalize σ 4=tt4;generalize σ 5=tt5;generalize σ 6=tt6;generalize σ 7=tt7;generalize σ 8=tt8;generalize σ 9=tt9;generalize σ 10=tt10;generalize σ 11=tt11;rw[show σ 12=.bool false from hF 12 (by decide)];simp only[Act.put,List.setIfInBounds_toArray,List.set_cons_zero,List.set_cons_succ];have TG:=hG;clear hF hG hall;clear σ;clear SOF;have z9:=z5.next TG;have y0:=z9.c0;have y1:=z9.c1;have y2:=z9.c2
             have tb9:=W5b.next TG;have HZ5:=Ac z9;clear z9 z5;have HRB:=Ac (fun W (h:Below wr.heap.size wr W)=>(show AF 47 3 W w3.heap.size (.slice (some ⟨g4,0,none⟩) (t+1) c4) (is++[lp]).length (flat (is++[lp])) from by rw[HL1.out];exact HR1.out.below h));have HLE:=Ac (show (is++[lp]).length+1<=1099511627776 by rw[HL1.out];omega)
             go_wp2_with (at_builtin;refine Bv rfl _ _ rfl w3.heap.size _ (is++[lp]) rfl (HRB.out _ ?hb2) _ 0 1 1 [p] rfl rfl ?hn2 HLE.out ?hs2 ?k2)
             case hb2=>exact tb9.next (Af _ _)
             case hn2=>first|exact Lq _ p|exact Fw _ p _ (by simp)
             case hs2=>have:=hr4.size;have:=tb9.size;simp;omega
             case k2=>
               intro v' w1 l1 g1;have tb:=tb9.next (Af W9 (.cells #[.int .i64 p.v,.bool p.s,.slice p.B p.m p.d] 47));have l1b:AF 47 3 w1 w3.heap.size v' (is++[lp]++[p]).length (flat (is++[lp]++[p])):=(by simpa using l1);have HG:=Ac (G3.grow (HRB.out _ tb) l1b g1 hpp.out (fun x hx=>((HZR.out x hx).below tb)) ((HZ.out).below tb) (hr4.trans (tb.mono hr4.size)) (Nat.le_refl _) (by rw[HL1.out];omega));clear tb g1 l1 l1b y0 y1 y2;go_wp2_with fail;go_roundw
               case rel=>exact ⟨q+1,by omega,by go_num,HG⟩
               case measure=>simp[intOf]<;>omega
   · obtain rfl:q=n:=(by omega);obtain ⟨rs,hr1,hr2,hr3,hr4,hr5⟩:=HR.out;obtain ⟨A4,c4,rfl,h41,h42,-⟩:=hr1.len;have hde:=JN w3.heap.size rs.length c4 (k+q) A4 rs wr hr1 hr3 (by omega) (by omega);have HM:=Ac (show Cl (rs.filter nz)=norm L from by
       obtain ⟨b,hb⟩:=HS.out;have h1:GH (Ea [] (Cl qs))=norm (Cl ps):=UZ (show (Cl qs).Perm (Cl ps) from HP.out.map _) hb;rw[HL.out]at h1;rw[<-h1];rw[List.take_of_length_le (by rw[hqlen.out];exact Nat.le_refl _)]at hr2;rw[<-hr2];unfold GH Cl;rw[List.filter_map];rfl)
     have HW:=Ac (show ∀w',wr.grownBy w' (Value.slice A4 rs.length c4).ownBlock->Below w.heap.size w w' from fun w' hg=>(HT.out.trans (hr4.mono HT.out.size)).trans (hr1.back hg HT.out.size (Nat.le_trans HT.out.size hr4.size)));clear hr1 hr2 hr3 HR;go_wp2_with fail;refine hde.mono ?_;rintro e w5 ⟨A5,n5,c5,rfl,h51,h52,h53,h54⟩;have HB5:=Ac (HW.out w5 h54);have H51:=Ac h51;clear h54 hde h51;go_wp2_with fail;go_ret
     exact ⟨A5,n5,c5,rfl,⟨_,H51.out,HM.out⟩,h52,h53,HB5.out⟩
end
end Go.Proofs.YtmedjkhmadfjlaaGreat
