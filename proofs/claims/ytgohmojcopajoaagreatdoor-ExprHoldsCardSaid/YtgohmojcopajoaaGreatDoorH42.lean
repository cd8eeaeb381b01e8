/- Texts of one seat, put together: ExprHq RelsIn TermsIn Open OpenZ OpenT. -/
import Derived.Test.YtgohmojcopajoaaGreatDoorH41
import Derived.Test.YtgohmojcopajoaaGreatDoorH39
import Derived.Test.YtgohmojcopajoaaGreatDoorH06
import Derived.Test.YtgohmojcopajoaaGreatDoorH28
import Derived.Test.YtgohmojcopajoaaGreatDoorH16
import Derived.Test.YtgohmojcopajoaaGreatDoorH01
import Derived.ProofKit
import Derived.OpenShut
import Derived.ShutString
import Derived.ChangeOld
import Derived.Below
import Derived.Lib.SmallJoins
import Derived.Deep.Slices
import Derived.Deep.Strs
set_option linter.unusedVariables false
set_option linter.unusedSimpArgs false
set_option maxRecDepth 100000
set_option maxHeartbeats 16000000
namespace Go.Proofs.YtgohmojcopajoaaGreatDoor
section
open Go.RowKit
open Lx Ex
def DI (V:Option Addr) (mv dv:Nat) (vs:List ByteArray) (VA:Option Addr) (vn vc:Nat) (ivs:List Nu.IV) (u:Tr):Prop:=∀(S:Nat->Prop) (cs:List Value) (w:World),AW S w (gt u) cs->EN w V mv vs->mv<=9223372036854775807->Nu.CJ w VA vn ivs 4->vn<=1000->Calls Tryz.prog 23 #[.agg cs.toArray,.slice V mv dv,.slice VA vn vc] w (Av (Cc vs (Nu.nums ivs) u) w)
theorem P3 {S:Nat->Prop} {kd:Int} {us:List Tr} {Al:Option Addr} {nl cl:Nat} {Ar:Option Addr} {nr cr:Nat} {op:Int} {p q:ByteArray} {A:Option Addr} {n c:Nat} {V:Option Addr} {mv dv:Nat} {vs:List ByteArray} {VA:Option Addr} {vn vc:Nat} {ivs:List Nu.IV} {w0 W1:World} (h:AW S w0 (.mk kd [] [] 0 ⟨#[]⟩ ⟨#[]⟩ (us.map gt)) [.int .i64 kd,.slice Al nl cl,.slice Ar nr cr,.int .i64 op,.string p,.string q,.slice A n c]) (hS:EN w0 V mv vs) (hm:mv<=9223372036854775807) (hvs:Nu.CJ w0 VA vn ivs 4) (hvn:vn<=1000) (hb:Below w0.heap.size w0 W1) (hf:∀u∈us,DI V mv dv vs VA vn vc ivs u) :
  us.length=n/\∀j,j<n->∃(ba oa:Nat) (k2:Int) (Al2:Option Addr) (BO cl2:Nat) (Ar2:Option Addr) (nr2 cr2:Nat) (op2:Int) (p2 q2:ByteArray) (A2:Option Addr) (n2 c2:Nat) (bj:Bool),(us.map (Cc vs (Nu.nums ivs)))[j]?=some bj/\A=some ⟨ba,oa,none⟩/\ba<W1.heap.size/\W1.cell? ⟨ba,oa+j*7,none⟩=some (.int .i64 k2)/\W1.cell? ⟨ba,oa+j*7+1,none⟩=some (.slice Al2 BO cl2)/\W1.cell? ⟨ba,oa+j*7+2,none⟩=some (.slice Ar2 nr2 cr2)/\W1.cell? ⟨ba,oa+j*7+3,none⟩=some (.int .i64 op2)/\W1.cell? ⟨ba,oa+j*7+4,none⟩=some (.string p2)/\W1.cell? ⟨ba,oa+j*7+5,none⟩=some (.string q2)/\W1.cell? ⟨ba,oa+j*7+6,none⟩=some (.slice A2 n2 c2)/\∀W,Below W1.heap.size W1 W->Calls Tryz.prog 23 #[.agg #[.int .i64 k2,.slice Al2 BO cl2,.slice Ar2 nr2 cr2,.int .i64 op2,.string p2,.string q2,.slice A2 n2 c2],.slice V mv dv,.slice VA vn vc] W (Av bj W):=by
 obtain ⟨l',r',ks,e,hl,hr,hk,hl1,hl2,hr1,hr2,hn1,hn2,hkid⟩:=h.parts;injection e with e1 e2 e3 e4 e5 e6 e7
 subst e7;rw[List.length_map]at hk;refine ⟨hk,fun j hj=>?_⟩;obtain ⟨ba,oa,u,k2,Al2,BO,cl2,Ar2,nr2,cr2,op2,p2,q2,A2,n2,c2,hA,-,hlt,hu,hti,e0,e1,e2,e3,e4,e5,e6⟩:=hkid j hj;rw[List.getElem?_map]at hu;cases hx:us[j]? with
 |none=>rw[hx]at hu;cases hu
 |some u'=>
  rw[hx]at hu;injection hu with hu
  subst hu;exact ⟨ba,oa,k2,Al2,BO,cl2,Ar2,nr2,cr2,op2,p2,q2,A2,n2,c2,Cc vs (Nu.nums ivs) u',(by rw[List.getElem?_map,hx];rfl),hA,Nat.lt_of_lt_of_le hlt hb.size,(Af hb hlt).trans e0,(Af hb hlt).trans e1,(Af hb hlt).trans e2,(Af hb hlt).trans e3,(Af hb hlt).trans e4,(Af hb hlt).trans e5,(Af hb hlt).trans e6,fun W hW=>hf u' (List.mem_of_getElem? hx) S _ W (hti.keep (AJ.of_below (hb.next hW))) (hS.below (hb.next hW)) hm (hvs.below (hb.next hW)) hvn⟩
theorem NY {V:Option Addr} {mv dv:Nat} {vs:List ByteArray} {VA:Option Addr} {vn vc:Nat} {ivs:List Nu.IV}:DI V mv dv vs VA vn vc ivs (.leaf true):=by
 intro S cs w0 h hS hm hvs hvn;obtain ⟨kd,Al,nl,cl,Ar,nr,cr,op,p,q,A,n,c,rfl⟩:=h.shape;obtain ⟨l',r',ks,e,hl,hr,hk,hl1,hl2,hr1,hr2,hn1,hn2,hkid⟩:=h.parts;have e:GT.mk 0 [] [] 0 ⟨#[]⟩ ⟨#[]⟩ []=GT.mk kd l' r' op p q ks:=e;injection e with e1 e2 e3 e4 e5 e6 e7
 subst e1 e2 e3 e4 e5 e6 e7;clear hkid;obtain ⟨x1,hb,hsz⟩:=Ap 33 w0 #[.int .i64 0,.slice Al nl cl,.slice Ar nr cr,.int .i64 0,.string ⟨#[]⟩,.string ⟨#[]⟩,.slice A n c];have HB:=Aa hb;have X1:=Aa x1;have g0:=x1.cell 0 _ rfl;have g1:=x1.cell 1 _ rfl;have g2:=x1.cell 2 _ rfl;have g3:=x1.cell 3 _ rfl;have g4:=x1.cell 4 _ rfl;have g5:=x1.cell 5 _ rfl;have g6:=x1.cell 6 _ rfl;clear hl hr hk h hS hvs x1 hb;go_enter Tryz.func23,Tryz.ntmps23;go_wp2_with fail;go_ret
 exact (show Av true w0 (.returned (.bool true)) _ from ⟨rfl,HB.out⟩)
theorem Mw {V:Option Addr} {mv dv:Nat} {vs:List ByteArray} {VA:Option Addr} {vn vc:Nat} {ivs:List Nu.IV}:DI V mv dv vs VA vn vc ivs (.leaf false):=by
 intro S cs w0 h hS hm hvs hvn;obtain ⟨kd,Al,nl,cl,Ar,nr,cr,op,p,q,A,n,c,rfl⟩:=h.shape;obtain ⟨l',r',ks,e,hl,hr,hk,hl1,hl2,hr1,hr2,hn1,hn2,hkid⟩:=h.parts;have e:GT.mk 1 [] [] 0 ⟨#[]⟩ ⟨#[]⟩ []=GT.mk kd l' r' op p q ks:=e;injection e with e1 e2 e3 e4 e5 e6 e7
 subst e1 e2 e3 e4 e5 e6 e7;clear hkid;obtain ⟨x1,hb,hsz⟩:=Ap 33 w0 #[.int .i64 1,.slice Al nl cl,.slice Ar nr cr,.int .i64 0,.string ⟨#[]⟩,.string ⟨#[]⟩,.slice A n c];have HB:=Aa hb;have X1:=Aa x1;have g0:=x1.cell 0 _ rfl;have g1:=x1.cell 1 _ rfl;have g2:=x1.cell 2 _ rfl;have g3:=x1.cell 3 _ rfl;have g4:=x1.cell 4 _ rfl;have g5:=x1.cell 5 _ rfl;have g6:=x1.cell 6 _ rfl;clear hl hr hk h hS hvs x1 hb;go_enter Tryz.func23,Tryz.ntmps23;go_wp2_with fail;go_ret
 exact (show Av false w0 (.returned (.bool false)) _ from ⟨rfl,HB.out⟩)
theorem P4 {V:Option Addr} {mv dv:Nat} {vs:List ByteArray} {VA:Option Addr} {vn vc:Nat} {ivs:List Nu.IV} (l r:List Mn) (o:Nat) (hf:KC (.cmp l o r)):DI V mv dv vs VA vn vc ivs (.cmp l o r):=by
 intro S cs w0 h hS hm hvs hvn;obtain ⟨kd,Al,nl,cl,Ar,nr,cr,op,p,q,A,n,c,rfl⟩:=h.shape;obtain ⟨l',r',ks,e,hl,hr,hk,hl1,hl2,hr1,hr2,hn1,hn2,hkid⟩:=h.parts;have e:GT.mk 2 l r (o:Int) ⟨#[]⟩ ⟨#[]⟩ []=GT.mk kd l' r' op p q ks:=e;injection e with e1 e2 e3 e4 e5 e6 e7
 subst e1 e2 e3 e4 e5 e6 e7;clear hkid;obtain ⟨f1,f2,f3,f4,ho⟩:=hf;have h64:=GD f1;have h65:=GD f2;rw[hl.1]at h64;rw[hr.1]at h65;obtain ⟨x1,hb,hsz⟩:=Ap 33 w0 #[.int .i64 2,.slice Al nl cl,.slice Ar nr cr,.int .i64 (o:Int),.string ⟨#[]⟩,.string ⟨#[]⟩,.slice A n c];have HB:=Aa hb;have X1:=Aa x1;have g0:=x1.cell 0 _ rfl;have g1:=x1.cell 1 _ rfl;have g2:=x1.cell 2 _ rfl;have g3:=x1.cell 3 _ rfl;have g4:=x1.cell 4 _ rfl;have g5:=x1.cell 5 _ rfl;have g6:=x1.cell 6 _ rfl
 obtain ⟨W1,hW1⟩:∃W1,W1=w0.alloc (.cells #[.int .i64 2,.slice Al nl cl,.slice Ar nr cr,.int .i64 (o:Int),.string ⟨#[]⟩,.string ⟨#[]⟩,.slice A n c] 33):=⟨_,rfl⟩;rw[<-hW1]at g0 g1 g2 g3 g4 g5 g6 HB X1 hb;have HVL:=Aa (fun W (hW:Below W1.heap.size W1 W)=>NX S Al nl cl l V mv dv vs VA vn vc ivs W (hl.keep (AJ.of_below (hb.next hW))) h64 f3 (hS.below (hb.next hW)) hm (hvs.below (hb.next hW)) hvn)
 have HVR:=Aa (fun W (hW:Below W1.heap.size W1 W)=>NX S Ar nr cr r V mv dv vs VA vn vc ivs W (hr.keep (AJ.of_below (hb.next hW))) h65 f4 (hS.below (hb.next hW)) hm (hvs.below (hb.next hW)) hvn);have HT:=Aa (show Cc vs (Nu.nums ivs) (.cmp l o r)=Zh o (KB vs (Nu.nums ivs) l) (KB vs (Nu.nums ivs) r) from rfl);generalize Cc vs (Nu.nums ivs) (.cmp l o r)=BB at *;generalize KB vs (Nu.nums ivs) l=ZL at *;generalize KB vs (Nu.nums ivs) r=ZR at *
 clear hl hr hk h hS hvs x1 hb f1 f2 f3 f4;have SOF:=Aa (show ∀W,Below W1.heap.size W1 W->W.cell? ⟨w0.heap.size,1,none⟩=some (.slice Al nl cl)/\W.cell? ⟨w0.heap.size,2,none⟩=some (.slice Ar nr cr) from fun W h=>⟨(X1.out.next h).cell 1 _ rfl,(X1.out.next h).cell 2 _ rfl⟩);go_enter Tryz.func23,Tryz.ntmps23;go_upto_region 5 with fail;rw[<-hW1];clear hW1
 refine BJ (by kernel_rfl) (by kernel_rfl) (by kernel_rfl) (fun w w'=>Below w.heap.size w w') (fun j v w=>match j with|0=>v=.pointer (some ⟨w0.heap.size,1,none⟩)|1=>v=.slice Al nl cl|2=>v=.slice V mv dv|3=>v=.slice VA vn vc|4=>Nu.AL w v ZL 800|5=>v=.pointer (some ⟨w0.heap.size,2,none⟩)|6=>v=.slice Ar nr cr|7=>v=.slice V mv dv|8=>v=.slice VA vn vc|9=>Nu.AL w v ZR 800|10=>v=.int .i64 (Nu.Cn ZL ZR)|11=>v=.int .i64 (Nu.Cn ZL ZR)|_=>True) (fun _ _ w=>Below W1.heap.size W1 w) ?_ (fun _=>Ao W1 1) ?_ ?_
 · intro j v w w' hT h;match j,h with
   |0,h=>exact h
   |1,h=>exact h
   |2,h=>exact h
   |3,h=>exact h
   |4,h=>exact h.below hT
   |5,h=>exact h
   |6,h=>exact h
   |7,h=>exact h
   |8,h=>exact h
   |9,h=>exact h.below hT
   |10,h=>exact h
   |11,h=>exact h
   |j+12,h=>trivial
 · refine ⟨?_,?_,?_,?_,?_,?_,?_,?_,?_,?_,?_,?_,trivial⟩
   · intro listed σ w a hin hout hl hc hp hG hF;refine Ac.none rfl ?_;have e3:a.tmps.getD 3 undef=.pointer (some ⟨w0.heap.size,0,none⟩):=hout 3 (Ag (by kernel_rfl));refine Does.val (.pointer (some ⟨w0.heap.size,1,none⟩)) (w':=w) ?_ ⟨Below.refl _ _,rfl,hG⟩;simp only[Array.getD_eq_getD_getElem?]at e3;go_simp
   · intro listed σ w a hin hout hl hc hp hG hF;refine Ac.none rfl ?_;have e14:a.tmps.getD 14 undef=.pointer (some ⟨w0.heap.size,1,none⟩):=(hin 0 14 rfl (hp ⟨0,.data⟩ (by simp) rfl)).trans (hF 0 (hp ⟨0,.data⟩ (by simp) rfl));have CC:=SOF.out w hG;obtain ⟨C0,C1⟩:=CC;refine Does.val (.slice Al nl cl) (w':=w) ?_ ⟨Below.refl _ _,rfl,hG⟩;go_simp
   · intro listed σ w a hin hout hl hc hp hG hF;refine Ac.none rfl ?_;have e1:a.tmps.getD 1 undef=.slice V mv dv:=hout 1 (Ag (by kernel_rfl));refine Does.val (.slice V mv dv) (w':=w) ?_ ⟨Below.refl _ _,rfl,hG⟩;simp only[Array.getD_eq_getD_getElem?]at e1;go_simp
   · intro listed σ w a hin hout hl hc hp hG hF;refine Ac.none rfl ?_;have e2:a.tmps.getD 2 undef=.slice VA vn vc:=hout 2 (Ag (by kernel_rfl));refine Does.val (.slice VA vn vc) (w':=w) ?_ ⟨Below.refl _ _,rfl,hG⟩;simp only[Array.getD_eq_getD_getElem?]at e2;go_simp
   · intro listed σ w a hin hout hl hc hp hG hF;refine Ac.none rfl ?_;have e15:a.tmps.getD 15 undef=.slice Al nl cl:=(hin 1 15 rfl (hp ⟨1,.data⟩ (by simp) rfl)).trans (hF 1 (hp ⟨1,.data⟩ (by simp) rfl));have e16:a.tmps.getD 16 undef=.slice V mv dv:=(hin 2 16 rfl (hp ⟨2,.data⟩ (by simp) rfl)).trans (hF 2 (hp ⟨2,.data⟩ (by simp) rfl));have e17:a.tmps.getD 17 undef=.slice VA vn vc:=(hin 3 17 rfl (hp ⟨3,.data⟩ (by simp) rfl)).trans (hF 3 (hp ⟨3,.data⟩ (by simp) rfl))
     refine Does.call ?_ (HVL.out w hG) ?_
     · go_simp
     · rintro e w' ⟨v,rfl,z,hb⟩;exact ⟨_,rfl,hb,z,hG.next hb⟩
   · intro listed σ w a hin hout hl hc hp hG hF;refine Ac.none rfl ?_;have e3:a.tmps.getD 3 undef=.pointer (some ⟨w0.heap.size,0,none⟩):=hout 3 (Ag (by kernel_rfl));refine Does.val (.pointer (some ⟨w0.heap.size,2,none⟩)) (w':=w) ?_ ⟨Below.refl _ _,rfl,hG⟩;simp only[Array.getD_eq_getD_getElem?]at e3;go_simp
   · intro listed σ w a hin hout hl hc hp hG hF;refine Ac.none rfl ?_;have e19:a.tmps.getD 19 undef=.pointer (some ⟨w0.heap.size,2,none⟩):=(hin 5 19 rfl (hp ⟨5,.data⟩ (by simp) rfl)).trans (hF 5 (hp ⟨5,.data⟩ (by simp) rfl));have CC:=SOF.out w hG;obtain ⟨C0,C1⟩:=CC;refine Does.val (.slice Ar nr cr) (w':=w) ?_ ⟨Below.refl _ _,rfl,hG⟩;go_simp
   · intro listed σ w a hin hout hl hc hp hG hF;refine Ac.none rfl ?_;have e1:a.tmps.getD 1 undef=.slice V mv dv:=hout 1 (Ag (by kernel_rfl));refine Does.val (.slice V mv dv) (w':=w) ?_ ⟨Below.refl _ _,rfl,hG⟩;simp only[Array.getD_eq_getD_getElem?]at e1;go_simp
   · intro listed σ w a hin hout hl hc hp hG hF;refine Ac.none rfl ?_;have e2:a.tmps.getD 2 undef=.slice VA vn vc:=hout 2 (Ag (by kernel_rfl));refine Does.val (.slice VA vn vc) (w':=w) ?_ ⟨Below.refl _ _,rfl,hG⟩;simp only[Array.getD_eq_getD_getElem?]at e2;go_simp
   · intro listed σ w a hin hout hl hc hp hG hF;refine Ac.none rfl ?_;have e20:a.tmps.getD 20 undef=.slice Ar nr cr:=(hin 6 20 rfl (hp ⟨6,.data⟩ (by simp) rfl)).trans (hF 6 (hp ⟨6,.data⟩ (by simp) rfl));have e21:a.tmps.getD 21 undef=.slice V mv dv:=(hin 7 21 rfl (hp ⟨7,.data⟩ (by simp) rfl)).trans (hF 7 (hp ⟨7,.data⟩ (by simp) rfl));have e22:a.tmps.getD 22 undef=.slice VA vn vc:=(hin 8 22 rfl (hp ⟨8,.data⟩ (by simp) rfl)).trans (hF 8 (hp ⟨8,.data⟩ (by simp) rfl))
     refine Does.call ?_ (HVR.out w hG) ?_
     · go_simp
     · rintro e w' ⟨v,rfl,z,hb⟩;exact ⟨_,rfl,hb,z,hG.next hb⟩
   · intro listed σ w a hin hout hl hc hp hG hF;refine Ac.none rfl ?_;have e18:=hin 4 18 rfl (hp ⟨4,.data⟩ (by simp) rfl);have z4:=hF 4 (hp ⟨4,.data⟩ (by simp) rfl);have e23:=hin 9 23 rfl (hp ⟨9,.data⟩ (by simp) rfl);have z9:=hF 9 (hp ⟨9,.data⟩ (by simp) rfl);refine Does.call ?_ (Nu.VH _ _ ZL ZR 800 w z4.in_ z9.in_ (by omega)) ?_
     · go_simp
     · rintro e w' ⟨rfl,hb⟩;exact ⟨_,rfl,hb,rfl,hG.next hb⟩
   · intro listed σ w a hin hout hl hc hp hG hF;refine Ac.none rfl ?_;have e24:=hin 10 24 rfl (hp ⟨10,.data⟩ (by simp) rfl);obtain ev10:=hF 10 (hp ⟨10,.data⟩ (by simp) rfl);rw[ev10]at e24;refine Does.val (.int .i64 (Nu.Cn ZL ZR)) (w':=w) ?_ ⟨Below.refl _ _,rfl,hG⟩;simp only[Array.getD_eq_getD_getElem?]at e24;go_simp
 · intro listed σ W9 hall hG hF;rw[show mid _ σ listed _=(Act.put (Act.put (Act.put (Act.put (Act.put (Act.put (Act.put (Act.put (Act.put (Act.put (Act.put (Act.put _ (some 14) (σ 0)) (some 15) (σ 1)) (some 16) (σ 2)) (some 17) (σ 3)) (some 18) (σ 4)) (some 19) (σ 5)) (some 20) (σ 6)) (some 21) (σ 7)) (some 22) (σ 8)) (some 23) (σ 9)) (some 24) (σ 10)) (some 7) (σ 11)) from (Ca hall).trans rfl];generalize σ 0=tt0;generalize σ 1=tt1;generalize σ 2=tt2;generalize σ 3=tt3
   generalize σ 4=tt4;generalize σ 5=tt5;generalize σ 6=tt6;generalize σ 7=tt7;generalize σ 8=tt8;generalize σ 9=tt9;generalize σ 10=tt10;rw[show σ 11=.int .i64 (Nu.Cn ZL ZR) from hF 11 (by decide)];simp only[Act.put,List.setIfInBounds_toArray,List.set_cons_zero,List.set_cons_succ];have TG:=hG;clear hF hG hall;clear σ;have X9:=X1.out.next TG;have HB9:=Aa (HB.out.next TG);have g0:=X9.cell 0 _ rfl;have g3:=X9.cell 3 _ rfl;clear TG X9 SOF HVL HVR
   have HS:(ZL<ZR/\Nu.Cn ZL ZR=-1)\/(ZL=ZR/\Nu.Cn ZL ZR=0)\/(ZR<ZL/\Nu.Cn ZL ZR=1):=by
     unfold Nu.Cn;rcases Int.lt_trichotomy ZL ZR with h|h|h
     · exact Or.inl ⟨h,if_pos h⟩
     · exact Or.inr (Or.inl ⟨h,by rw[if_neg (by omega),if_neg (by omega)]⟩)
     · exact Or.inr (Or.inr ⟨h,by rw[if_neg (by omega),if_pos h]⟩)
   have HO:o=0\/o=1\/o=2\/o=3\/o=4\/o=5:=(by omega);rcases HS with ⟨hs,hc⟩|⟨hs,hc⟩|⟨hs,hc⟩
   · rw[hc];clear hc;rcases HO with rfl|rfl|rfl|rfl|rfl|rfl
     · have HE:=Aa (show BB=false from by
        rw[HT.out];show (decide (ZL=ZR))=false;exact decide_eq_false (by omega))
       have g3:W9.cell? ⟨w0.heap.size,3,none⟩=some (.int .i64 0):=g3;clear hs ho;go_wp2_with fail;go_ret
       exact (show Av BB w0 (.returned (.bool false)) _ from ⟨by rw[HE.out],HB9.out⟩)
     · have HE:=Aa (show BB=true from by
        rw[HT.out];show (!decide (ZL=ZR))=true;rw[decide_eq_false (by omega)];rfl)
       have g3:W9.cell? ⟨w0.heap.size,3,none⟩=some (.int .i64 1):=g3;clear hs ho;go_wp2_with fail;go_ret
       exact (show Av BB w0 (.returned (.bool true)) _ from ⟨by rw[HE.out],HB9.out⟩)
     · have HE:=Aa (show BB=true from by
        rw[HT.out];show (decide (ZL<ZR))=true;exact decide_eq_true (by omega))
       have g3:W9.cell? ⟨w0.heap.size,3,none⟩=some (.int .i64 2):=g3;clear hs ho;go_wp2_with fail;go_ret
       exact (show Av BB w0 (.returned (.bool true)) _ from ⟨by rw[HE.out],HB9.out⟩)
     · have HE:=Aa (show BB=true from by
        rw[HT.out];show (decide (ZL<=ZR))=true;exact decide_eq_true (by omega))
       have g3:W9.cell? ⟨w0.heap.size,3,none⟩=some (.int .i64 3):=g3;clear hs ho;go_wp2_with fail;go_ret
       exact (show Av BB w0 (.returned (.bool true)) _ from ⟨by rw[HE.out],HB9.out⟩)
     · have HE:=Aa (show BB=false from by
        rw[HT.out];show (decide (ZR<ZL))=false;exact decide_eq_false (by omega))
       have g3:W9.cell? ⟨w0.heap.size,3,none⟩=some (.int .i64 4):=g3;clear hs ho;go_wp2_with fail;go_ret
       exact (show Av BB w0 (.returned (.bool false)) _ from ⟨by rw[HE.out],HB9.out⟩)
     · have HE:=Aa (show BB=false from by
        rw[HT.out];show (decide (ZR<=ZL))=false;exact decide_eq_false (by omega))
       have g3:W9.cell? ⟨w0.heap.size,3,none⟩=some (.int .i64 5):=g3;clear hs ho;go_wp2_with fail;go_ret
       exact (show Av BB w0 (.returned (.bool false)) _ from ⟨by rw[HE.out],HB9.out⟩)
   · rw[hc];clear hc;rcases HO with rfl|rfl|rfl|rfl|rfl|rfl
     · have HE:=Aa (show BB=true from by
        rw[HT.out];show (decide (ZL=ZR))=true;exact decide_eq_true (by omega))
       have g3:W9.cell? ⟨w0.heap.size,3,none⟩=some (.int .i64 0):=g3;clear hs ho;go_wp2_with fail;go_ret
       exact (show Av BB w0 (.returned (.bool true)) _ from ⟨by rw[HE.out],HB9.out⟩)
     · have HE:=Aa (show BB=false from by
        rw[HT.out];show (!decide (ZL=ZR))=false;rw[decide_eq_true hs];rfl)
       have g3:W9.cell? ⟨w0.heap.size,3,none⟩=some (.int .i64 1):=g3;clear hs ho;go_wp2_with fail;go_ret
       exact (show Av BB w0 (.returned (.bool false)) _ from ⟨by rw[HE.out],HB9.out⟩)
     · have HE:=Aa (show BB=false from by
        rw[HT.out];show (decide (ZL<ZR))=false;exact decide_eq_false (by omega))
       have g3:W9.cell? ⟨w0.heap.size,3,none⟩=some (.int .i64 2):=g3;clear hs ho;go_wp2_with fail;go_ret
       exact (show Av BB w0 (.returned (.bool false)) _ from ⟨by rw[HE.out],HB9.out⟩)
     · have HE:=Aa (show BB=true from by
        rw[HT.out];show (decide (ZL<=ZR))=true;exact decide_eq_true (by omega))
       have g3:W9.cell? ⟨w0.heap.size,3,none⟩=some (.int .i64 3):=g3;clear hs ho;go_wp2_with fail;go_ret
       exact (show Av BB w0 (.returned (.bool true)) _ from ⟨by rw[HE.out],HB9.out⟩)
     · have HE:=Aa (show BB=false from by
        rw[HT.out];show (decide (ZR<ZL))=false;exact decide_eq_false (by omega))
       have g3:W9.cell? ⟨w0.heap.size,3,none⟩=some (.int .i64 4):=g3;clear hs ho;go_wp2_with fail;go_ret
       exact (show Av BB w0 (.returned (.bool false)) _ from ⟨by rw[HE.out],HB9.out⟩)
     · have HE:=Aa (show BB=true from by
        rw[HT.out];show (decide (ZR<=ZL))=true;exact decide_eq_true (by omega))
       have g3:W9.cell? ⟨w0.heap.size,3,none⟩=some (.int .i64 5):=g3;clear hs ho;go_wp2_with fail;go_ret
       exact (show Av BB w0 (.returned (.bool true)) _ from ⟨by rw[HE.out],HB9.out⟩)
   · rw[hc];clear hc;rcases HO with rfl|rfl|rfl|rfl|rfl|rfl
     · have HE:=Aa (show BB=false from by
        rw[HT.out];show (decide (ZL=ZR))=false;exact decide_eq_false (by omega))
       have g3:W9.cell? ⟨w0.heap.size,3,none⟩=some (.int .i64 0):=g3;clear hs ho;go_wp2_with fail;go_ret
       exact (show Av BB w0 (.returned (.bool false)) _ from ⟨by rw[HE.out],HB9.out⟩)
     · have HE:=Aa (show BB=true from by
        rw[HT.out];show (!decide (ZL=ZR))=true;rw[decide_eq_false (by omega)];rfl)
       have g3:W9.cell? ⟨w0.heap.size,3,none⟩=some (.int .i64 1):=g3;clear hs ho;go_wp2_with fail;go_ret
       exact (show Av BB w0 (.returned (.bool true)) _ from ⟨by rw[HE.out],HB9.out⟩)
     · have HE:=Aa (show BB=false from by
        rw[HT.out];show (decide (ZL<ZR))=false;exact decide_eq_false (by omega))
       have g3:W9.cell? ⟨w0.heap.size,3,none⟩=some (.int .i64 2):=g3;clear hs ho;go_wp2_with fail;go_ret
       exact (show Av BB w0 (.returned (.bool false)) _ from ⟨by rw[HE.out],HB9.out⟩)
     · have HE:=Aa (show BB=false from by
        rw[HT.out];show (decide (ZL<=ZR))=false;exact decide_eq_false (by omega))
       have g3:W9.cell? ⟨w0.heap.size,3,none⟩=some (.int .i64 3):=g3;clear hs ho;go_wp2_with fail;go_ret
       exact (show Av BB w0 (.returned (.bool false)) _ from ⟨by rw[HE.out],HB9.out⟩)
     · have HE:=Aa (show BB=true from by
        rw[HT.out];show (decide (ZR<ZL))=true;exact decide_eq_true (by omega))
       have g3:W9.cell? ⟨w0.heap.size,3,none⟩=some (.int .i64 4):=g3;clear hs ho;go_wp2_with fail;go_ret
       exact (show Av BB w0 (.returned (.bool true)) _ from ⟨by rw[HE.out],HB9.out⟩)
     · have HE:=Aa (show BB=true from by
        rw[HT.out];show (decide (ZR<=ZL))=true;exact decide_eq_true (by omega))
       have g3:W9.cell? ⟨w0.heap.size,3,none⟩=some (.int .i64 5):=g3;clear hs ho;go_wp2_with fail;go_ret
       exact (show Av BB w0 (.returned (.bool true)) _ from ⟨by rw[HE.out],HB9.out⟩)
theorem NZ {V:Option Addr} {mv dv:Nat} {vs:List ByteArray} {VA:Option Addr} {vn vc:Nat} {ivs:List Nu.IV} (t:Tr) (ht:DI V mv dv vs VA vn vc ivs t):DI V mv dv vs VA vn vc ivs (.deny t):=by
 intro S cs w0 h hS hm hvs hvn;obtain ⟨kd,Al,nl,cl,Ar,nr,cr,op,p,q,A,n,c,rfl⟩:=h.shape;obtain ⟨l',r',ks,e,hl,hr,hk,hl1,hl2,hr1,hr2,hn1,hn2,hkid⟩:=h.parts;have e:GT.mk 3 [] [] 0 ⟨#[]⟩ ⟨#[]⟩ [gt t]=GT.mk kd l' r' op p q ks:=e;injection e with e1 e2 e3 e4 e5 e6 e7
 subst e1 e2 e3 e4 e5 e6 e7;clear hkid;obtain ⟨x1,hb,hsz⟩:=Ap 33 w0 #[.int .i64 3,.slice Al nl cl,.slice Ar nr cr,.int .i64 0,.string ⟨#[]⟩,.string ⟨#[]⟩,.slice A n c];have HB:=Aa hb;have X1:=Aa x1;have g0:=x1.cell 0 _ rfl;have g1:=x1.cell 1 _ rfl;have g2:=x1.cell 2 _ rfl;have g3:=x1.cell 3 _ rfl;have g4:=x1.cell 4 _ rfl;have g5:=x1.cell 5 _ rfl;have g6:=x1.cell 6 _ rfl
 obtain ⟨W1,hW1⟩:∃W1,W1=w0.alloc (.cells #[.int .i64 3,.slice Al nl cl,.slice Ar nr cr,.int .i64 0,.string ⟨#[]⟩,.string ⟨#[]⟩,.slice A n c] 33):=⟨_,rfl⟩;rw[<-hW1]at g0 g1 g2 g3 g4 g5 g6 HB X1 hb;obtain ⟨hn9,hkk⟩:=P3 (us:=[t]) (dv:=dv) (vc:=vc) h hS hm hvs hvn hb (by intro u hu;simp only[List.mem_cons,List.not_mem_nil,or_false]at hu;subst hu;exact ht)
 simp only[List.length_cons,List.length_nil]at hn9;obtain ⟨ba,oa,k2,Al2,BO,cl2,Ar2,nr2,cr2,op2,p2,q2,A2,n2,c2,bj,hbj,hA,hba,d0,d1,d2,d3,d4,d5,d6,hrec⟩:=hkk 0 (by omega);simp only[List.map_cons,List.map_nil,List.getElem?_cons_zero,Option.some.injEq]at hbj;subst hA;have HE:=Aa (show Cc vs (Nu.nums ivs) (.deny t)=(!bj) from by rw[Cc,hbj]);generalize Cc vs (Nu.nums ivs) (.deny t)=BB at *;have hn1:(0:Int)<(n:Int):=by omega
 simp only[Nat.zero_mul,Nat.add_zero]at d0 d1 d2 d3 d4 d5 d6;have HR1:=Aa hrec;clear hl hr hk h hS hvs x1 hb hkk hbj hrec hn9;go_enter Tryz.func23,Tryz.ntmps23;go_upto_region 19 with fail;rw[<-hW1];clear hW1;go_wp2_with fail;refine (HR1.out W1 (Below.refl _ _)).mono ?_;rintro e w2 ⟨rfl,b2⟩;have HB2:=Aa (HB.out.next b2);have HF:=Aa (show Av BB w0 (.returned (.bool (!bj))) w2 from ⟨by rw[HE.out],HB2.out⟩);clear b2 HR1 d0 d1 d2 d3 d4 d5 d6 g0 g1 g2 g3 g4 g5 g6;go_wp2_with fail
 go_ret
 exact HF.out
theorem Oa {V:Option Addr} {mv dv:Nat} {vs:List ByteArray} {VA:Option Addr} {vn vc:Nat} {ivs:List Nu.IV} (a b:Tr) (ha:DI V mv dv vs VA vn vc ivs a) (hb2:DI V mv dv vs VA vn vc ivs b):DI V mv dv vs VA vn vc ivs (.both a b):=by
 intro S cs w0 h hS hm hvs hvn;obtain ⟨kd,Al,nl,cl,Ar,nr,cr,op,p,q,A,n,c,rfl⟩:=h.shape;obtain ⟨l',r',ks,e,hl,hr,hk,hl1,hl2,hr1,hr2,hn1,hn2,hkid⟩:=h.parts;have e:GT.mk 4 [] [] 0 ⟨#[]⟩ ⟨#[]⟩ [gt a,gt b]=GT.mk kd l' r' op p q ks:=e;injection e with e1 e2 e3 e4 e5 e6 e7
 subst e1 e2 e3 e4 e5 e6 e7;clear hkid;obtain ⟨x1,hb,hsz⟩:=Ap 33 w0 #[.int .i64 4,.slice Al nl cl,.slice Ar nr cr,.int .i64 0,.string ⟨#[]⟩,.string ⟨#[]⟩,.slice A n c];have HB:=Aa hb;have X1:=Aa x1;have g0:=x1.cell 0 _ rfl;have g1:=x1.cell 1 _ rfl;have g2:=x1.cell 2 _ rfl;have g3:=x1.cell 3 _ rfl;have g4:=x1.cell 4 _ rfl;have g5:=x1.cell 5 _ rfl;have g6:=x1.cell 6 _ rfl
 obtain ⟨W1,hW1⟩:∃W1,W1=w0.alloc (.cells #[.int .i64 4,.slice Al nl cl,.slice Ar nr cr,.int .i64 0,.string ⟨#[]⟩,.string ⟨#[]⟩,.slice A n c] 33):=⟨_,rfl⟩;rw[<-hW1]at g0 g1 g2 g3 g4 g5 g6 HB X1 hb;obtain ⟨hn9,hkk⟩:=P3 (us:=[a,b]) (dv:=dv) (vc:=vc) h hS hm hvs hvn hb (by intro u hu;simp only[List.mem_cons,List.not_mem_nil,or_false]at hu;rcases hu with rfl|rfl<;>first|exact ha|exact hb2)
 simp only[List.length_cons,List.length_nil]at hn9;obtain ⟨ba,oa,k2,Al2,BO,cl2,Ar2,nr2,cr2,op2,p2,q2,A2,n2,c2,bj,hbj,hA,hba,d0,d1,d2,d3,d4,d5,d6,hrec⟩:=hkk 0 (by omega);simp only[List.map_cons,List.map_nil,List.getElem?_cons_zero,Option.some.injEq]at hbj;obtain ⟨ba',oa',k3,Al3,VN,cl3,Ar3,nr3,cr3,op3,p3,q3,A3,n3,c3,bi,hbi,hA',hba',f0,f1,f2,f3,f4,f5,f6,hrec'⟩:=hkk 1 (by omega)
 simp only[List.map_cons,List.map_nil,List.getElem?_cons_zero,List.getElem?_cons_succ,Option.some.injEq]at hbi;rw[hA]at hA';injection hA' with hA'
 injection hA' with hA1 hA2
 subst hA1 hA2;subst hA;have HE:=Aa (show Cc vs (Nu.nums ivs) (.both a b)=(bj&&bi) from by rw[Cc,hbj,hbi]);generalize Cc vs (Nu.nums ivs) (.both a b)=BB at *;have hn1:(0:Int)<(n:Int):=by omega
 have hn2:(1:Int)<(n:Int):=by omega
 simp only[Nat.zero_mul,Nat.add_zero,Nat.one_mul]at d0 d1 d2 d3 d4 d5 d6 f0 f1 f2 f3 f4 f5 f6;have HR1:=Aa hrec;have HR2:=Aa hrec';clear hl hr hk h hS hvs x1 hb hkk hbj hrec hbi hrec' hn9;go_enter Tryz.func23,Tryz.ntmps23;go_upto_region 21 with fail;rw[<-hW1];clear hW1;go_wp2_with fail;refine (HR1.out W1 (Below.refl _ _)).mono ?_;rintro e w2 ⟨rfl,b2⟩;have HB2:=Aa (HB.out.next b2);have X2:=X1.out.next b2;have HK2:=Aa (HR2.out w2 b2);have f0:=(Af b2 hba').trans f0
 have f1:=(Af b2 hba').trans f1;have f2:=(Af b2 hba').trans f2;have f3:=(Af b2 hba').trans f3;have f4:=(Af b2 hba').trans f4;have f5:=(Af b2 hba').trans f5;have f6:=(Af b2 hba').trans f6;clear g0 g1 g2 g3 g4 g5 g6 d0 d1 d2 d3 d4 d5 d6;have g6:=X2.cell 6 _ rfl;clear b2 X2 HR1 HR2;cases bj with
 |false=>
  have HF:=Aa (show Av BB w0 (.returned (.bool false)) w2 from ⟨by rw[HE.out];rfl,HB2.out⟩);clear f0 f1 f2 f3 f4 f5 f6;go_wp2_with fail;go_ret
  exact HF.out
 |true=>
  go_wp2_with fail;refine HK2.out.mono ?_;rintro e w3 ⟨rfl,b3⟩;have HF:=Aa (show Av BB w0 (.returned (.bool bi)) w3 from ⟨by rw[HE.out];rfl,HB2.out.next b3⟩);clear f0 f1 f2 f3 f4 f5 f6 b3;go_wp2_with fail;go_ret
  exact HF.out
theorem P5 {V:Option Addr} {mv dv:Nat} {vs:List ByteArray} {VA:Option Addr} {vn vc:Nat} {ivs:List Nu.IV} (a b:Tr) (ha:DI V mv dv vs VA vn vc ivs a) (hb2:DI V mv dv vs VA vn vc ivs b):DI V mv dv vs VA vn vc ivs (.any a b):=by
 intro S cs w0 h hS hm hvs hvn;obtain ⟨kd,Al,nl,cl,Ar,nr,cr,op,p,q,A,n,c,rfl⟩:=h.shape;obtain ⟨l',r',ks,e,hl,hr,hk,hl1,hl2,hr1,hr2,hn1,hn2,hkid⟩:=h.parts;have e:GT.mk 5 [] [] 0 ⟨#[]⟩ ⟨#[]⟩ [gt a,gt b]=GT.mk kd l' r' op p q ks:=e;injection e with e1 e2 e3 e4 e5 e6 e7
 subst e1 e2 e3 e4 e5 e6 e7;clear hkid;obtain ⟨x1,hb,hsz⟩:=Ap 33 w0 #[.int .i64 5,.slice Al nl cl,.slice Ar nr cr,.int .i64 0,.string ⟨#[]⟩,.string ⟨#[]⟩,.slice A n c];have HB:=Aa hb;have X1:=Aa x1;have g0:=x1.cell 0 _ rfl;have g1:=x1.cell 1 _ rfl;have g2:=x1.cell 2 _ rfl;have g3:=x1.cell 3 _ rfl;have g4:=x1.cell 4 _ rfl;have g5:=x1.cell 5 _ rfl;have g6:=x1.cell 6 _ rfl
 obtain ⟨W1,hW1⟩:∃W1,W1=w0.alloc (.cells #[.int .i64 5,.slice Al nl cl,.slice Ar nr cr,.int .i64 0,.string ⟨#[]⟩,.string ⟨#[]⟩,.slice A n c] 33):=⟨_,rfl⟩;rw[<-hW1]at g0 g1 g2 g3 g4 g5 g6 HB X1 hb;obtain ⟨hn9,hkk⟩:=P3 (us:=[a,b]) (dv:=dv) (vc:=vc) h hS hm hvs hvn hb (by intro u hu;simp only[List.mem_cons,List.not_mem_nil,or_false]at hu;rcases hu with rfl|rfl<;>first|exact ha|exact hb2)
 simp only[List.length_cons,List.length_nil]at hn9;obtain ⟨ba,oa,k2,Al2,BO,cl2,Ar2,nr2,cr2,op2,p2,q2,A2,n2,c2,bj,hbj,hA,hba,d0,d1,d2,d3,d4,d5,d6,hrec⟩:=hkk 0 (by omega);simp only[List.map_cons,List.map_nil,List.getElem?_cons_zero,Option.some.injEq]at hbj;obtain ⟨ba',oa',k3,Al3,VN,cl3,Ar3,nr3,cr3,op3,p3,q3,A3,n3,c3,bi,hbi,hA',hba',f0,f1,f2,f3,f4,f5,f6,hrec'⟩:=hkk 1 (by omega)
 simp only[List.map_cons,List.map_nil,List.getElem?_cons_zero,List.getElem?_cons_succ,Option.some.injEq]at hbi;rw[hA]at hA';injection hA' with hA'
 injection hA' with hA1 hA2
 subst hA1 hA2;subst hA;have HE:=Aa (show Cc vs (Nu.nums ivs) (.any a b)=(bj || bi) from by rw[Cc,hbj,hbi]);generalize Cc vs (Nu.nums ivs) (.any a b)=BB at *;have hn1:(0:Int)<(n:Int):=by omega
 have hn2:(1:Int)<(n:Int):=by omega
 simp only[Nat.zero_mul,Nat.add_zero,Nat.one_mul]at d0 d1 d2 d3 d4 d5 d6 f0 f1 f2 f3 f4 f5 f6;have HR1:=Aa hrec;have HR2:=Aa hrec';clear hl hr hk h hS hvs x1 hb hkk hbj hrec hbi hrec' hn9;go_enter Tryz.func23,Tryz.ntmps23;go_upto_region 23 with fail;rw[<-hW1];clear hW1;go_wp2_with fail;refine (HR1.out W1 (Below.refl _ _)).mono ?_;rintro e w2 ⟨rfl,b2⟩;have HB2:=Aa (HB.out.next b2);have X2:=X1.out.next b2;have HK2:=Aa (HR2.out w2 b2);have f0:=(Af b2 hba').trans f0
 have f1:=(Af b2 hba').trans f1;have f2:=(Af b2 hba').trans f2;have f3:=(Af b2 hba').trans f3;have f4:=(Af b2 hba').trans f4;have f5:=(Af b2 hba').trans f5;have f6:=(Af b2 hba').trans f6;clear g0 g1 g2 g3 g4 g5 g6 d0 d1 d2 d3 d4 d5 d6;have g6:=X2.cell 6 _ rfl;clear b2 X2 HR1 HR2;cases bj with
 |true=>
  have HF:=Aa (show Av BB w0 (.returned (.bool true)) w2 from ⟨by rw[HE.out];rfl,HB2.out⟩);clear f0 f1 f2 f3 f4 f5 f6;go_wp2_with fail;go_ret
  exact HF.out
 |false=>
  go_wp2_with fail;refine HK2.out.mono ?_;rintro e w3 ⟨rfl,b3⟩;have HF:=Aa (show Av BB w0 (.returned (.bool bi)) w3 from ⟨by rw[HE.out];rfl,HB2.out.next b3⟩);clear f0 f1 f2 f3 f4 f5 f6 b3;go_wp2_with fail;go_ret
  exact HF.out
theorem VI {V:Option Addr} {mv dv:Nat} {vs:List ByteArray} {VA:Option Addr} {vn vc:Nat} {ivs:List Nu.IV} (u:Tr) (hf:KC u):DI V mv dv vs VA vn vc ivs u:=by
 induction u with
 |leaf b=>
  cases b
  · exact Mw
  · exact NY
 |cmp l o r=>exact P4 l r o hf
 |deny t ih=>exact NZ t (ih hf)
 |both a b iha ihb=>exact Oa a b (iha hf.1) (ihb hf.2)
 |any a b iha ihb=>exact P5 a b (iha hf.1) (ihb hf.2)
end
end Go.Proofs.YtgohmojcopajoaaGreatDoor
namespace Go.Proofs.YtgohmojcopajoaaGreatDoor.Nu
section
open Go.RowKit
structure RV where
 A:Option Addr
 n:Nat
 c:Nat
 s:Bool
 B:Option Addr
 m:Nat
 d:Nat
 f:Bool
 L:List (Int×Int)
 K:Int
def RV.cells (r:RV):List Value:=[.slice r.A r.n r.c,.bool r.s,.slice r.B r.m r.d,.bool r.f]
def RV.agg (r:RV):Value:=.agg #[.slice r.A r.n r.c,.bool r.s,.slice r.B r.m r.d,.bool r.f]
def RV.trm (r:RV):Value:=.agg #[.slice r.A r.n r.c,.bool r.s,.slice r.B r.m r.d]
def RV.rd (r:RV):List (Int×Int)×Int×Bool:=(r.L,r.K,r.f)
def Yo (rs:List RV):List Value:=(rs.map RV.cells).flatten
def U6 (w:World) (A:Option Addr) (n:Nat) (rs:List RV):Prop:=
 rs.length=n/\(0<n->∃b o,A=some ⟨b,o,none⟩/\∀j u,(Yo rs)[j]?=some u->w.cell? ⟨b,o+j,none⟩=some u)
def Zi (w:World) (A:Option Addr) (n:Nat) (rs:List RV) (k:Nat):Prop:=U6 w A n rs/\∀r∈rs,AW w r.trm r.L r.K k
def VJ (w:World) (A:Option Addr) (n:Nat) (rs:List RV) (k:Nat):Prop:=U6 w A n rs/\∀r∈rs,AP w r.trm r.L r.K k
def Yp (ds:List (List (Int×Int)×Int×Bool)) (k:Nat) (w:World) (en:Ending) (w':World):Prop:=
 ∃A c rs,en=.returned (.slice A ds.length c)/\VJ w' A ds.length rs k/\rs.map RV.rd=ds/\ds.length<=c/\c<=9223372036854775807/\Below w.heap.size w w'
def Yq (L:List (Int×Int)):List (Int×Int):=Tm.norm (L.map fun p=>(p.1,-1*p.2))
def ZZ (L:List (Int×Int)) (K:Int) (e:Bool):List (List (Int×Int)×Int×Bool):=
 if e then [(Tm.norm L,K-1,false),(Yq L,-K-1,false)] else [(Yq L,-K-1,false)]
end
section
open Go.RowKit
structure TV where
 A:Option Addr
 n:Nat
 c:Nat
 s:Bool
 B:Option Addr
 m:Nat
 d:Nat
 L:List (Int×Int)
 K:Int
def TV.cells (t:TV):List Value:=[.slice t.A t.n t.c,.bool t.s,.slice t.B t.m t.d]
def TV.agg (t:TV):Value:=.agg #[.slice t.A t.n t.c,.bool t.s,.slice t.B t.m t.d]
def Yr (ts:List TV):List Value:=(ts.map TV.cells).flatten
def YC (w:World) (A:Option Addr) (n:Nat) (ts:List TV) (k:Nat):Prop:=
 ts.length=n/\(0<n->∃b o,A=some ⟨b,o,none⟩/\∀j u,(Yr ts)[j]?=some u->w.cell? ⟨b,o+j,none⟩=some u)/\∀t∈ts,AW w t.agg t.L t.K k
theorem Cy.cut {w:World} {s:Bool} {A:Option Addr} {n c k j:Nat} {Z:Int} (h:Cy w (.agg #[.bool s,.slice A n c]) Z k) (hn:n<=j):Cy w (.agg #[.bool s,.slice A n c]) Z j:=by
 obtain ⟨s',A',n',c',xs,e,h1,h2,h3,h4,h5⟩:=h;injection e with e
 have e1:s'=s/\A'=A/\n'=n/\c'=c:=by simpa[eq_comm] using e
 obtain ⟨rfl,rfl,rfl,rfl⟩:=e1;exact ⟨_,_,_,_,xs,rfl,h1,h2,h3,hn,h5⟩
theorem Cy.bounds {w:World} {s:Bool} {A:Option Addr} {n c k:Nat} {Z:Int} (h:Cy w (.agg #[.bool s,.slice A n c]) Z k):n<=9223372036854775807:=by
 obtain ⟨s',A',n',c',xs,e,h1,h2,h3,h4,h5⟩:=h;injection e with e
 have e1:s'=s/\A'=A/\n'=n/\c'=c:=by simpa[eq_comm] using e
 obtain ⟨rfl,rfl,rfl,rfl⟩:=e1;omega
def Zj (w:World) (t:TV):Prop:=t.n<=30/\AW w t.agg t.L t.K 20
def YD (ts:List TV) (w:World) (e:Ending) (w':World):Prop:=∃r,e=.returned (.bool r)/\(r=true->∀t∈ts,Zj w t)/\Below w.heap.size w w'
end
end Go.Proofs.YtgohmojcopajoaaGreatDoor.Nu
namespace Go.Proofs.YtgohmojcopajoaaGreatDoor
section
open Go.ChangeShapes Go.WideShapes Go.ChangeAt Go.RowKit
open Go.ChangeMaps (open_string shut_string)
theorem own:ownKnob Tryz.prog.godebug=none:=by kernel_rfl
theorem laidOut:laidOutB Tryz.prog=true:=by kernel_rfl
theorem wf_u32 {z:Int} (h:(Lit.int .u32 z).wf=true):0<=z/\z<4294967296:=by have h1:IntKind.u32.min=0:=rfl;have h2:IntKind.u32.max=4294967295:=rfl;simp only[Lit.wf,Bool.and_eq_true,decide_eq_true_eq]at h;omega
theorem Sb {H:Type} {enc:TypeId×Value->H} {W:World} {a0:Option Addr} {len0 cap0:Nat} {d:DataW H} {p:List MemPlace}
   (h0:DataW.Trod enc Tryz.prog W 0 (fun _=>true) true 52 (.slice a0 len0 cap0) d p):∃xs,Nums W a0 len0 xs/\len0<=cap0/\cap0<=9223372036854775807:=by
 obtain ⟨fuel,hf⟩:=h0;rcases open_ints Tryz.underlying52 Tryz.underlying173 (by kernel_rfl) hf with ⟨hcs,_⟩|⟨x,l,c,zs,hcs,_,hl,hm,hz,_,hcell,hwz⟩
 · simp[Value.cells]at hcs;obtain ⟨rfl,rfl,rfl⟩:=hcs;exact ⟨[],Nums.nil _ _,by omega,by omega⟩
 · simp[Value.cells]at hcs;obtain ⟨rfl,rfl,rfl⟩:=hcs;have hz2:zs.length=cap0:=(by simpa using hz);unfold maxLen at hm;refine ⟨(zs.take len0).map Int.toNat,⟨by simp;omega,?_,?_⟩,hl,hm⟩
   · intro y hy;obtain ⟨z,hz1,rfl⟩:=List.mem_map.1 hy;have:=wf_u32 (hwz z (List.mem_of_mem_take hz1));omega
   · intro hn;have h1:=hcell 0 (by omega);obtain ⟨b,o,spot⟩:=x;have hspot:spot=none:=(by simpa[Addr.add] using World.cell?_spot h1);subst hspot;refine ⟨b,o,rfl,fun i hi=>?_⟩;have h2:=hcell i (by omega);have e:(⟨b,o,none⟩:Addr).add i=⟨b,o+i,none⟩:=by
      by_cases hi0:i=0
      · subst hi0;rfl
      · simp[Addr.add,hi0]
     rw[e]at h2;rw[h2];have hlt:i<zs.length:=(by omega);have hw:=wf_u32 (hwz zs[i] (List.getElem_mem hlt));have e1:zs.getD i 0=zs[i]:=(by rw[List.getD_eq_getElem?_getD,List.getElem?_eq_getElem hlt];rfl);have e2:((zs.take len0).map Int.toNat).getD i 0=zs[i].toNat:=by rw[List.getD_eq_getElem?_getD,List.getElem?_map,List.getElem?_take_of_lt hi,List.getElem?_eq_getElem hlt];rfl
     rw[e1,e2];congr 2
     omega
end
end Go.Proofs.YtgohmojcopajoaaGreatDoor
namespace Go.Proofs.YtgohmojcopajoaaGreatDoor.Nu
section
open Go.ChangeShapes Go.WideShapes Go.ChangeAt Go.RowKit
open Go.ChangeMaps (open_string shut_string)
theorem P6 {H:Type} {enc:TypeId×Value->H} {W:World} {v:Value} {x:DataW H×List MemPlace} {f:Nat}
   (hf:DataW.trod enc Tryz.prog W 0 (fun _=>true) true f 52 [v]=some x):∃a len cap xs,v=.slice a len cap/\Nums W a len xs/\len<=cap/\cap<=9223372036854775807:=by
 rcases open_ints Tryz.underlying52 Tryz.underlying173 (by kernel_rfl) hf with ⟨hcs,_⟩|⟨y,l,c,zs,hcs,_⟩
 · injection hcs with hcs
   subst hcs;exact ⟨none,0,0,[],rfl,Nums.nil _ _,by omega,by omega⟩
 · injection hcs with hcs
   subst hcs;obtain ⟨xs,h1,h2,h3⟩:=Sb (a0:=some y) (len0:=l) (cap0:=c) (d:=x.1) (p:=x.2) (W:=W) (enc:=enc) ⟨f,hf⟩;exact ⟨some y,l,c,xs,rfl,h1,h2,h3⟩
end
section
open Go.ChangeShapes Go.WideShapes Go.ChangeAt Go.RowKit Go.Deep
theorem Ob:Tryz.prog.cellsOf 54=2:=by kernel_rfl
theorem Sc:Tryz.prog.cellsOf 4=1:=by kernel_rfl
theorem U7:Tryz.prog.cellsOf 52=1:=by kernel_rfl
def big:Nat:=9223372036854775807
section
variable {H:Type} {enc:TypeId×Value->H} {W:World} {f:Nat} {x:DataW H×List MemPlace} {cs:List Value}
theorem Ka (h:DataW.trod enc Tryz.prog W 0 (fun _=>true) true f 54 cs=some x):∃s a len cap Z,cs=[.bool s,.slice a len cap]/\Cy W (.agg #[.bool s,.slice a len cap]) Z big:=by
 obtain ⟨y0,y1,n,-,hl,h0,h1⟩:=trod_struct2 Tryz.underlying54 h;rw[Ob]at hl;match cs,hl with
 |[v0,v1],_=>
  have g0:DataW.trod enc Tryz.prog W 0 (fun _=>true) true n 4 (([v0,v1].drop 0).take (Tryz.prog.cellsOf 4))=some y0:=h0;have g1:DataW.trod enc Tryz.prog W 0 (fun _=>true) true n 52 (([v0,v1].drop 1).take (Tryz.prog.cellsOf 52))=some y1:=h1;rw[Sc]at g0;rw[U7]at g1;obtain ⟨s,e0,-⟩:=DataW.trod_bool Tryz.underlying4 g0;injection e0 with e0
  subst e0;obtain ⟨a,len,cap,xs,rfl,h1,h2,h3⟩:=P6 g1;exact ⟨s,a,len,cap,_,rfl,s,a,len,cap,xs,rfl,h1,h2,h3,by unfold big;omega,rfl⟩
instance pvSome:Inhabited PV:=⟨⟨0,false,none,0,0,0⟩⟩
end
end
end Go.Proofs.YtgohmojcopajoaaGreatDoor.Nu
