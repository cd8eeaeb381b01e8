/- Texts of one seat, put together: RValue ExprHo. -/
import Derived.Test.YtgohmojcopajoaaGreatDoorH29
import Derived.Test.YtgohmojcopajoaaGreatDoorH28
import Derived.Test.YtgohmojcopajoaaGreatDoorH13
import Derived.Test.YtgohmojcopajoaaGreatDoorH39
import Derived.Test.YtgohmojcopajoaaGreatDoorH37
import Derived.Test.YtgohmojcopajoaaGreatDoorH21
set_option linter.unusedVariables false
set_option linter.unusedSimpArgs false
set_option maxRecDepth 100000
set_option maxHeartbeats 16000000
namespace Go.Proofs.YtgohmojcopajoaaGreatDoor.Nu
section
open Go.RowKit
open Tm
def vf (L:List (Int×Int)) (us:List Int):Nat->Int:=fun i=>AH L i*us.getD i 0
def Mv (w0 W1:World) (Z:Int) (j:Nat) (wr:World):Prop:=
 ∃s A n c,CE wr (w0.heap.size+1+1) #[.bool s,.slice A n c]/\Cy wr (.agg #[.bool s,.slice A n c]) Z j/\Below (w0.heap.size+1+1) W1 wr
theorem P0 (v:Value) (L:List (Int×Int)) (K:Int) (k kj:Nat) (VA:Option Addr) (vn vc:Nat) (ivs:List IV) (w0:World) (hv:AW w0 v L K k) (hvs:CJ w0 VA vn ivs kj) (hvn:vn<=1000) (hle:L.length<=1099511) (hk:k<=100000) (hkj:kj<=100000) :
  Calls Tryz.prog 76 #[v,.slice VA vn vc] w0 (Do (K+val (nums ivs) L) (k+L.length+kj+vn) w0):=by
 have hv0:=hv;obtain ⟨A,n,c,s,B,m,d,rfl,hp,hc1,hc2,hK⟩:=hv;obtain ⟨z0,z1,z2,z3,z4⟩:=Cm 56 54 54 w0 #[.slice A n c,.bool s,.slice B m d] #[.bool false,.slice none 0 0] #[.bool s,.slice B m d];have y1:=(Am.new 56 w0 #[.slice A n c,.bool s,.slice B m d]).alloc (.cells #[.bool false,.slice none 0 0] 54);have x1:=y1.c1;have x2:=y1.c2;have HUS:=Aa (show (nums ivs).length=vn by unfold nums;rw[List.length_map];exact hvs.1);obtain ⟨us,hus⟩:∃us,us=nums ivs:=⟨_,rfl⟩;rw[<-hus]at HUS ⊢
 have HU:=Aa hus;clear hus;go_enter Tryz.func76,Tryz.ntmps76;go_wp2_with fail;generalize hW1:(((w0.alloc (.cells #[.slice A n c,.bool s,.slice B m d] 56)).alloc (.cells #[.bool false,.slice none 0 0] 54)).alloc (.cells #[.bool s,.slice B m d] 54))=W1 at *;clear hW1 x1 x2 y1;have HS:=Aa (show Mv w0 W1 (K+CX (vf L us) 0) (k+L.length+kj+0) W1 from ⟨s,B,m,d,z2,by rw[show K+CX (vf L us) 0=K from Int.add_zero K];exact (hK.below z3).mono (by omega),Below.refl _ _⟩);have R0:=Aa z1
 have T0:=Aa z3;have HZ4:=Aa z4;have Z0:=Aa z0;have HV0:=Aa hv0;have HVS:=Aa hvs;clear z0 z1 z2 z3 z4 hp hK hv0 hvs;go_loopw [6] (fun i wr=>∃q:Nat,q<=vn/\i=.int .i64 q/\Hid (Mv w0 W1 (K+CX (vf L us) q) (k+L.length+kj+q) wr)) (fun i _=>vn-(intOf i).toNat)
 case atStart=>exact ⟨0,Nat.zero_le _,rfl,HS⟩
 case round=>
  obtain ⟨q,hq,rfl,HR⟩:=hrel;obtain ⟨s5,A5,n5,c5,b5,zz5,hB⟩:=HR.out;have hBW:w0.heap.size+1+1<=W1.heap.size:=by have:=HZ4.out;omega
  have zt:=Z0.out.below hB (by omega);have hT:Below w0.heap.size w0 wr:=T0.out.trans (hB.mono (by omega));by_cases hqn:q<vn
  · obtain ⟨vb,vo,p,rfl,hiv,e0,e1,hz⟩:=(HVS.out.below hT).at_ hqn;rw[Nat.mul_comm 2 q]at e0 e1;rw[<-Nat.add_assoc]at e1;have hlt:=World.block_lt_of_cell? wr _ e0;have HC:=Aa (show K+CX (vf L us) q+AH L (q:Int)*p.Z=K+CX (vf L us) (q+1) by
      have h1:us.getD q 0=p.Z:=(by rw[HU.out,List.getD_eq_getElem?_getD];unfold nums;rw[List.getElem?_map,hiv];rfl);show K+CX (vf L us) q+_=K+(CX (vf L us) q+AH L q*us.getD q 0);rw[h1,Int.add_assoc])
    have HZ:=Aa hz;have HZ5:=Aa zz5;have HB5:=Aa b5;have HZT:=Aa zt;have HBB:=Aa hB;have HTT:=Aa hT;have HV:=Aa (HV0.out.below hT)
    have SOF:=Aa (show ∀W,Below wr.heap.size wr W->(W.cell? ⟨w0.heap.size+1+1,0,none⟩=some (.bool s5)/\W.cell? ⟨w0.heap.size+1+1,1,none⟩=some (.slice A5 n5 c5)/\W.cell? ⟨w0.heap.size,0,none⟩=some (.slice A n c)/\W.cell? ⟨w0.heap.size,1,none⟩=some (.bool s)/\W.cell? ⟨w0.heap.size,2,none⟩=some (.slice B m d)/\W.cell? ⟨vb,vo+q*2,none⟩=some (.bool p.s)/\W.cell? ⟨vb,vo+q*2+1,none⟩=some (.slice p.B p.m p.d)) from fun W h=>⟨CE.c0 (HB5.out.next h),CE.c1 (HB5.out.next h),(HZT.out.next h).c0,(HZT.out.next h).c1,(HZT.out.next h).c2,(h.cell (p:=⟨vb,vo+q*2,none⟩) hlt).trans e0,(h.cell (p:=⟨vb,vo+q*2+1,none⟩) hlt).trans e1⟩)
    clear zz5 hiv hz zt b5 hB hT HR e0 e1;go_wp2_with fail
    refine BI (by kernel_rfl) (by kernel_rfl) (by kernel_rfl) (by kernel_rfl) (fun w w'=>Below w.heap.size w w') (fun j v w=>match j with|0=>v=.agg #[.bool s5,.slice A5 n5 c5]|1=>v=.agg #[.slice A n c,.bool s,.slice B m d]|2=>v=.int .i64 (q:Int)|3=>AL w v (AH L (q:Int)) (k+L.length)|4=>v=.slice (some ⟨vb,vo,none⟩) vn vc|5=>v=.int .i64 (q:Int)|6=>v=.pointer (some ⟨vb,vo+q*2,none⟩)|7=>v=.agg #[.bool p.s,.slice p.B p.m p.d]|8=>AL w v (AH L (q:Int)*p.Z) (k+L.length+kj)|9=>AL w v (K+CX (vf L us) q+AH L (q:Int)*p.Z) (k+L.length+kj+q+1)|_=>True) (fun _ _ w=>Below wr.heap.size wr w) ?_ (fun _=>Ao wr 1) ?_ ?_
    · intro j v w w' hT h;match j,h with
      |0,h=>exact h
      |1,h=>exact h
      |2,h=>exact h
      |3,h=>exact h.below hT
      |4,h=>exact h
      |5,h=>exact h
      |6,h=>exact h
      |7,h=>exact h
      |8,h=>exact h.below hT
      |9,h=>exact h.below hT
      |j+10,h=>trivial
    · refine ⟨?_,?_,?_,?_,?_,?_,?_,?_,?_,?_,trivial⟩
      · intro listed σ w a hin hout hl hla hs hc hp hG hF;refine Ac.none rfl ?_;have e5:a.tmps.getD 5 undef=.pointer (some ⟨w0.heap.size+1+1,0,none⟩):=hout 5 (Ag (by kernel_rfl));have CC:=SOF.out w hG;obtain ⟨C0,C1,D0,D1,D2,E0,E1⟩:=CC;refine Does.val (.agg #[.bool s5,.slice A5 n5 c5]) (w':=w) ?_ ⟨Below.refl _ _,rfl,hG⟩;go_simp
      · intro listed σ w a hin hout hl hla hs hc hp hG hF;refine Ac.none rfl ?_;have e2:a.tmps.getD 2 undef=.pointer (some ⟨w0.heap.size,0,none⟩):=hout 2 (Ag (by kernel_rfl));have CC:=SOF.out w hG;obtain ⟨C0,C1,D0,D1,D2,E0,E1⟩:=CC;refine Does.val (.agg #[.slice A n c,.bool s,.slice B m d]) (w':=w) ?_ ⟨Below.refl _ _,rfl,hG⟩;go_simp
      · intro listed σ w a hin hout hl hla hs hc hp hG hF;refine Ac.none rfl ?_;have e6:a.tmps.getD 6 undef=.int .i64 (q:Int):=hout 6 (Ag (by kernel_rfl));refine Does.val (.int .i64 (q:Int)) (w':=w) ?_ ⟨Below.refl _ _,rfl,hG⟩;simp only[Array.getD_eq_getD_getElem?]at e6;go_simp
      · intro listed σ w a hin hout hl hla hs hc hp hG hF;refine Ac.none rfl ?_;have e16:a.tmps.getD 16 undef=.agg #[.slice A n c,.bool s,.slice B m d]:=(hin 1 16 rfl (hp ⟨1,.data⟩ (by simp) rfl)).trans (hF 1 (hp ⟨1,.data⟩ (by simp) rfl));have e17:a.tmps.getD 17 undef=.int .i64 (q:Int):=(hin 2 17 rfl (hp ⟨2,.data⟩ (by simp) rfl)).trans (hF 2 (hp ⟨2,.data⟩ (by simp) rfl));refine Does.call ?_ (Rq _ L K (q:Int) k w (HV.out.below hG) hle (by omega)) ?_
        · go_simp
        · rintro e w' ⟨v,rfl,z,hb⟩;exact ⟨_,rfl,hb,z,hG.next hb⟩
      · intro listed σ w a hin hout hl hla hs hc hp hG hF;refine Ac.none rfl ?_;have e1:a.tmps.getD 1 undef=.slice (some ⟨vb,vo,none⟩) vn vc:=hout 1 (Ag (by kernel_rfl));refine Does.val (.slice (some ⟨vb,vo,none⟩) vn vc) (w':=w) ?_ ⟨Below.refl _ _,rfl,hG⟩;simp only[Array.getD_eq_getD_getElem?]at e1;go_simp
      · intro listed σ w a hin hout hl hla hs hc hp hG hF;refine Ac.none rfl ?_;have e6:a.tmps.getD 6 undef=.int .i64 (q:Int):=hout 6 (Ag (by kernel_rfl));refine Does.val (.int .i64 (q:Int)) (w':=w) ?_ ⟨Below.refl _ _,rfl,hG⟩;simp only[Array.getD_eq_getD_getElem?]at e6;go_simp
      · intro listed σ w a hin hout hl hla hs hc hp hG hF;refine Ac.none rfl ?_;have e19:a.tmps.getD 19 undef=.slice (some ⟨vb,vo,none⟩) vn vc:=(hin 4 19 rfl (hp ⟨4,.data⟩ (by simp) rfl)).trans (hF 4 (hp ⟨4,.data⟩ (by simp) rfl));have e20:a.tmps.getD 20 undef=.int .i64 (q:Int):=(hin 5 20 rfl (hp ⟨5,.data⟩ (by simp) rfl)).trans (hF 5 (hp ⟨5,.data⟩ (by simp) rfl));refine Does.val (.pointer (some ⟨vb,vo+q*2,none⟩)) (w':=w) ?_ ⟨Below.refl _ _,rfl,hG⟩
        simp only[Array.getD_eq_getD_getElem?]at e19 e20;go_simp;(try (intro hh;exfalso;omega))
      · intro listed σ w a hin hout hl hla hs hc hp hG hF;refine Ac.none rfl ?_;have e21:a.tmps.getD 21 undef=.pointer (some ⟨vb,vo+q*2,none⟩):=(hin 6 21 rfl (hp ⟨6,.data⟩ (by simp) rfl)).trans (hF 6 (hp ⟨6,.data⟩ (by simp) rfl));have CC:=SOF.out w hG;obtain ⟨C0,C1,D0,D1,D2,E0,E1⟩:=CC;refine Does.val (.agg #[.bool p.s,.slice p.B p.m p.d]) (w':=w) ?_ ⟨Below.refl _ _,rfl,hG⟩;go_simp
      · intro listed σ w a hin hout hl hla hs hc hp hG hF;refine Ac.none rfl ?_;have e18:=hin 3 18 rfl (hp ⟨3,.data⟩ (by simp) rfl);have z3:=hF 3 (hp ⟨3,.data⟩ (by simp) rfl);have e22:a.tmps.getD 22 undef=.agg #[.bool p.s,.slice p.B p.m p.d]:=(hin 7 22 rfl (hp ⟨7,.data⟩ (by simp) rfl)).trans (hF 7 (hp ⟨7,.data⟩ (by simp) rfl))
        refine Does.call ?_ (Qa _ (.agg #[.bool p.s,.slice p.B p.m p.d]) _ p.Z (k+L.length) kj w z3.in_ (show Cy w (.agg #[.bool p.s,.slice p.B p.m p.d]) p.Z kj from HZ.out.below hG) (by omega) (by omega)) ?_
        · go_simp
        · rintro e w' ⟨v,rfl,z,hb⟩;exact ⟨_,rfl,hb,z,hG.next hb⟩
      · intro listed σ w a hin hout hl hla hs hc hp hG hF;refine Ac.none rfl ?_;have e15:a.tmps.getD 15 undef=.agg #[.bool s5,.slice A5 n5 c5]:=(hin 0 15 rfl (hp ⟨0,.data⟩ (by simp) rfl)).trans (hF 0 (hp ⟨0,.data⟩ (by simp) rfl));have e23:=hin 8 23 rfl (hp ⟨8,.data⟩ (by simp) rfl);have z8:=hF 8 (hp ⟨8,.data⟩ (by simp) rfl);refine Does.call ?_ (Hr _ _ _ _ (k+L.length+kj+q) w (HZ5.out.below hG) (z8.in_.mono (by omega)) (by omega)) ?_
        · go_simp
        · rintro e w' ⟨v,rfl,z,hb⟩;exact ⟨_,rfl,hb,z,hG.next hb⟩
    · intro o ho;injection ho with ho;subst ho
      intro listed σ w a hall hin hout hG hF;refine Ac.none rfl ?_;have e5:a.tmps.getD 5 undef=.pointer (some ⟨w0.heap.size+1+1,0,none⟩):=hout 5 (MI (by kernel_rfl));have e24:=hin 9 24 rfl (by decide);have z9:=hF 9 (by decide);obtain ⟨s8,A8,n8,c8,ev8⟩:=AL.form z9;rw[ev8]at e24 z9;have HX:=Aa (HB5.out.next hG);refine Does.store_box (T:=54) (cells:=#[.bool s8,.slice A8 n8 c8]) rfl e5 e24 (CE.box HX.out) (by kernel_rfl) rfl (by simp[Value.oneCell']) (fun w2 x9 o9=>?_)
      rw[show IW _ σ undef _=(Act.put (Act.put (Act.put (Act.put (Act.put (Act.put (Act.put (Act.put (Act.put (Act.put (Act.put _ (some 15) (σ 0)) (some 16) (σ 1)) (some 17) (σ 2)) (some 18) (σ 3)) (some 19) (σ 4)) (some 20) (σ 5)) (some 21) (σ 6)) (some 22) (σ 7)) (some 23) (σ 8)) (some 24) (σ 9)) none undef) from (CL hall).trans rfl];simp only[Act.put,List.setIfInBounds_toArray,List.set_cons_zero,List.set_cons_succ]
      have HE:=Aa (show Mv w0 W1 (K+CX (vf L us) (q+1)) (k+L.length+kj+(q+1)) w2 from ⟨s8,A8,n8,c8,x9,by rw[<-HC.out];exact (z9.only HX.out o9).in_,(HBB.out.trans (hG.mono (Nat.le_trans hBW HBB.out.size))).trans (o9.below (Nat.le_trans hBW (Nat.le_trans HBB.out.size hG.size)) (Nat.le_refl _))⟩)
      generalize σ 0=tt0 at *;generalize σ 1=tt1 at *;generalize σ 2=tt2 at *;generalize σ 3=tt3 at *;generalize σ 4=tt4 at *;generalize σ 5=tt5 at *;generalize σ 6=tt6 at *;generalize σ 7=tt7 at *;generalize σ 8=tt8 at *;generalize σ 9=tt9 at *;clear hF hG hall hin hout SOF z9 x9 o9 e5 e24 ev8;go_wp2_with fail;go_roundw
      case rel=>exact ⟨q+1,by omega,by go_num,HE⟩
      case measure=>simp[intOf]<;>omega
  · obtain rfl:q=vn:=(by omega);have HL:=Aa (show K+CX (vf L us) q=K+val us L by rw[TE,HUS.out];rfl);have b50:=CE.c0 b5;have b51:=CE.c1 b5;have hcl:=Vh _ _ _ wr zz5 (by omega);have k1:CE wr (w0.heap.size+1) #[.bool false,.slice none 0 0]:=Am.below R0.out hB (by omega);have HT:=Aa hT;have K1:=Aa k1;clear zz5 b5 HR hT k1;go_wp2_with fail;refine hcl.mono ?_;rintro en w5 ⟨v5,rfl,r5,b5⟩;obtain ⟨s6,A6,n6,c6,rfl⟩:=r5.form;have k5:=K1.out.next b5
    go_wp2_with (with_reducible refine Aj rfl _ _ rfl (w0.heap.size+1) _ _ _ _ rfl rfl _ _ k5 ?_;intro w3 k3 ho3);refine Au rfl rfl k3 rfl ?_;refine ⟨_,rfl,?_,Bg (HT.out.next b5) (by omega) ho3⟩;rw[<-HL.out];exact r5.only k5 ho3
theorem P2 (v:Value) (L:List (Int×Int)) (K:Int) (e:Bool) (k kj:Nat) (VA:Option Addr) (vn vc:Nat) (ivs:List IV) (w0:World) (hv:Sj w0 v L K e k) (hvs:CJ w0 VA vn ivs kj) (hvn:vn<=1000) (hle:L.length<=1099511) (hk:k<=100000) (hkj:kj<=100000) :
   Calls Tryz.prog 45 #[v,.slice VA vn vc] w0 (fun en w'=>en=.returned (.bool (E4 e (K+val (nums ivs) L)))/\Below w0.heap.size w0 w'):=by
 obtain ⟨A,n,c,s,B,m,d,rfl,ht⟩:=hv;obtain ⟨z0,z1,-⟩:=Ap 58 w0 #[.slice A n c,.bool s,.slice B m d,.bool e];have x0:=z0.r0;have x1:=z0.r1;have x2:=z0.r2;have hva:=P0 _ L K k kj VA vn vc ivs _ (ht.below z1) (hvs.below z1) hvn hle hk hkj;generalize hZ:K+val (nums ivs) L=Z at hva ⊢;clear hZ;go_enter Tryz.func45,Tryz.ntmps45;go_wp2_with fail;refine hva.mono ?_;rintro en w1 ⟨v1,rfl,r1,b1⟩;have hsg:=Bz v1 Z _ w1 r1.in_ (by omega);have Q1:=Aa (z0.next b1);have T1:=Aa (z1.next b1)
 clear hva x0 x1 x2 z0 z1 r1 b1;go_wp2_with fail;refine hsg.mono ?_;rintro en w2 ⟨rfl,b2⟩;have x3:=(Q1.out.next b2).r3;have T2:=T1.out.next b2;clear hsg;rcases Int.lt_trichotomy Z 0 with h|h|h
 · have h1:Z.sign=-1:=Int.sign_eq_neg_one_of_neg h;rw[h1];have HE:=Aa (show E4 e Z=false by
    unfold E4;have a1:¬Z=0:=(by omega);have a2:¬0<=Z:=(by omega);cases e<;>simp[a1,a2])
   clear h h1;cases e<;>(go_wp2_with fail;go_ret;exact ⟨by rw[HE.out]<;>rfl,T2⟩)
 · subst h;have HE:=Aa (show E4 e 0=true by unfold E4;cases e<;>simp)
   rw[Int.sign_zero];cases e<;>(go_wp2_with fail;go_ret;exact ⟨by rw[HE.out]<;>rfl,T2⟩)
 · have h1:Z.sign=1:=Int.sign_eq_one_of_pos h;rw[h1];have HE:=Aa (show E4 e Z=!e by
    unfold E4;have a1:¬Z=0:=(by omega);have a2:0<=Z:=(by omega);cases e<;>simp[a1,a2])
   clear h h1;cases e<;>(go_wp2_with fail;go_ret;exact ⟨by rw[HE.out]<;>rfl,T2⟩)
end
end Go.Proofs.YtgohmojcopajoaaGreatDoor.Nu
namespace Go.Proofs.YtgohmojcopajoaaGreatDoor
section
open Go.RowKit
open Lx Ex
theorem NW {S:Nat->Prop} {W0:World} {t:Fm} {vs:List Value} (VA:Option Addr) (vn vc:Nat) (ivs:List Nu.IV) (kj:Nat) (hvn:vn<=1000) (hkj:kj<=100000) (h1:BN S W0 t vs):∀(w0:World),Below W0.heap.size W0 w0->Nu.CJ W0 VA vn ivs kj->Calls Tryz.prog 22 #[.agg vs.toArray,.slice VA vn vc] w0 (Av (Bf (Nu.nums ivs) t) w0):=by
 induction h1 with
 |mk kd L K e kids A n c s B m d C p q b o cs g1 g2 g3 g4 g5 g6 g7 g8 ih=>
  intro w0 hb0 hvs;show Calls _ _ #[.agg #[.int .i64 kd,.slice A n c,.bool s,.slice B m d,.bool e,.slice C p q],.slice VA vn vc] w0 _;obtain ⟨x1,hb,-⟩:=Ap 61 w0 #[.int .i64 kd,.slice A n c,.bool s,.slice B m d,.bool e,.slice C p q];have HB:=Aa hb;have X1:=Aa x1;have G6:=Aa g6;have HN:=Aa g3
  have HRH:=Aa (fun W (h:Below w0.heap.size w0 W)=>Nu.P2 (.agg #[.slice A n c,.bool s,.slice B m d,.bool e]) L K e 30000 kj VA vn vc ivs W ⟨A,n,c,s,B,m,d,rfl,g1.below (hb0.next h)⟩ (hvs.below (hb0.next h)) hvn (by omega) (by decide) hkj)
  have HSTEP:=Aa (show ∀j,j<p->∃(u:Fm) (k2:Int) (A2:Option Addr) (n2 c2:Nat) (s2:Bool) (B2:Option Addr) (m2 d2:Nat) (e2:Bool) (C2:Option Addr) (p2 q2:Nat),kids[j]?=some u/\(∀W,Below w0.heap.size w0 W->W.cell? ⟨b,o+j*6,none⟩=some (.int .i64 k2)/\W.cell? ⟨b,o+j*6+1,none⟩=some (.slice A2 n2 c2)/\W.cell? ⟨b,o+j*6+2,none⟩=some (.bool s2)/\W.cell? ⟨b,o+j*6+3,none⟩=some (.slice B2 m2 d2)/\W.cell? ⟨b,o+j*6+4,none⟩=some (.bool e2)/\W.cell? ⟨b,o+j*6+5,none⟩=some (.slice C2 p2 q2))/\∀W,Below w0.heap.size w0 W->Calls Tryz.prog 22 #[.agg #[.int .i64 k2,.slice A2 n2 c2,.bool s2,.slice B2 m2 d2,.bool e2,.slice C2 p2 q2],.slice VA vn vc] W (Av (Bf (Nu.nums ivs) u) W) from by
    intro j hj;have hk:j<kids.length:=(by omega);have ht:kids[j]?=some kids[j]:=List.getElem?_eq_getElem hk;have hti:=g8 j _ ht;obtain ⟨k2,A2,n2,c2,s2,B2,m2,d2,e2,C2,p2,q2,e1⟩:=hti.shape;have cc1:=(g7 j hj).2;have hr:=fun W hW=>ih j _ ht W (hb0.next hW) hvs
    rw[e1]at cc1 hti hr;exact ⟨_,k2,A2,n2,c2,s2,B2,m2,d2,e2,C2,p2,q2,ht,fun W hW=>⟨(Af (hb0.next hW) (g6 (by omega)).2.2).trans (cc1 0 _ rfl),(Af (hb0.next hW) (g6 (by omega)).2.2).trans (cc1 1 _ rfl),(Af (hb0.next hW) (g6 (by omega)).2.2).trans (cc1 2 _ rfl),(Af (hb0.next hW) (g6 (by omega)).2.2).trans (cc1 3 _ rfl),(Af (hb0.next hW) (g6 (by omega)).2.2).trans (cc1 4 _ rfl),(Af (hb0.next hW) (g6 (by omega)).2.2).trans (cc1 5 _ rfl)⟩,hr⟩)
  obtain ⟨BB,hBB⟩:∃BB,BB=Bf (Nu.nums ivs) (.mk kd L K e kids):=⟨_,rfl⟩;have HBB:=Aa hBB;rw[<-hBB];have c0:=x1.cell 0 _ rfl;have c1:=x1.cell 1 _ rfl;have c2:=x1.cell 2 _ rfl;have c3:=x1.cell 3 _ rfl;have c4:=x1.cell 4 _ rfl;have c5:=x1.cell 5 _ rfl;have hpm:p<=9223372036854775807:=Nat.le_trans g4 g5;clear g1 g4 g5 g6 g7 g8 ih hb x1 hb0 g3 hvs hBB;by_cases h0:kd=0
  · have hk:=h0;have HF:=Aa (show BB=true from by rw[HBB.out,Bf,if_pos hk]);have gk0:(kd==0)=true:=(by simp[hk]);have gk2:(kd==2)=false:=(by simp[hk]);have gk3:(kd==3)=false:=(by simp[hk]);have gk4:(kd==4)=false:=(by simp[hk]);have gk5:(kd==5)=false:=(by simp[hk]);clear h0 hk;go_enter Tryz.func22,Tryz.ntmps22;go_wp2_with fail;go_ret
    exact (show Av BB w0 (.returned (.bool true)) _ from ⟨by rw[HF.out],HB.out⟩)
  by_cases h2:kd=2
  · have hk:=h2;have HF:=Aa (show BB=Nu.E4 e (K+Tm.val (Nu.nums ivs) L) from by rw[HBB.out,Bf,if_neg h0,if_pos hk,Int.add_comm]);have gk0:(kd==0)=false:=(by simp[hk]);have gk2:(kd==2)=true:=(by simp[hk]);have gk3:(kd==3)=false:=(by simp[hk]);have gk4:(kd==4)=false:=(by simp[hk]);have gk5:(kd==5)=false:=(by simp[hk]);clear h0 h2 hk;go_enter Tryz.func22,Tryz.ntmps22;go_wp2_with fail;refine (HRH.out _ HB.out).mono ?_;rintro e' w2 ⟨rfl,b2⟩
    have HR:=Aa (show Av BB w0 (.returned (.bool (Nu.E4 e (K+Tm.val (Nu.nums ivs) L)))) w2 from ⟨by rw[HF.out],HB.out.next b2⟩);clear b2;go_wp2_with fail;go_ret
    exact HR.out
  by_cases h3:kd=3
  · have hk:=h3;have HE:=Aa (show BB=VC (Nu.nums ivs) kids from by rw[HBB.out,Bf,if_neg h0,if_neg h2,if_pos hk]);have gk0:(kd==0)=false:=(by simp[hk]);have gk2:(kd==2)=false:=(by simp[hk]);have gk3:(kd==3)=true:=(by simp[hk]);have gk4:(kd==4)=false:=(by simp[hk]);have gk5:(kd==5)=false:=(by simp[hk]);clear h0 h2 h3 hk;by_cases hp:0<p
    · have g1:(0:Int)<(p:Int):=(by omega);obtain ⟨u,k2,A2,n2,c2,s2,B2,m2,d2,e2,C2,p2,q2,hu,hcs,hrec⟩:=HSTEP.out 0 hp;go_enter Tryz.func22,Tryz.ntmps22;go_upto_region 7 with fail;generalize hW:w0.alloc (.cells #[.int .i64 kd,.slice A n c,.bool s,.slice B m d,.bool e,.slice C p q] 61)=W1 at *;clear hW;obtain ⟨d0,d1,d2',d3,d4,d5⟩:=hcs W1 HB.out;obtain ⟨rfl,-,hba⟩:=G6.out (by omega);have hba2:b<W1.heap.size:=World.block_lt_of_cell? W1 _ d0
      have HQ:=Aa (show BB=!Bf (Nu.nums ivs) u from by
        rw[HE.out];cases kids with
        |nil=>simp at hu
        |cons a l=> simp only[List.getElem?_cons_zero,Option.some.injEq]at hu;subst hu;rfl)
      have hq:=hrec W1 HB.out;unfold Av at hq;generalize Bf (Nu.nums ivs) u=bu at *;simp only[Nat.zero_mul,Nat.add_zero]at d0 d1 d2' d3 d4 d5;clear hu hcs hrec;go_wp2_with fail;refine hq.mono ?_;rintro e' w2 ⟨rfl,b2⟩;have HR:=Aa (show Av BB w0 (.returned (.bool (!bu))) w2 from ⟨by rw[HQ.out],HB.out.next b2⟩);clear b2;go_wp2_with fail;go_ret
      exact HR.out
    · have g1:¬(0:Int)<(p:Int):=(by omega);have HR:=Aa (show BB=false from by
        have:=HN.out;rw[HE.out];cases kids with
        |nil=>rfl
        |cons a l=>simp at this;omega)
      go_enter Tryz.func22,Tryz.ntmps22;go_wp2_with fail;go_ret
      exact (show Av BB w0 (.returned (.bool false)) _ from ⟨by rw[HR.out],HB.out⟩)
  by_cases h4:kd=4
  · have hk:=h4;clear h4;have HE:=Aa (show BB=K9 (Nu.nums ivs) (kids.drop 0) from by rw[HBB.out,Bf];simp[hk]);obtain rfl:kd=4:=hk;clear h0 h2 h3;go_enter Tryz.func22,Tryz.ntmps22;go_wp2_with fail;generalize hW:w0.alloc (.cells #[.int .i64 4,.slice A n c,.bool s,.slice B m d,.bool e,.slice C p q] 61)=W1 at *;clear hW
    go_loopw [5] (fun i wr=>∃x:Nat,x<=p/\i=.int .i64 x/\Hid (Below w0.heap.size w0 wr)/\Hid (Am 61 wr w0.heap.size #[.int .i64 4,.slice A n c,.bool s,.slice B m d,.bool e,.slice C p q])/\Hid (BB=K9 (Nu.nums ivs) (kids.drop x))) (fun i _=>p-(intOf i).toNat)
    case atStart=>exact ⟨0,Nat.zero_le _,rfl,HB,X1,HE⟩
    case round=>
      obtain ⟨x,hx,rfl,HR,XR,HER⟩:=hrel;have c5:=XR.out.cell 5 _ rfl;by_cases hxp:x<p
      · have g1:(x:Int)<(p:Int):=(by omega);obtain ⟨u,k2,A2,n2,c2,s2,B2,m2,d2,e2,C2,p2,q2,hu,hcs,hrec⟩:=HSTEP.out x hxp;obtain ⟨d0,d1,d2',d3,d4,d5⟩:=hcs wr HR.out;obtain ⟨rfl,-,hba⟩:=G6.out (by omega);have hba2:b<wr.heap.size:=World.block_lt_of_cell? wr _ d0;have HQ:=Aa (show BB=(Bf (Nu.nums ivs) u&&K9 (Nu.nums ivs) (kids.drop (x+1))) from by
         have hlt:x<kids.length:=(by have:=HN.out;omega);rw[List.getElem?_eq_getElem hlt]at hu;injection hu with hu
         rw[HER.out,List.drop_eq_getElem_cons hlt,K9,hu])
        have hq:=hrec wr HR.out;unfold Av at hq;generalize Bf (Nu.nums ivs) u=bu at *;clear hu hcs hrec HER;go_wp2_with fail;refine hq.mono ?_;rintro e w2 ⟨rfl,b2⟩;have HB2:=Aa (HR.out.next b2);have HX2:=Aa (XR.out.next b2);clear b2 hq d0 d1 d2' d3 d4 d5 c5;cases bu with
        |false=>
         have HF:=Aa (show Av BB w0 (.returned (.bool false)) w2 from ⟨by rw[HQ.out];rfl,HB2.out⟩);go_wp2_with fail;go_ret
         exact HF.out
        |true=>
         have HQ2:=Aa (show BB=K9 (Nu.nums ivs) (kids.drop (x+1)) from by rw[HQ.out];rfl);go_wp2_with fail;go_roundw
         case rel=>exact ⟨x+1,by omega,by go_num,HB2,HX2,HQ2⟩
         case measure=>simp[intOf];omega
      · obtain rfl:x=p:=(by omega);have g1:¬(x:Int)<(x:Int):=(by omega);have HF:=Aa (show Av BB w0 (.returned (.bool true)) wr from ⟨by rw[HER.out,List.drop_eq_nil_of_le (by have:=HN.out;omega)];rfl,HR.out⟩);go_wp2_with fail;go_ret
        exact HF.out
  by_cases h5:kd=5
  · have hk:=h5;clear h5;have HE:=Aa (show BB=KA (Nu.nums ivs) (kids.drop 0) from by rw[HBB.out,Bf];simp[hk]);obtain rfl:kd=5:=hk;clear h0 h2 h3 h4;go_enter Tryz.func22,Tryz.ntmps22;go_wp2_with fail;generalize hW:w0.alloc (.cells #[.int .i64 5,.slice A n c,.bool s,.slice B m d,.bool e,.slice C p q] 61)=W1 at *;clear hW
    go_loopw [6] (fun i wr=>∃x:Nat,x<=p/\i=.int .i64 x/\Hid (Below w0.heap.size w0 wr)/\Hid (Am 61 wr w0.heap.size #[.int .i64 5,.slice A n c,.bool s,.slice B m d,.bool e,.slice C p q])/\Hid (BB=KA (Nu.nums ivs) (kids.drop x))) (fun i _=>p-(intOf i).toNat)
    case atStart=>exact ⟨0,Nat.zero_le _,rfl,HB,X1,HE⟩
    case round=>
      obtain ⟨x,hx,rfl,HR,XR,HER⟩:=hrel;have c5:=XR.out.cell 5 _ rfl;by_cases hxp:x<p
      · have g1:(x:Int)<(p:Int):=(by omega);obtain ⟨u,k2,A2,n2,c2,s2,B2,m2,d2,e2,C2,p2,q2,hu,hcs,hrec⟩:=HSTEP.out x hxp;obtain ⟨d0,d1,d2',d3,d4,d5⟩:=hcs wr HR.out;obtain ⟨rfl,-,hba⟩:=G6.out (by omega);have hba2:b<wr.heap.size:=World.block_lt_of_cell? wr _ d0;have HQ:=Aa (show BB=(Bf (Nu.nums ivs) u || KA (Nu.nums ivs) (kids.drop (x+1))) from by
         have hlt:x<kids.length:=(by have:=HN.out;omega);rw[List.getElem?_eq_getElem hlt]at hu;injection hu with hu
         rw[HER.out,List.drop_eq_getElem_cons hlt,KA,hu])
        have hq:=hrec wr HR.out;unfold Av at hq;generalize Bf (Nu.nums ivs) u=bu at *;clear hu hcs hrec HER;go_wp2_with fail;refine hq.mono ?_;rintro e w2 ⟨rfl,b2⟩;have HB2:=Aa (HR.out.next b2);have HX2:=Aa (XR.out.next b2);clear b2 hq d0 d1 d2' d3 d4 d5 c5;cases bu with
        |true=>
         have HF:=Aa (show Av BB w0 (.returned (.bool true)) w2 from ⟨by rw[HQ.out];rfl,HB2.out⟩);go_wp2_with fail;go_ret
         exact HF.out
        |false=>
         have HQ2:=Aa (show BB=KA (Nu.nums ivs) (kids.drop (x+1)) from by rw[HQ.out];rfl);go_wp2_with fail;go_roundw
         case rel=>exact ⟨x+1,by omega,by go_num,HB2,HX2,HQ2⟩
         case measure=>simp[intOf];omega
      · obtain rfl:x=p:=(by omega);have g1:¬(x:Int)<(x:Int):=(by omega);have HF:=Aa (show Av BB w0 (.returned (.bool false)) wr from ⟨by rw[HER.out,List.drop_eq_nil_of_le (by have:=HN.out;omega)];rfl,HR.out⟩);go_wp2_with fail;go_ret
        exact HF.out
  have HF:=Aa (show BB=false from by rw[HBB.out,Bf,if_neg h0,if_neg h2,if_neg h3,if_neg h4,if_neg h5]);have gk0:(kd==0)=false:=by simpa using h0
  have gk2:(kd==2)=false:=by simpa using h2
  have gk3:(kd==3)=false:=by simpa using h3
  have gk4:(kd==4)=false:=by simpa using h4
  have gk5:(kd==5)=false:=by simpa using h5
  clear h0 h2 h3 h4 h5;go_enter Tryz.func22,Tryz.ntmps22;go_wp2_with fail;go_ret
  exact (show Av BB w0 (.returned (.bool false)) _ from ⟨by rw[HF.out],HB.out⟩)
end
end Go.Proofs.YtgohmojcopajoaaGreatDoor
