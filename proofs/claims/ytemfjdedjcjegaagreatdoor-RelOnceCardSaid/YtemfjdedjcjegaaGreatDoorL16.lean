/- Texts of one seat, put together: RSame LSame Region3 LOf LOf4. -/
import Derived.Test.YtemfjdedjcjegaaGreatDoorL15
import Derived.Test.YtemfjdedjcjegaaGreatDoorL10
import Derived.Test.YtemfjdedjcjegaaGreatDoorL11
set_option linter.unusedVariables false
set_option linter.unusedSimpArgs false
set_option maxRecDepth 100000
set_option maxHeartbeats 16000000
namespace Go.Proofs.YtemfjdedjcjegaaGreatDoor
section
open Go.RowKit
open Tm
theorem Nf (v u:Value) (L:List (Int×Int)) (K:Int) (k ku:Nat) (w0:World) (hv:An w0 v L K k) (hu:An w0 u L K ku) (hl:L.length<=1099511):Calls Tryz.prog 38 #[v,u] w0 (Ef w0):=by
 obtain ⟨A,n,c,s,B,m,d,rfl,⟨ps,hps,hlp,hzp⟩,hc1,hc2,hK⟩:=hv;obtain ⟨A2,n2,c2,s2,B2,m2,d2,rfl,⟨qs,hqs,hlq,hzq⟩,hc3,hc4,hK2⟩:=hu;have hn:L.length=n:=by rw[<-hlp,<-hps.1];simp[Ca]
 have hn2:L.length=n2:=by rw[<-hlq,<-hqs.1];simp[Ca]
 obtain rfl:n=n2:=by omega
 obtain ⟨z0,z1,z2,z3⟩:=Bh 33 33 w0 #[.slice A n c,.bool s,.slice B m d] #[.slice A2 n c2,.bool s2,.slice B2 m2 d2];have x0:=z0.c0;have x1:=z0.c1;have x2:=z0.c2;have y0:=z1.c0;have y1:=z1.c1;have y2:=z1.c2;have hsm:=JS _ _ K k ku _ (hK.below z2) (hK2.below z2);have hnn:(((n:Int)) != (n:Int))=false:=by simp
 have HP:=Ad hps;have HQ:=Ad hqs;have HZP:=Ad hzp;have HZQ:=Ad hzq;have HLP:=Ad hlp;have HLQ:=Ad hlq;have X:=Ad z0;have Y:=Ad z1;have T:=Ad z2;have HN:=Ad hn;have hn1:n<=1099511:=by omega
 clear hps hqs hzp hzq hlp hlq z0 z1 z2 z3 hK hK2 hn hn2;go_enter Tryz.func38,Tryz.ntmps38;go_wp2_with fail;refine hsm.mono ?_;rintro e w1 ⟨rfl,b1⟩;have HX:=Ad (X.out.next b1);have HY:=Ad (Y.out.next b1);have HB:=Ad (T.out.next b1);clear hsm b1 x0 x1 x2 y0 y1 y2;go_wp2_with fail;go_loopw [5] (fun i wr=>∃q:Nat,q<=n/\i=.int .i64 q/\Hid (Below w1.heap.size w1 wr)) (fun i _=>n-(intOf i).toNat)
 case atStart=>exact ⟨0,Nat.zero_le _,rfl,Ad (Below.refl _ _)⟩
 case round=>
  obtain ⟨q,hq,rfl,HR⟩:=hrel;have hT:=HB.out.next HR.out;have X9:=Ad (HX.out.next HR.out);have Y9:=Ad (HY.out.next HR.out);have xa:=X9.out.c0;have ya:=Y9.out.c0;by_cases hqn:q<n
  · obtain ⟨bb,o,p,rfl,hlt,hp,c0,c1,d0,-⟩:=(HP.out.below hT).at3 hqn;obtain ⟨bb2,o2,p2,rfl,hlt2,hp2,e0,e1,f0,-⟩:=(HQ.out.below hT).at3 hqn;have hpe:p2.v=p.v/\p2.Z=p.Z:=by
      have h1:L[q]?=some (p.v,p.Z):=(by rw[<-HLP.out];simp[Ca,PV.part,hp]);have h2:L[q]?=some (p2.v,p2.Z):=(by rw[<-HLQ.out];simp[Ca,PV.part,hp2]);rw[h1]at h2;injection h2 with h2
      injection h2 with h3 h4
      exact ⟨h3.symm,h4.symm⟩
    have HTT:=Ad hT;have HS:=Ad (fun W (h:Below wr.heap.size wr W)=>JS (.agg #[.bool p.s,.slice p.B p.m p.d]) (.agg #[.bool p2.s,.slice p2.B p2.m p2.d]) p.Z k ku W ((HZP.out p (List.mem_of_getElem? hp)).below (HTT.out.next h)) (by rw[<-hpe.2];exact (HZQ.out p2 (List.mem_of_getElem? hp2)).below (HTT.out.next h)));unfold Ef at HS;rw[hpe.1]at e0
    have SOF:=Ad (show ∀W,Below wr.heap.size wr W->(W.cell? ⟨w0.heap.size,0,none⟩=some (.slice (some ⟨bb,o,none⟩) n c)/\W.cell? ⟨w0.heap.size+1,0,none⟩=some (.slice (some ⟨bb2,o2,none⟩) n c2)/\W.cell? ⟨bb,o+q*3,none⟩=some (.int .i64 p.v)/\W.cell? ⟨bb,o+q*3+1,none⟩=some (.bool p.s)/\W.cell? ⟨bb,o+q*3+2,none⟩=some (.slice p.B p.m p.d)/\W.cell? ⟨bb2,o2+q*3,none⟩=some (.int .i64 p.v)/\W.cell? ⟨bb2,o2+q*3+1,none⟩=some (.bool p2.s)/\W.cell? ⟨bb2,o2+q*3+2,none⟩=some (.slice p2.B p2.m p2.d)) from fun W h=>⟨(X9.out.next h).c0,(Y9.out.next h).c0,(h.cell (p:=⟨bb,o+q*3,none⟩) hlt).trans c0,(h.cell (p:=⟨bb,o+q*3+1,none⟩) hlt).trans c1,(h.cell (p:=⟨bb,o+q*3+2,none⟩) hlt).trans d0,(h.cell (p:=⟨bb2,o2+q*3,none⟩) hlt2).trans e0,(h.cell (p:=⟨bb2,o2+q*3+1,none⟩) hlt2).trans e1,(h.cell (p:=⟨bb2,o2+q*3+2,none⟩) hlt2).trans f0⟩)
    clear hT hp hp2 c0 c1 d0 e0 e1 f0 hpe;go_wp2_with fail;clear xa ya
    refine BC (by kernel_rfl) (by kernel_rfl) (by kernel_rfl) (fun w w'=>Below w.heap.size w w') (fun j v w=>match j with|0=>v=.pointer (some ⟨w0.heap.size,0,none⟩)|1=>v=.slice (some ⟨bb,o,none⟩) n c|2=>v=.int .i64 (q:Int)|3=>v=.pointer (some ⟨bb,o+q*3,none⟩)|4=>v=.pointer (some ⟨bb,o+q*3,none⟩)|5=>v=.int .i64 p.v|6=>v=.pointer (some ⟨w0.heap.size+1,0,none⟩)|7=>v=.slice (some ⟨bb2,o2,none⟩) n c2|8=>v=.int .i64 (q:Int)|9=>v=.pointer (some ⟨bb2,o2+q*3,none⟩)|10=>v=.pointer (some ⟨bb2,o2+q*3,none⟩)|11=>v=.int .i64 p.v|12=>v=.bool false|13=>v=.bool false|14=>v=.pointer (some ⟨w0.heap.size,0,none⟩)|15=>v=.slice (some ⟨bb,o,none⟩) n c|16=>v=.int .i64 (q:Int)|17=>v=.pointer (some ⟨bb,o+q*3,none⟩)|18=>v=.pointer (some ⟨bb,o+q*3+1,none⟩)|19=>v=.agg #[.bool p.s,.slice p.B p.m p.d]|20=>v=.pointer (some ⟨w0.heap.size+1,0,none⟩)|21=>v=.slice (some ⟨bb2,o2,none⟩) n c2|22=>v=.int .i64 (q:Int)|23=>v=.pointer (some ⟨bb2,o2+q*3,none⟩)|24=>v=.pointer (some ⟨bb2,o2+q*3+1,none⟩)|25=>v=.agg #[.bool p2.s,.slice p2.B p2.m p2.d]|26=>v=.bool true|27=>v=.bool false|28=>v=.bool false|_=>True) (fun _ _ w=>Below wr.heap.size wr w) ?_ (fun _=>Ak wr 1) ?_ ?_
    · intro j v w w' hT h;match j,h with
      |0,h=>exact h
      |1,h=>exact h
      |2,h=>exact h
      |3,h=>exact h
      |4,h=>exact h
      |5,h=>exact h
      |6,h=>exact h
      |7,h=>exact h
      |8,h=>exact h
      |9,h=>exact h
      |10,h=>exact h
      |11,h=>exact h
      |12,h=>exact h
      |13,h=>exact h
      |14,h=>exact h
      |15,h=>exact h
      |16,h=>exact h
      |17,h=>exact h
      |18,h=>exact h
      |19,h=>exact h
      |20,h=>exact h
      |21,h=>exact h
      |22,h=>exact h
      |23,h=>exact h
      |24,h=>exact h
      |25,h=>exact h
      |26,h=>exact h
      |27,h=>exact h
      |28,h=>exact h
      |j+29,h=>trivial
    · refine ⟨?_,?_,?_,?_,?_,?_,?_,?_,?_,?_,?_,?_,?_,?_,?_,?_,?_,?_,?_,?_,?_,?_,?_,?_,?_,?_,?_,?_,?_,trivial⟩
      · intro listed σ w a hin hout hl hc hp hG hF;refine Ac.none rfl ?_;have e2:a.tmps.getD 2 undef=.pointer (some ⟨w0.heap.size,0,none⟩):=hout 2 (Af (by kernel_rfl));refine Does.val (.pointer (some ⟨w0.heap.size,0,none⟩)) (w':=w) ?_ ⟨Below.refl _ _,rfl,hG⟩;simp only[Array.getD_eq_getD_getElem?]at e2;go_simp
      · intro listed σ w a hin hout hl hc hp hG hF;refine Ac.none rfl ?_;have e28:a.tmps.getD 28 undef=.pointer (some ⟨w0.heap.size,0,none⟩):=(hin 0 28 rfl (hp ⟨0,.data⟩ (by simp) rfl)).trans (hF 0 (hp ⟨0,.data⟩ (by simp) rfl));have CC:=SOF.out w hG;obtain ⟨C0,C1,D0,D1,D2,E0,E1,E2⟩:=CC;refine Does.val (.slice (some ⟨bb,o,none⟩) n c) (w':=w) ?_ ⟨Below.refl _ _,rfl,hG⟩;go_simp
      · intro listed σ w a hin hout hl hc hp hG hF;refine Ac.none rfl ?_;have e5:a.tmps.getD 5 undef=.int .i64 (q:Int):=hout 5 (Af (by kernel_rfl));refine Does.val (.int .i64 (q:Int)) (w':=w) ?_ ⟨Below.refl _ _,rfl,hG⟩;simp only[Array.getD_eq_getD_getElem?]at e5;go_simp
      · intro listed σ w a hin hout hl hc hp hG hF;refine Ac.none rfl ?_;have e29:a.tmps.getD 29 undef=.slice (some ⟨bb,o,none⟩) n c:=(hin 1 29 rfl (hp ⟨1,.data⟩ (by simp) rfl)).trans (hF 1 (hp ⟨1,.data⟩ (by simp) rfl));have e30:a.tmps.getD 30 undef=.int .i64 (q:Int):=(hin 2 30 rfl (hp ⟨2,.data⟩ (by simp) rfl)).trans (hF 2 (hp ⟨2,.data⟩ (by simp) rfl));refine Does.val (.pointer (some ⟨bb,o+q*3,none⟩)) (w':=w) ?_ ⟨Below.refl _ _,rfl,hG⟩
        simp only[Array.getD_eq_getD_getElem?]at e29 e30;go_simp;(try (intro hh;exfalso;omega))
      · intro listed σ w a hin hout hl hc hp hG hF;refine Ac.none rfl ?_;have e31:a.tmps.getD 31 undef=.pointer (some ⟨bb,o+q*3,none⟩):=(hin 3 31 rfl (hp ⟨3,.data⟩ (by simp) rfl)).trans (hF 3 (hp ⟨3,.data⟩ (by simp) rfl));refine Does.val (.pointer (some ⟨bb,o+q*3,none⟩)) (w':=w) ?_ ⟨Below.refl _ _,rfl,hG⟩;simp only[Array.getD_eq_getD_getElem?]at e31;go_simp
      · intro listed σ w a hin hout hl hc hp hG hF;refine Ac.none rfl ?_;have e32:a.tmps.getD 32 undef=.pointer (some ⟨bb,o+q*3,none⟩):=(hin 4 32 rfl (hp ⟨4,.data⟩ (by simp) rfl)).trans (hF 4 (hp ⟨4,.data⟩ (by simp) rfl));have CC:=SOF.out w hG;obtain ⟨C0,C1,D0,D1,D2,E0,E1,E2⟩:=CC;refine Does.val (.int .i64 p.v) (w':=w) ?_ ⟨Below.refl _ _,rfl,hG⟩;go_simp
      · intro listed σ w a hin hout hl hc hp hG hF;refine Ac.none rfl ?_;have e3:a.tmps.getD 3 undef=.pointer (some ⟨w0.heap.size+1,0,none⟩):=hout 3 (Af (by kernel_rfl));refine Does.val (.pointer (some ⟨w0.heap.size+1,0,none⟩)) (w':=w) ?_ ⟨Below.refl _ _,rfl,hG⟩;simp only[Array.getD_eq_getD_getElem?]at e3;go_simp
      · intro listed σ w a hin hout hl hc hp hG hF;refine Ac.none rfl ?_;have e34:a.tmps.getD 34 undef=.pointer (some ⟨w0.heap.size+1,0,none⟩):=(hin 6 34 rfl (hp ⟨6,.data⟩ (by simp) rfl)).trans (hF 6 (hp ⟨6,.data⟩ (by simp) rfl));have CC:=SOF.out w hG;obtain ⟨C0,C1,D0,D1,D2,E0,E1,E2⟩:=CC;refine Does.val (.slice (some ⟨bb2,o2,none⟩) n c2) (w':=w) ?_ ⟨Below.refl _ _,rfl,hG⟩;go_simp
      · intro listed σ w a hin hout hl hc hp hG hF;refine Ac.none rfl ?_;have e5:a.tmps.getD 5 undef=.int .i64 (q:Int):=hout 5 (Af (by kernel_rfl));refine Does.val (.int .i64 (q:Int)) (w':=w) ?_ ⟨Below.refl _ _,rfl,hG⟩;simp only[Array.getD_eq_getD_getElem?]at e5;go_simp
      · intro listed σ w a hin hout hl hc hp hG hF;refine Ac.none rfl ?_;have e35:a.tmps.getD 35 undef=.slice (some ⟨bb2,o2,none⟩) n c2:=(hin 7 35 rfl (hp ⟨7,.data⟩ (by simp) rfl)).trans (hF 7 (hp ⟨7,.data⟩ (by simp) rfl));have e36:a.tmps.getD 36 undef=.int .i64 (q:Int):=(hin 8 36 rfl (hp ⟨8,.data⟩ (by simp) rfl)).trans (hF 8 (hp ⟨8,.data⟩ (by simp) rfl));refine Does.val (.pointer (some ⟨bb2,o2+q*3,none⟩)) (w':=w) ?_ ⟨Below.refl _ _,rfl,hG⟩
        simp only[Array.getD_eq_getD_getElem?]at e35 e36;go_simp;(try (intro hh;exfalso;omega))
      · intro listed σ w a hin hout hl hc hp hG hF;refine Ac.none rfl ?_;have e37:a.tmps.getD 37 undef=.pointer (some ⟨bb2,o2+q*3,none⟩):=(hin 9 37 rfl (hp ⟨9,.data⟩ (by simp) rfl)).trans (hF 9 (hp ⟨9,.data⟩ (by simp) rfl));refine Does.val (.pointer (some ⟨bb2,o2+q*3,none⟩)) (w':=w) ?_ ⟨Below.refl _ _,rfl,hG⟩;simp only[Array.getD_eq_getD_getElem?]at e37;go_simp
      · intro listed σ w a hin hout hl hc hp hG hF;refine Ac.none rfl ?_;have e38:a.tmps.getD 38 undef=.pointer (some ⟨bb2,o2+q*3,none⟩):=(hin 10 38 rfl (hp ⟨10,.data⟩ (by simp) rfl)).trans (hF 10 (hp ⟨10,.data⟩ (by simp) rfl));have CC:=SOF.out w hG;obtain ⟨C0,C1,D0,D1,D2,E0,E1,E2⟩:=CC;refine Does.val (.int .i64 p.v) (w':=w) ?_ ⟨Below.refl _ _,rfl,hG⟩;go_simp
      · intro listed σ w a hin hout hl hc hp hG hF;refine Ac.none rfl ?_;have e33:a.tmps.getD 33 undef=.int .i64 p.v:=(hin 5 33 rfl (hp ⟨5,.data⟩ (by simp) rfl)).trans (hF 5 (hp ⟨5,.data⟩ (by simp) rfl));have e39:a.tmps.getD 39 undef=.int .i64 p.v:=(hin 11 39 rfl (hp ⟨11,.data⟩ (by simp) rfl)).trans (hF 11 (hp ⟨11,.data⟩ (by simp) rfl));refine Does.val (.bool false) (w':=w) ?_ ⟨Below.refl _ _,rfl,hG⟩;simp only[Array.getD_eq_getD_getElem?]at e33 e39;go_simp
      · intro listed σ w a hin hout hl hc hp hG hF;refine Ac.none rfl ?_;have e40:a.tmps.getD 40 undef=.bool false:=(hin 12 40 rfl (hp ⟨12,.data⟩ (by simp) rfl)).trans (hF 12 (hp ⟨12,.data⟩ (by simp) rfl));refine Does.val (.bool false) (w':=w) ?_ ⟨Below.refl _ _,rfl,hG⟩;simp only[Array.getD_eq_getD_getElem?]at e40;go_simp
      · intro listed σ w a hin hout hl hc hp hG hF;refine Ac.some (d:=41) (b:=false) rfl rfl ((hin 13 41 rfl (hp ⟨13,.guard⟩ (by simp) rfl)).trans (hF 13 (hp ⟨13,.guard⟩ (by simp) rfl))) ?_;refine Or.inl ⟨rfl,?_⟩;have e2:a.tmps.getD 2 undef=.pointer (some ⟨w0.heap.size,0,none⟩):=hout 2 (Af (by kernel_rfl));refine Does.val (.pointer (some ⟨w0.heap.size,0,none⟩)) (w':=w) ?_ ⟨Below.refl _ _,rfl,hG⟩;simp only[Array.getD_eq_getD_getElem?]at e2;go_simp
      · intro listed σ w a hin hout hl hc hp hG hF;refine Ac.some (d:=41) (b:=false) rfl rfl ((hin 13 41 rfl (hp ⟨13,.guard⟩ (by simp) rfl)).trans (hF 13 (hp ⟨13,.guard⟩ (by simp) rfl))) ?_;refine Or.inl ⟨rfl,?_⟩;have e42:a.tmps.getD 42 undef=.pointer (some ⟨w0.heap.size,0,none⟩):=(hin 14 42 rfl (hp ⟨14,.data⟩ (by simp) rfl)).trans (hF 14 (hp ⟨14,.data⟩ (by simp) rfl));have CC:=SOF.out w hG;obtain ⟨C0,C1,D0,D1,D2,E0,E1,E2⟩:=CC
        refine Does.val (.slice (some ⟨bb,o,none⟩) n c) (w':=w) ?_ ⟨Below.refl _ _,rfl,hG⟩;go_simp
      · intro listed σ w a hin hout hl hc hp hG hF;refine Ac.some (d:=41) (b:=false) rfl rfl ((hin 13 41 rfl (hp ⟨13,.guard⟩ (by simp) rfl)).trans (hF 13 (hp ⟨13,.guard⟩ (by simp) rfl))) ?_;refine Or.inl ⟨rfl,?_⟩;have e5:a.tmps.getD 5 undef=.int .i64 (q:Int):=hout 5 (Af (by kernel_rfl));refine Does.val (.int .i64 (q:Int)) (w':=w) ?_ ⟨Below.refl _ _,rfl,hG⟩;simp only[Array.getD_eq_getD_getElem?]at e5;go_simp
      · intro listed σ w a hin hout hl hc hp hG hF;refine Ac.some (d:=41) (b:=false) rfl rfl ((hin 13 41 rfl (hp ⟨13,.guard⟩ (by simp) rfl)).trans (hF 13 (hp ⟨13,.guard⟩ (by simp) rfl))) ?_;refine Or.inl ⟨rfl,?_⟩;have e43:a.tmps.getD 43 undef=.slice (some ⟨bb,o,none⟩) n c:=(hin 15 43 rfl (hp ⟨15,.data⟩ (by simp) rfl)).trans (hF 15 (hp ⟨15,.data⟩ (by simp) rfl))
        have e44:a.tmps.getD 44 undef=.int .i64 (q:Int):=(hin 16 44 rfl (hp ⟨16,.data⟩ (by simp) rfl)).trans (hF 16 (hp ⟨16,.data⟩ (by simp) rfl));refine Does.val (.pointer (some ⟨bb,o+q*3,none⟩)) (w':=w) ?_ ⟨Below.refl _ _,rfl,hG⟩;simp only[Array.getD_eq_getD_getElem?]at e43 e44;go_simp;(try (intro hh;exfalso;omega))
      · intro listed σ w a hin hout hl hc hp hG hF;refine Ac.some (d:=41) (b:=false) rfl rfl ((hin 13 41 rfl (hp ⟨13,.guard⟩ (by simp) rfl)).trans (hF 13 (hp ⟨13,.guard⟩ (by simp) rfl))) ?_;refine Or.inl ⟨rfl,?_⟩;have e45:a.tmps.getD 45 undef=.pointer (some ⟨bb,o+q*3,none⟩):=(hin 17 45 rfl (hp ⟨17,.data⟩ (by simp) rfl)).trans (hF 17 (hp ⟨17,.data⟩ (by simp) rfl));refine Does.val (.pointer (some ⟨bb,o+q*3+1,none⟩)) (w':=w) ?_ ⟨Below.refl _ _,rfl,hG⟩
        simp only[Array.getD_eq_getD_getElem?]at e45;go_simp
      · intro listed σ w a hin hout hl hc hp hG hF;refine Ac.some (d:=41) (b:=false) rfl rfl ((hin 13 41 rfl (hp ⟨13,.guard⟩ (by simp) rfl)).trans (hF 13 (hp ⟨13,.guard⟩ (by simp) rfl))) ?_;refine Or.inl ⟨rfl,?_⟩;have e46:a.tmps.getD 46 undef=.pointer (some ⟨bb,o+q*3+1,none⟩):=(hin 18 46 rfl (hp ⟨18,.data⟩ (by simp) rfl)).trans (hF 18 (hp ⟨18,.data⟩ (by simp) rfl));have CC:=SOF.out w hG;obtain ⟨C0,C1,D0,D1,D2,E0,E1,E2⟩:=CC
        refine Does.val (.agg #[.bool p.s,.slice p.B p.m p.d]) (w':=w) ?_ ⟨Below.refl _ _,rfl,hG⟩;go_simp
      · intro listed σ w a hin hout hl hc hp hG hF;refine Ac.some (d:=41) (b:=false) rfl rfl ((hin 13 41 rfl (hp ⟨13,.guard⟩ (by simp) rfl)).trans (hF 13 (hp ⟨13,.guard⟩ (by simp) rfl))) ?_;refine Or.inl ⟨rfl,?_⟩;have e3:a.tmps.getD 3 undef=.pointer (some ⟨w0.heap.size+1,0,none⟩):=hout 3 (Af (by kernel_rfl));refine Does.val (.pointer (some ⟨w0.heap.size+1,0,none⟩)) (w':=w) ?_ ⟨Below.refl _ _,rfl,hG⟩;simp only[Array.getD_eq_getD_getElem?]at e3;go_simp
      · intro listed σ w a hin hout hl hc hp hG hF;refine Ac.some (d:=41) (b:=false) rfl rfl ((hin 13 41 rfl (hp ⟨13,.guard⟩ (by simp) rfl)).trans (hF 13 (hp ⟨13,.guard⟩ (by simp) rfl))) ?_;refine Or.inl ⟨rfl,?_⟩;have e48:a.tmps.getD 48 undef=.pointer (some ⟨w0.heap.size+1,0,none⟩):=(hin 20 48 rfl (hp ⟨20,.data⟩ (by simp) rfl)).trans (hF 20 (hp ⟨20,.data⟩ (by simp) rfl));have CC:=SOF.out w hG;obtain ⟨C0,C1,D0,D1,D2,E0,E1,E2⟩:=CC
        refine Does.val (.slice (some ⟨bb2,o2,none⟩) n c2) (w':=w) ?_ ⟨Below.refl _ _,rfl,hG⟩;go_simp
      · intro listed σ w a hin hout hl hc hp hG hF;refine Ac.some (d:=41) (b:=false) rfl rfl ((hin 13 41 rfl (hp ⟨13,.guard⟩ (by simp) rfl)).trans (hF 13 (hp ⟨13,.guard⟩ (by simp) rfl))) ?_;refine Or.inl ⟨rfl,?_⟩;have e5:a.tmps.getD 5 undef=.int .i64 (q:Int):=hout 5 (Af (by kernel_rfl));refine Does.val (.int .i64 (q:Int)) (w':=w) ?_ ⟨Below.refl _ _,rfl,hG⟩;simp only[Array.getD_eq_getD_getElem?]at e5;go_simp
      · intro listed σ w a hin hout hl hc hp hG hF;refine Ac.some (d:=41) (b:=false) rfl rfl ((hin 13 41 rfl (hp ⟨13,.guard⟩ (by simp) rfl)).trans (hF 13 (hp ⟨13,.guard⟩ (by simp) rfl))) ?_;refine Or.inl ⟨rfl,?_⟩;have e49:a.tmps.getD 49 undef=.slice (some ⟨bb2,o2,none⟩) n c2:=(hin 21 49 rfl (hp ⟨21,.data⟩ (by simp) rfl)).trans (hF 21 (hp ⟨21,.data⟩ (by simp) rfl))
        have e50:a.tmps.getD 50 undef=.int .i64 (q:Int):=(hin 22 50 rfl (hp ⟨22,.data⟩ (by simp) rfl)).trans (hF 22 (hp ⟨22,.data⟩ (by simp) rfl));refine Does.val (.pointer (some ⟨bb2,o2+q*3,none⟩)) (w':=w) ?_ ⟨Below.refl _ _,rfl,hG⟩;simp only[Array.getD_eq_getD_getElem?]at e49 e50;go_simp;(try (intro hh;exfalso;omega))
      · intro listed σ w a hin hout hl hc hp hG hF;refine Ac.some (d:=41) (b:=false) rfl rfl ((hin 13 41 rfl (hp ⟨13,.guard⟩ (by simp) rfl)).trans (hF 13 (hp ⟨13,.guard⟩ (by simp) rfl))) ?_;refine Or.inl ⟨rfl,?_⟩;have e51:a.tmps.getD 51 undef=.pointer (some ⟨bb2,o2+q*3,none⟩):=(hin 23 51 rfl (hp ⟨23,.data⟩ (by simp) rfl)).trans (hF 23 (hp ⟨23,.data⟩ (by simp) rfl));refine Does.val (.pointer (some ⟨bb2,o2+q*3+1,none⟩)) (w':=w) ?_ ⟨Below.refl _ _,rfl,hG⟩
        simp only[Array.getD_eq_getD_getElem?]at e51;go_simp
      · intro listed σ w a hin hout hl hc hp hG hF;refine Ac.some (d:=41) (b:=false) rfl rfl ((hin 13 41 rfl (hp ⟨13,.guard⟩ (by simp) rfl)).trans (hF 13 (hp ⟨13,.guard⟩ (by simp) rfl))) ?_;refine Or.inl ⟨rfl,?_⟩;have e52:a.tmps.getD 52 undef=.pointer (some ⟨bb2,o2+q*3+1,none⟩):=(hin 24 52 rfl (hp ⟨24,.data⟩ (by simp) rfl)).trans (hF 24 (hp ⟨24,.data⟩ (by simp) rfl));have CC:=SOF.out w hG;obtain ⟨C0,C1,D0,D1,D2,E0,E1,E2⟩:=CC
        refine Does.val (.agg #[.bool p2.s,.slice p2.B p2.m p2.d]) (w':=w) ?_ ⟨Below.refl _ _,rfl,hG⟩;go_simp
      · intro listed σ w a hin hout hl hc hp hG hF;refine Ac.some (d:=41) (b:=false) rfl rfl ((hin 13 41 rfl (hp ⟨13,.guard⟩ (by simp) rfl)).trans (hF 13 (hp ⟨13,.guard⟩ (by simp) rfl))) ?_;refine Or.inl ⟨rfl,?_⟩;have e47:a.tmps.getD 47 undef=.agg #[.bool p.s,.slice p.B p.m p.d]:=(hin 19 47 rfl (hp ⟨19,.data⟩ (by simp) rfl)).trans (hF 19 (hp ⟨19,.data⟩ (by simp) rfl))
        have e53:a.tmps.getD 53 undef=.agg #[.bool p2.s,.slice p2.B p2.m p2.d]:=(hin 25 53 rfl (hp ⟨25,.data⟩ (by simp) rfl)).trans (hF 25 (hp ⟨25,.data⟩ (by simp) rfl));refine Does.call ?_ (HS.out w hG) ?_
        · go_simp
        · rintro e w' ⟨rfl,hb⟩;exact ⟨_,rfl,hb,rfl,hG.next hb⟩
      · intro listed σ w a hin hout hl hc hp hG hF;refine Ac.some (d:=41) (b:=false) rfl rfl ((hin 13 41 rfl (hp ⟨13,.guard⟩ (by simp) rfl)).trans (hF 13 (hp ⟨13,.guard⟩ (by simp) rfl))) ?_;refine Or.inl ⟨rfl,?_⟩;have e54:a.tmps.getD 54 undef=.bool true:=(hin 26 54 rfl (hp ⟨26,.data⟩ (by simp) rfl)).trans (hF 26 (hp ⟨26,.data⟩ (by simp) rfl));refine Does.val (.bool false) (w':=w) ?_ ⟨Below.refl _ _,rfl,hG⟩;simp only[Array.getD_eq_getD_getElem?]at e54;go_simp
      · intro listed σ w a hin hout hl hc hp hG hF;refine Ac.none rfl ?_;have e41:a.tmps.getD 41 undef=.bool false:=(hin 13 41 rfl (hp ⟨13,.data⟩ (by simp) rfl)).trans (hF 13 (hp ⟨13,.data⟩ (by simp) rfl));have e55:a.tmps.getD 55 undef=.bool false:=(hin 27 55 rfl (hp ⟨27,.data⟩ (by simp) rfl)).trans (hF 27 (hp ⟨27,.data⟩ (by simp) rfl));refine Does.val (.bool false) (w':=w) ?_ ⟨Below.refl _ _,rfl,hG⟩;simp only[Array.getD_eq_getD_getElem?]at e41 e55;go_simp
    · intro listed σ W9 hall hG hF
      rw[show mid _ σ listed _=(Act.put (Act.put (Act.put (Act.put (Act.put (Act.put (Act.put (Act.put (Act.put (Act.put (Act.put (Act.put (Act.put (Act.put (Act.put (Act.put (Act.put (Act.put (Act.put (Act.put (Act.put (Act.put (Act.put (Act.put (Act.put (Act.put (Act.put (Act.put (Act.put _ (some 28) (σ 0)) (some 29) (σ 1)) (some 30) (σ 2)) (some 31) (σ 3)) (some 32) (σ 4)) (some 33) (σ 5)) (some 34) (σ 6)) (some 35) (σ 7)) (some 36) (σ 8)) (some 37) (σ 9)) (some 38) (σ 10)) (some 39) (σ 11)) (some 40) (σ 12)) (some 41) (σ 13)) (some 42) (σ 14)) (some 43) (σ 15)) (some 44) (σ 16)) (some 45) (σ 17)) (some 46) (σ 18)) (some 47) (σ 19)) (some 48) (σ 20)) (some 49) (σ 21)) (some 50) (σ 22)) (some 51) (σ 23)) (some 52) (σ 24)) (some 53) (σ 25)) (some 54) (σ 26)) (some 55) (σ 27)) (some 56) (σ 28)) from (BP hall).trans rfl]
      generalize σ 0=tt0;generalize σ 1=tt1;generalize σ 2=tt2;generalize σ 3=tt3;generalize σ 4=tt4;generalize σ 5=tt5;generalize σ 6=tt6;generalize σ 7=tt7;generalize σ 8=tt8;generalize σ 9=tt9;generalize σ 10=tt10;generalize σ 11=tt11;generalize σ 12=tt12;generalize σ 13=tt13;generalize σ 14=tt14;generalize σ 15=tt15;generalize σ 16=tt16;generalize σ 17=tt17;generalize σ 18=tt18;generalize σ 19=tt19;generalize σ 20=tt20;generalize σ 21=tt21;generalize σ 22=tt22
      generalize σ 23=tt23;generalize σ 24=tt24;generalize σ 25=tt25;generalize σ 26=tt26;generalize σ 27=tt27;rw[show σ 28=.bool false from hF 28 (by decide)];simp only[Act.put,List.setIfInBounds_toArray,List.set_cons_zero,List.set_cons_succ];have TG:=hG;clear hF hG hall;clear σ;have HE:=Ad (HR.out.next TG);clear TG SOF HS;go_wp2_with fail;go_roundw
      case rel=>exact ⟨q+1,by omega,by go_num,HE⟩
      case measure=>simp[intOf]<;>omega
  · obtain rfl:q=n:=(by omega);have HE:=Ad hT;clear hT;go_wp2_with fail;go_ret
    exact ⟨rfl,HE.out⟩
end
section
open Go.RowKit
open Tm
end
section
open Go.RowKit
section
variable {P:Program} {ops:Array Oper} {Q:Exit->Act->World->Prop}
def TT (P:Program) (ops:Array Oper) (a0:Act) (F:Nat->Value->World->Prop) (G:Array Bool->(Nat->Value)->World->Prop) (i:Nat) (o:Oper):Prop:=
 ∀(listed:Array Bool) (σ:Nat->Value) (w:World) (a:Act),(∀j t,AG ops j=some t->listed.getD j false=true->a.tmps.getD t undef=σ j)->(∀t,(∀j,AG ops j=some t->listed.getD j false=false)->a.tmps.getD t undef=a0.tmps.getD t undef) ->
  listed.getD i true=false->Bg .any ops listed->(∀e∈o.after,Region.binds .any e=true->listed.getD e.on false=true)->G listed σ w->(∀j,listed.getD j false=true->F j (σ j) w) ->
  Ac ops a o w (fun v w'=>(∀j,listed.getD j false=true->F j (σ j) w')/\F i v w'/\G (listed.setIfInBounds i true) (upd σ i v) w') (Does P a o w (fun v w'=>(∀j,listed.getD j false=true->F j (σ j) w')/\F i v w'/\G (listed.setIfInBounds i true) (upd σ i v) w'))
def UA (P:Program) (ops:Array Oper) (a0:Act) (T:World->World->Prop) (F:Nat->Value->World->Prop) (G:Array Bool->(Nat->Value)->World->Prop) (app:Nat) (i:Nat) (o:Oper):Prop:=
 (i≠app->Q4 P ops a0 T F G i o)/\(i=app->TT P ops a0 F G i o)
end
def GM (app:Nat) (M:Nat->Value->World->Prop) (W0:World) (listed:Array Bool) (σ:Nat->Value) (w:World):Prop:=
 Below W0.heap.size W0 w/\(listed.getD app false=false->∀j,listed.getD j false=true->M j (σ j) w)
def Gv (w:World) (base:Nat) (v:Value) (n:Nat) (L:List (Int×Int)) (k:Nat):Prop:=∃rs:List PV,Az 59 3 w base v n (flat rs)/\rs.length=n/\Ca rs=L/\∀p∈rs,Au w p.num p.Z k
end
section
open Go.RowKit
open Tm
theorem Aw.ints {T:TypeId} {w:World} {g:Nat} {xs:List Int} (h:Aw T w g (ints xs).toArray):EX w (some ⟨g,0,none⟩) xs.length xs:=
 ⟨rfl,fun _=>⟨g,0,rfl,fun j u hu=>by rw[Nat.zero_add];exact h.cell j u (by simpa using hu)⟩⟩
theorem EX.none (w:World):EX w none 0 []:=⟨rfl,fun h=>absurd h (by omega)⟩
def Ng (L:List (Int×Int)) (n:Nat) (K:Int) (k:Nat) (w:World) (e:Ending) (w':World):Prop:=
 ∃A c s B m d,e=.returned (.agg #[.slice A n c,.bool s,.slice B m d])/\Gv w' w.heap.size (.slice A n c) n L k/\n<=c/\c<=9223372036854775807/\Au w' (.agg #[.bool s,.slice B m d]) K k/\Below w.heap.size w w'
theorem Gv.res {w:World} {base n c k:Nat} {A:Option Addr} {L:List (Int×Int)} (h:Gv w base (.slice A n c) n L k):Cv w A n L k:=by obtain ⟨rs,h1,h2,h3,h4⟩:=h;exact ⟨rs,h1.parts h2 (fun p hp=>(h4 p hp).in_),h3,h4⟩
theorem Ng.res {L:List (Int×Int)} {n k:Nat} {K:Int} {w:World} {e:Ending} {w':World} (h:Ng L n K k w e w'):Bm L K k w e w':=by obtain ⟨A,c,s,B,m,d,rfl,h1,h2,h3,h4,h5⟩:=h;exact ⟨_,rfl,⟨A,n,c,s,B,m,d,rfl,h1.res,h2,h3,h4⟩,h5⟩
def BU (xs:List Int):List (Int×Int):=xs.mapIdx fun i x=>((i:Int),x)
theorem RQ (xs:List Int) (q:Nat) (x:Int) (h:xs[q]?=some x):(BU xs)[q]?=some ((q:Int),x):=by simp[BU,h]
theorem Nh (xs:List Int):(BU xs).length=xs.length:=by simp[BU]
end
section
open Go.RowKit
open Tm
theorem QK (K:Int) (A:Option Addr) (n c:Nat) (xs:List Int) (w0:World) (hx:EX w0 A n xs) (hk1:-9223372036854775808<=K) (hk2:K<=9223372036854775807) (hxs:∀x∈xs,-9223372036854775808<=x/\x<=9223372036854775807) (hn1:n<=1099511):Calls Tryz.prog 16 #[.int .i64 K,.slice A n c] w0 (Ng (BU xs) n K 2 w0):=by
 have hln:xs.length=n:=hx.1;obtain ⟨z0,z1,z2⟩:=AV 33 w0 #[.slice none 0 0,.bool false,.slice none 0 0];have hcl:=QC K (w0.alloc (.cells #[.slice none 0 0,.bool false,.slice none 0 0] 33)) hk1 hk2;go_enter Tryz.func16,Tryz.ntmps16;go_wp2_with fail;refine hcl.mono ?_;rintro e w1 ⟨v1,rfl,r1,b1⟩;obtain ⟨s1,A1,n1,c1,rfl⟩:=r1.form;have t1:=z1.next b1;have q0:=z0.next b1;have hz3:=Ad (show w0.heap.size+1<=w1.heap.size by have:=b1.size;simp at this;omega)
 obtain ⟨y0,y1,y2⟩:=AV 33 w1 #[.slice none 0 0,.bool s1,.slice A1 n1 c1];have HR1:=Ad (r1.below y1);have XB:=Ad y0;have XR:=Ad (q0.next y1);have HW1:=Ad (t1.next y1);have HI:=Ad hx;have HLN:=Ad hln;clear hcl r1 t1 q0 y0 y1 y2 z0 z1 z2 b1 hx hln;go_wp2_with fail;generalize hW1:w1.alloc (.cells #[.slice none 0 0,.bool s1,.slice A1 n1 c1] 33)=W1 at *;clear hW1;have HE:=Ad (show Fl W1 w1.heap.size (BU xs) K (fun z=>z) 2 0 W1 from
  ⟨[],none,0,s1,A1,n1,c1,XB.out,Az.nil _ _ _ _,rfl,rfl,fun p hp=>by simp at hp,HR1.out,Ao.refl _ _,Kp.refl _⟩)
 go_loopw [6,7,13] (fun _ _ i wr=>∃q:Nat,q<=n/\i=.int .i64 q/\Hid (Fl W1 w1.heap.size (BU xs) K (fun z=>z) 2 q wr)) (fun _ _ i _=>n-(intOf i).toNat)
 case atStart=>exact ⟨0,Nat.zero_le _,rfl,HE⟩
 case round=>
  obtain ⟨q,hq,rfl,HR⟩:=hrel;obtain ⟨rs,A4,c4,s4,B4,m4,d4,xg,lr,hrl,hlin,hrz,zK,oW,kW⟩:=HR.out;have hT:Below w0.heap.size w0 wr:=HW1.out.trans (oW.below HW1.out.size (by have:=hz3.out;omega));by_cases hqn:q<n
  · obtain ⟨bb,o,x,rfl,hlt,hx,c0⟩:=(HI.out.below hT).at_ hqn;have hxb:=hxs x (List.mem_of_getElem? hx);have HLp:=Ad (RQ xs q x hx);have HXG:=Ad xg;have HL:=Ad lr;have HRL:=Ad hrl;have HLI:=Ad hlin;have HRZ:=Ad hrz;have HZK:=Ad zK;have HOW:=Ad oW;have HKW:=Ad kW;have HWS:=Ad oW.size;have HTT:=Ad hT;have HRW:=Ad (show ∀gs,(Value.slice A4 q c4).ownBlock=some gs->gs<wr.heap.size from fun gs e=>(lr.lt gs e).2);have HF6:=Ad (fun W (_:Below wr.heap.size wr W)=>QC x W hxb.1 hxb.2)
    have SOF:=Ad (show ∀W,Below wr.heap.size wr W->(W.cell? ⟨w1.heap.size,0,none⟩=some (.slice A4 q c4)) from fun W h=>(HXG.out.next h).c0);clear xg lr hrl hlin hrz zK oW kW hT hx hxb HR;go_wp2_with fail;clear c0
    refine AJ (by kernel_rfl) (by kernel_rfl) (by kernel_rfl) (by kernel_rfl) (Tg (Value.slice A4 q c4).ownBlock) (fun j v w=>match j with|0=>v=.pointer (some ⟨w1.heap.size,0,none⟩)|1=>v=.slice A4 q c4|2=>v=.int .i64 (q:Int)|3=>v=.int .i64 x|4=>∃s B m d,v=.agg #[.bool s,.slice B m d]/\Au w (.agg #[.bool s,.slice B m d]) x 2|5=>∃s B m d,v=.agg #[.int .i64 (q:Int),.bool s,.slice B m d]/\Au w (.agg #[.bool s,.slice B m d]) x 2|6=>∃gs s B m d,v=.slice (some ⟨gs,0,none⟩) 1 1/\wr.heap.size<=gs/\Aw 59 w gs #[.int .i64 (q:Int),.bool s,.slice B m d]/\Au w (.agg #[.bool s,.slice B m d]) x 2|7=>True|8=>v=.pointer (some ⟨w1.heap.size,0,none⟩)|_=>True) (GA 7 wr (fun v w=>∃p2:PV,p2.v=(q:Int)/\p2.Z=x/\Az 59 3 w W1.heap.size v (rs++[p2]).length (flat (rs++[p2]))/\Au w p2.num p2.Z 2/\Tg (Value.slice A4 q c4).ownBlock wr w)) ?_ (fun _=>GA.start _ (Ak wr 1)) ?_ ?_
    · intro j v w w' hT h;match j,h with
      |0,h=>exact h
      |1,h=>exact h
      |2,h=>exact h
      |3,h=>exact h
      |4,h=>exact (by obtain ⟨s,B,m,d,e,z⟩:=h;exact ⟨s,B,m,d,e,z.kp hT.2⟩)
      |5,h=>exact (by obtain ⟨s,B,m,d,e,z⟩:=h;exact ⟨s,B,m,d,e,z.kp hT.2⟩)
      |6,h=>exact (by obtain ⟨gs,s,B,m,d,e,h1,h2,h3⟩:=h;exact ⟨gs,s,B,m,d,e,h1,h2.grown hT.1 (fun e=>by have:=HRW.out gs e.symm;omega),h3.kp hT.2⟩)
      |7,h=>exact trivial
      |8,h=>exact h
      |j+9,h=>trivial
    · refine ⟨?_,?_,?_,?_,?_,?_,?_,?_,?_,trivial⟩
      · intro listed σ w a hin hout hl hla hs hc hp hG hF;refine Ac.none rfl ?_;have e5:a.tmps.getD 5 undef=.pointer (some ⟨w1.heap.size,0,none⟩):=hout 5 (Af (by kernel_rfl));refine Does.val (.pointer (some ⟨w1.heap.size,0,none⟩)) (w':=w) ?_ ⟨Tg.refl _ _,rfl,hG.same (by decide)⟩;simp only[Array.getD_eq_getD_getElem?]at e5;go_simp
      · intro listed σ w a hin hout hl hla hs hc hp hG hF;refine Ac.none rfl ?_;have e18:a.tmps.getD 18 undef=.pointer (some ⟨w1.heap.size,0,none⟩):=(hin 0 18 rfl (hp ⟨0,.data⟩ (by simp) rfl)).trans (hF 0 (hp ⟨0,.data⟩ (by simp) rfl));have CC:=SOF.out w (hG.1 (Ah (k:=7) hc hl (by kernel_rfl)));obtain C0:=CC;refine Does.val (.slice A4 q c4) (w':=w) ?_ ⟨Tg.refl _ _,rfl,hG.same (by decide)⟩;go_simp
      · intro listed σ w a hin hout hl hla hs hc hp hG hF;refine Ac.none rfl ?_;have e6:a.tmps.getD 6 undef=.int .i64 (q:Int):=hout 6 (Af (by kernel_rfl));refine Does.val (.int .i64 (q:Int)) (w':=w) ?_ ⟨Tg.refl _ _,rfl,hG.same (by decide)⟩;simp only[Array.getD_eq_getD_getElem?]at e6;go_simp
      · intro listed σ w a hin hout hl hla hs hc hp hG hF;refine Ac.none rfl ?_;have e7:a.tmps.getD 7 undef=.int .i64 x:=hout 7 (Af (by kernel_rfl));refine Does.val (.int .i64 x) (w':=w) ?_ ⟨Tg.refl _ _,rfl,hG.same (by decide)⟩;simp only[Array.getD_eq_getD_getElem?]at e7;go_simp
      · intro listed σ w a hin hout hl hla hs hc hp hG hF;refine Ac.none rfl ?_;have e21:a.tmps.getD 21 undef=.int .i64 x:=(hin 3 21 rfl (hp ⟨3,.data⟩ (by simp) rfl)).trans (hF 3 (hp ⟨3,.data⟩ (by simp) rfl));refine Does.call ?_ (HF6.out w (hG.1 (Ah (k:=7) hc hl (by kernel_rfl)))) ?_
        · go_simp;(try exact eg _ _)
        · rintro e w' ⟨v,rfl,z,hb⟩;exact ⟨_,rfl,Tg.of_below hb,(by obtain ⟨s,B,m,d,rfl⟩:=z.form;exact ⟨s,B,m,d,rfl,z⟩),hG.call (by decide) (Ah (k:=7) hc hl (by kernel_rfl)) hb⟩
      · intro listed σ w a hin hout hl hla hs hc hp hG hF;refine Ac.none rfl ?_;have e20:a.tmps.getD 20 undef=.int .i64 (q:Int):=(hin 2 20 rfl (hp ⟨2,.data⟩ (by simp) rfl)).trans (hF 2 (hp ⟨2,.data⟩ (by simp) rfl));have e22:=hin 4 22 rfl (hp ⟨4,.data⟩ (by simp) rfl);obtain ⟨s4,B4,m4,d4,ev4,z4⟩:=hF 4 (hp ⟨4,.data⟩ (by simp) rfl);rw[ev4]at e22
        refine Does.val (.agg #[.int .i64 (q:Int),.bool s4,.slice B4 m4 d4]) (w':=w) ?_ ⟨Tg.refl _ _,⟨s4,B4,m4,d4,rfl,z4⟩,hG.same (by decide)⟩;simp only[Array.getD_eq_getD_getElem?]at e20 e22;go_simp
      · intro listed σ w a hin hout hl hla hs hc hp hG hF;refine Ac.none rfl ?_;have e23:=hin 5 23 rfl (hp ⟨5,.data⟩ (by simp) rfl);obtain ⟨s5,B5,m5,d5,ev5,z5⟩:=hF 5 (hp ⟨5,.data⟩ (by simp) rfl);rw[ev5]at e23
        refine Does.val (.slice (some ⟨w.heap.size,0,none⟩) 1 1) (w':=w.alloc (.cells #[.int .i64 (q:Int),.bool s5,.slice B5 m5 d5] 59)) ?_ ⟨Tg.of_below (Ae w _),⟨w.heap.size,s5,B5,m5,d5,rfl,(hG.1 (Ah (k:=7) hc hl (by kernel_rfl))).size,Aw.new _ _ _,z5.alloc _⟩,hG.call (by decide) (Ah (k:=7) hc hl (by kernel_rfl)) (Ae w _)⟩;simp only[Array.getD_eq_getD_getElem?]at e23;go_simp
      · intro listed σ w a hin hout hl hla hs hc hp hG hF;refine Ac.none rfl ?_;have e19:a.tmps.getD 19 undef=.slice A4 q c4:=(hin 1 19 rfl (hp ⟨1,.data⟩ (by simp) rfl)).trans (hF 1 (hp ⟨1,.data⟩ (by simp) rfl));have e24:=hin 6 24 rfl (hp ⟨6,.data⟩ (by simp) rfl);obtain ⟨g6,s6,B6,m6,d6,ev6,hg6,x6,z6⟩:=hF 6 (hp ⟨6,.data⟩ (by simp) rfl);rw[ev6]at e24;have hl0:=hl;have hB:=hG.1 hl;have hl:=HL.out.below hB;obtain ⟨i0,hi0,hz0,hz1,hz2⟩:=info_parts DK
        obtain ⟨v',w',hr,h2,h3⟩:=Dv (P:=Tryz.prog) w W1.heap.size 27 27 59 i0 _ 3 40 Tryz.underlying27 hi0 hz0 hz1 hz2 rfl (by decide) Cd (.slice A4 q c4) q (flat rs) hl ⟨g6,0,none⟩ 1 1 (flat [⟨(q:Int),s6,B6,m6,d6,x⟩]) rfl (fun jj u hu=>by rw[addr_add,Nat.zero_add];exact x6.cell jj u (by simpa[flat,PV.cells] using hu)) (I6 _) (Gp _) (by unfold maxLen;omega) (by omega) (Nat.le_trans HWS.out hB.size);have hk:=hl.kp h3
        refine Does.val v' (w':=w') ?_ ⟨⟨h3,hk⟩,trivial,GA.on_ hl0 (by rw[hs];decide) ⟨⟨(q:Int),s6,B6,m6,d6,x⟩,rfl,rfl,?_,z6.kp hk,⟨World.grownBy.trans2 hB h3,(Kp.of_below hB).trans hk⟩⟩⟩
        · exact AW rfl e19 e24 hr
        · rw[Fj,List.length_append,HRL.out];exact h2
      · intro listed σ w a hin hout hl hla hs hc hp hG hF;refine Ac.none rfl ?_;have e5:a.tmps.getD 5 undef=.pointer (some ⟨w1.heap.size,0,none⟩):=hout 5 (Af (by kernel_rfl));refine Does.val (.pointer (some ⟨w1.heap.size,0,none⟩)) (w':=w) ?_ ⟨Tg.refl _ _,rfl,hG.same (by decide)⟩;simp only[Array.getD_eq_getD_getElem?]at e5;go_simp
    · intro o ho;injection ho with ho;subst ho
      intro listed σ w a hall hin hout hG hF;refine Ac.none rfl ?_;have e26:a.tmps.getD 26 undef=.pointer (some ⟨w1.heap.size,0,none⟩):=(hin 8 26 rfl (by decide)).trans (hF 8 (by decide));have e25:=hin 7 25 rfl (by decide);have z7:=hF 7 (by decide);obtain ⟨p2,e1,e2,l2,z2,tg⟩:=hG.2 (hall 7 (by decide));have hlr:=HL.out;have x9:=HXG.out.grown tg.1 (fun e=>hlr.offTerm HXG.out e.symm);obtain ⟨A2,c2,hv2,-,-,-⟩:=l2.len;have hlen2:(rs++[p2]).length=q+1:=(by simp[HRL.out])
      rw[hlen2]at hv2;rw[hv2]at e25 l2;have u0:=x9.c0;have u1:=x9.fr 0;refine Does.skip (w':=w.setCell ⟨w1.heap.size,0,none⟩ (.slice A2 (q+1) c2)) (by go_simp) ?_;have HE2:=Ad (Fl.step (f:=fun z=>z) HXG.out hlr HRL.out HLI.out HRZ.out HZK.out HOW.out HKW.out HLp.out e1 e2 l2 z2 tg)
      rw[show fin _ σ undef _=(Act.put (Act.put (Act.put (Act.put (Act.put (Act.put (Act.put (Act.put (Act.put (Act.put _ (some 18) (σ 0)) (some 19) (σ 1)) (some 20) (σ 2)) (some 21) (σ 3)) (some 22) (σ 4)) (some 23) (σ 5)) (some 24) (σ 6)) (some 25) (σ 7)) (some 26) (σ 8)) none undef) from (Bn hall).trans rfl];simp only[Act.put,List.setIfInBounds_toArray,List.set_cons_zero,List.set_cons_succ]
      generalize σ 0=tt0;generalize σ 1=tt1;generalize σ 2=tt2;generalize σ 3=tt3;generalize σ 4=tt4;generalize σ 5=tt5;generalize σ 6=tt6;generalize σ 7=tt7 at *;generalize σ 8=tt8;clear hF hG hall hin hout SOF HF6 HRW l2 z2 tg x9 u0 u1 hlen2;generalize w.setCell ⟨w1.heap.size,0,none⟩ (.slice A2 (q+1) c2)=w8 at *;go_wp2_with fail;go_roundw
      case rel=>exact ⟨q+1,by omega,by go_num,HE2⟩
      case measure=>simp[intOf]<;>omega
  · obtain rfl:q=n:=(by omega);have hL2:=Ad (show Ca rs=BU xs by
      rw[hlin,List.take_of_length_le (by rw[Nh];have:=HLN.out;omega)];simp)
    have hR:=XR.out.other oW (by have:=hz3.out;omega);obtain ⟨A',c',hv',hc1',hc2',-⟩:=lr.len;injection hv' with e1' e2' e3'
    subst e1' e3';have HOP:=Ad (show Gv wr w0.heap.size (.slice A4 q c4) q (Ca rs) 2 from ⟨rs,lr.rebase HW1.out.size,hrl,rfl,hrz⟩);have HZK:=Ad zK;have HB:=Ad hT;have HR5:=Ad hR;have x0:=xg.c0;have x1:=xg.c1;have x2:=xg.c2;clear lr hrl hlin hrz zK oW kW HR xg hT;go_wp2_with (with_reducible refine AO rfl _ _ rfl w0.heap.size _ _ _ _ _ _ _ rfl rfl _ _ _ hR ?_;intro w7 k7 ho7);refine Bw rfl rfl k7 rfl ?_;have hk:=HR5.out.kp (QB _ _ _ _ _ _ _) ho7
    refine ⟨A4,c4,s4,B4,m4,d4,rfl,?_,hc1',hc2',HZK.out.kp hk,AH HB.out (by omega) ho7⟩;rw[<-hL2.out];obtain ⟨ts,g1,g2,g3,g4⟩:=HOP.out;exact ⟨ts,g1.onlyTerm HR5.out ho7,g2,g3,fun p hp=>(g4 p hp).kp hk⟩
theorem Bq (K:Int) (A:Option Addr) (n c:Nat) (xs:List Int) (w0:World) (hx:EX w0 A n xs) (hk1:-9223372036854775808<=K) (hk2:K<=9223372036854775807) (hxs:∀x∈xs,-9223372036854775808<=x/\x<=9223372036854775807) (hn1:n<=1099511):Calls Tryz.prog 16 #[.int .i64 K,.slice A n c] w0 (Bm (BU xs) K 2 w0):=
 (QK K A n c xs w0 hx hk1 hk2 hxs hn1).mono fun _ _ h=>h.res
end
end Go.Proofs.YtemfjdedjcjegaaGreatDoor
