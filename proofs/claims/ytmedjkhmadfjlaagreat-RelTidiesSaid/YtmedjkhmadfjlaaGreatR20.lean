/- Texts of one seat, put together: RSame. -/
import Derived.Test.YtmedjkhmadfjlaaGreatR19
set_option linter.unusedVariables false
set_option linter.unusedSimpArgs false
set_option maxRecDepth 100000
set_option maxHeartbeats 16000000
namespace Go.Proofs.YtmedjkhmadfjlaaGreat
section
open Go.RowKit
open Tm
theorem GO (v u:Value) (L:List (Int×Int)) (K:Int) (k ku:Nat) (w0:World) (hv:Aw w0 v L K k) (hu:Aw w0 u L K ku) (hl:L.length<=1099511):Calls Tryz.prog 60 #[v,u] w0 (Ek w0):=by
 obtain ⟨A,n,c,s,B,m,d,rfl,⟨ps,hps,hlp,hzp⟩,hc1,hc2,hK⟩:=hv;obtain ⟨A2,n2,c2,s2,B2,m2,d2,rfl,⟨qs,hqs,hlq,hzq⟩,hc3,hc4,hK2⟩:=hu;have hn:L.length=n:=by rw[<-hlp,<-hps.1];simp[Cl]
 have hn2:L.length=n2:=by rw[<-hlq,<-hqs.1];simp[Cl]
 obtain rfl:n=n2:=by omega
 obtain ⟨z0,z1,z2,z3⟩:=Bi 40 40 w0 #[.slice A n c,.bool s,.slice B m d] #[.slice A2 n c2,.bool s2,.slice B2 m2 d2];have x0:=z0.c0;have x1:=z0.c1;have x2:=z0.c2;have y0:=z1.c0;have y1:=z1.c1;have y2:=z1.c2;have hsm:=Gh _ _ K k ku _ (hK.below z2) (hK2.below z2);have hnn:(((n:Int)) != (n:Int))=false:=by simp
 have HP:=Ac hps;have HQ:=Ac hqs;have HZP:=Ac hzp;have HZQ:=Ac hzq;have HLP:=Ac hlp;have HLQ:=Ac hlq;have X:=Ac z0;have Y:=Ac z1;have T:=Ac z2;have HN:=Ac hn;have hn1:n<=1099511:=by omega
 clear hps hqs hzp hzq hlp hlq z0 z1 z2 z3 hK hK2 hn hn2;go_enter Tryz.func60,Tryz.ntmps60;go_wp2_with fail;refine hsm.mono ?_;rintro e w1 ⟨rfl,b1⟩;have HX:=Ac (X.out.next b1);have HY:=Ac (Y.out.next b1);have HB:=Ac (T.out.next b1);clear hsm b1 x0 x1 x2 y0 y1 y2;go_wp2_with fail;go_loopw [5] (fun i wr=>∃q:Nat,q<=n/\i=.int .i64 q/\Hid (Below w1.heap.size w1 wr)) (fun i _=>n-(intOf i).toNat)
 case atStart=>exact ⟨0,Nat.zero_le _,rfl,Ac (Below.refl _ _)⟩
 case round=>
  obtain ⟨q,hq,rfl,HR⟩:=hrel;have hT:=HB.out.next HR.out;have X9:=Ac (HX.out.next HR.out);have Y9:=Ac (HY.out.next HR.out);have xa:=X9.out.c0;have ya:=Y9.out.c0;by_cases hqn:q<n
  · obtain ⟨bb,o,p,rfl,hlt,hp,c0,c1,d0,-⟩:=(HP.out.below hT).at3 hqn;obtain ⟨bb2,o2,p2,rfl,hlt2,hp2,e0,e1,f0,-⟩:=(HQ.out.below hT).at3 hqn;have hpe:p2.v=p.v/\p2.Z=p.Z:=by
      have h1:L[q]?=some (p.v,p.Z):=(by rw[<-HLP.out];simp[Cl,PV.part,hp]);have h2:L[q]?=some (p2.v,p2.Z):=(by rw[<-HLQ.out];simp[Cl,PV.part,hp2]);rw[h1]at h2;injection h2 with h2
      injection h2 with h3 h4
      exact ⟨h3.symm,h4.symm⟩
    have HTT:=Ac hT;have HS:=Ac (fun W (h:Below wr.heap.size wr W)=>Gh (.agg #[.bool p.s,.slice p.B p.m p.d]) (.agg #[.bool p2.s,.slice p2.B p2.m p2.d]) p.Z k ku W ((HZP.out p (List.mem_of_getElem? hp)).below (HTT.out.next h)) (by rw[<-hpe.2];exact (HZQ.out p2 (List.mem_of_getElem? hp2)).below (HTT.out.next h)));unfold Ek at HS;rw[hpe.1]at e0
    have SOF:=Ac (show ∀W,Below wr.heap.size wr W->(W.cell? ⟨w0.heap.size,0,none⟩=some (.slice (some ⟨bb,o,none⟩) n c)/\W.cell? ⟨w0.heap.size+1,0,none⟩=some (.slice (some ⟨bb2,o2,none⟩) n c2)/\W.cell? ⟨bb,o+q*3,none⟩=some (.int .i64 p.v)/\W.cell? ⟨bb,o+q*3+1,none⟩=some (.bool p.s)/\W.cell? ⟨bb,o+q*3+2,none⟩=some (.slice p.B p.m p.d)/\W.cell? ⟨bb2,o2+q*3,none⟩=some (.int .i64 p.v)/\W.cell? ⟨bb2,o2+q*3+1,none⟩=some (.bool p2.s)/\W.cell? ⟨bb2,o2+q*3+2,none⟩=some (.slice p2.B p2.m p2.d)) from fun W h=>⟨(X9.out.next h).c0,(Y9.out.next h).c0,(h.cell (p:=⟨bb,o+q*3,none⟩) hlt).trans c0,(h.cell (p:=⟨bb,o+q*3+1,none⟩) hlt).trans c1,(h.cell (p:=⟨bb,o+q*3+2,none⟩) hlt).trans d0,(h.cell (p:=⟨bb2,o2+q*3,none⟩) hlt2).trans e0,(h.cell (p:=⟨bb2,o2+q*3+1,none⟩) hlt2).trans e1,(h.cell (p:=⟨bb2,o2+q*3+2,none⟩) hlt2).trans f0⟩)
    clear hT hp hp2 c0 c1 d0 e0 e1 f0 hpe;go_wp2_with fail;clear xa ya
    refine AO (by kernel_rfl) (by kernel_rfl) (by kernel_rfl) (fun w w'=>Below w.heap.size w w') (fun j v w=>match j with|0=>v=.pointer (some ⟨w0.heap.size,0,none⟩)|1=>v=.slice (some ⟨bb,o,none⟩) n c|2=>v=.int .i64 (q:Int)|3=>v=.pointer (some ⟨bb,o+q*3,none⟩)|4=>v=.pointer (some ⟨bb,o+q*3,none⟩)|5=>v=.int .i64 p.v|6=>v=.pointer (some ⟨w0.heap.size+1,0,none⟩)|7=>v=.slice (some ⟨bb2,o2,none⟩) n c2|8=>v=.int .i64 (q:Int)|9=>v=.pointer (some ⟨bb2,o2+q*3,none⟩)|10=>v=.pointer (some ⟨bb2,o2+q*3,none⟩)|11=>v=.int .i64 p.v|12=>v=.bool false|13=>v=.bool false|14=>v=.pointer (some ⟨w0.heap.size,0,none⟩)|15=>v=.slice (some ⟨bb,o,none⟩) n c|16=>v=.int .i64 (q:Int)|17=>v=.pointer (some ⟨bb,o+q*3,none⟩)|18=>v=.pointer (some ⟨bb,o+q*3+1,none⟩)|19=>v=.agg #[.bool p.s,.slice p.B p.m p.d]|20=>v=.pointer (some ⟨w0.heap.size+1,0,none⟩)|21=>v=.slice (some ⟨bb2,o2,none⟩) n c2|22=>v=.int .i64 (q:Int)|23=>v=.pointer (some ⟨bb2,o2+q*3,none⟩)|24=>v=.pointer (some ⟨bb2,o2+q*3+1,none⟩)|25=>v=.agg #[.bool p2.s,.slice p2.B p2.m p2.d]|26=>v=.bool true|27=>v=.bool false|28=>v=.bool false|_=>True) (fun _ _ w=>Below wr.heap.size wr w) ?_ (fun _=>Ap wr 1) ?_ ?_
    · intro j v w w' hT h;match j,h with
      |0,h=>exact h
      |1,h=>exact h
      |2,h=>exact h
      |3,h=>exact h
      |4,h=>exact h
      |5,h=>exact h
      |6,h=>exact h
      |7,h=>exact h
      |8,h=>exact h
      |9,h=>exact h
      |10,h=>exact h
      |11,h=>exact h
      |12,h=>exact h
      |13,h=>exact h
      |14,h=>exact h
      |15,h=>exact h
      |16,h=>exact h
      |17,h=>exact h
      |18,h=>exact h
      |19,h=>exact h
      |20,h=>exact h
      |21,h=>exact h
      |22,h=>exact h
      |23,h=>exact h
      |24,h=>exact h
      |25,h=>exact h
      |26,h=>exact h
      |27,h=>exact h
      |28,h=>exact h
      |j+29,h=>trivial
    · refine ⟨?_,?_,?_,?_,?_,?_,?_,?_,?_,?_,?_,?_,?_,?_,?_,?_,?_,?_,?_,?_,?_,?_,?_,?_,?_,?_,?_,?_,?_,trivial⟩
      · intro l9 σ w a hin hout hl hc hp hG hF;refine Ad.none rfl ?_;have e2:a.tmps.getD 2 undef=.pointer (some ⟨w0.heap.size,0,none⟩):=hout 2 (Ae (by kernel_rfl));refine Does.val (.pointer (some ⟨w0.heap.size,0,none⟩)) (w':=w) ?_ ⟨Below.refl _ _,rfl,hG⟩;simp only[Array.getD_eq_getD_getElem?]at e2;go_simp
      · intro l9 σ w a hin hout hl hc hp hG hF;refine Ad.none rfl ?_;have e28:a.tmps.getD 28 undef=.pointer (some ⟨w0.heap.size,0,none⟩):=Am (hin 0 28) rfl (hp ⟨0,.data⟩ (by simp) rfl) (hF 0);have CC:=SOF.out w hG;obtain ⟨C0,C1,D0,D1,D2,E0,E1,E2⟩:=CC;refine Does.val (.slice (some ⟨bb,o,none⟩) n c) (w':=w) ?_ ⟨Below.refl _ _,rfl,hG⟩;go_simp
      · intro l9 σ w a hin hout hl hc hp hG hF;refine Ad.none rfl ?_;have e5:a.tmps.getD 5 undef=.int .i64 (q:Int):=hout 5 (Ae (by kernel_rfl));refine Does.val (.int .i64 (q:Int)) (w':=w) ?_ ⟨Below.refl _ _,rfl,hG⟩;simp only[Array.getD_eq_getD_getElem?]at e5;go_simp
      · intro l9 σ w a hin hout hl hc hp hG hF;refine Ad.none rfl ?_;have e29:a.tmps.getD 29 undef=.slice (some ⟨bb,o,none⟩) n c:=Am (hin 1 29) rfl (hp ⟨1,.data⟩ (by simp) rfl) (hF 1);have e30:a.tmps.getD 30 undef=.int .i64 (q:Int):=Am (hin 2 30) rfl (hp ⟨2,.data⟩ (by simp) rfl) (hF 2);refine Does.val (.pointer (some ⟨bb,o+q*3,none⟩)) (w':=w) ?_ ⟨Below.refl _ _,rfl,hG⟩;simp only[Array.getD_eq_getD_getElem?]at e29 e30;go_simp;(try (intro hh;exfalso;omega))
      · intro l9 σ w a hin hout hl hc hp hG hF;refine Ad.none rfl ?_;have e31:a.tmps.getD 31 undef=.pointer (some ⟨bb,o+q*3,none⟩):=Am (hin 3 31) rfl (hp ⟨3,.data⟩ (by simp) rfl) (hF 3);refine Does.val (.pointer (some ⟨bb,o+q*3,none⟩)) (w':=w) ?_ ⟨Below.refl _ _,rfl,hG⟩;simp only[Array.getD_eq_getD_getElem?]at e31;go_simp
      · intro l9 σ w a hin hout hl hc hp hG hF;refine Ad.none rfl ?_;have e32:a.tmps.getD 32 undef=.pointer (some ⟨bb,o+q*3,none⟩):=Am (hin 4 32) rfl (hp ⟨4,.data⟩ (by simp) rfl) (hF 4);have CC:=SOF.out w hG;obtain ⟨C0,C1,D0,D1,D2,E0,E1,E2⟩:=CC;refine Does.val (.int .i64 p.v) (w':=w) ?_ ⟨Below.refl _ _,rfl,hG⟩;go_simp
      · intro l9 σ w a hin hout hl hc hp hG hF;refine Ad.none rfl ?_;have e3:a.tmps.getD 3 undef=.pointer (some ⟨w0.heap.size+1,0,none⟩):=hout 3 (Ae (by kernel_rfl));refine Does.val (.pointer (some ⟨w0.heap.size+1,0,none⟩)) (w':=w) ?_ ⟨Below.refl _ _,rfl,hG⟩;simp only[Array.getD_eq_getD_getElem?]at e3;go_simp
      · intro l9 σ w a hin hout hl hc hp hG hF;refine Ad.none rfl ?_;have e34:a.tmps.getD 34 undef=.pointer (some ⟨w0.heap.size+1,0,none⟩):=Am (hin 6 34) rfl (hp ⟨6,.data⟩ (by simp) rfl) (hF 6);have CC:=SOF.out w hG;obtain ⟨C0,C1,D0,D1,D2,E0,E1,E2⟩:=CC;refine Does.val (.slice (some ⟨bb2,o2,none⟩) n c2) (w':=w) ?_ ⟨Below.refl _ _,rfl,hG⟩;go_simp
      · intro l9 σ w a hin hout hl hc hp hG hF;refine Ad.none rfl ?_;have e5:a.tmps.getD 5 undef=.int .i64 (q:Int):=hout 5 (Ae (by kernel_rfl));refine Does.val (.int .i64 (q:Int)) (w':=w) ?_ ⟨Below.refl _ _,rfl,hG⟩;simp only[Array.getD_eq_getD_getElem?]at e5;go_simp
      · intro l9 σ w a hin hout hl hc hp hG hF;refine Ad.none rfl ?_;have e35:a.tmps.getD 35 undef=.slice (some ⟨bb2,o2,none⟩) n c2:=Am (hin 7 35) rfl (hp ⟨7,.data⟩ (by simp) rfl) (hF 7);have e36:a.tmps.getD 36 undef=.int .i64 (q:Int):=Am (hin 8 36) rfl (hp ⟨8,.data⟩ (by simp) rfl) (hF 8);refine Does.val (.pointer (some ⟨bb2,o2+q*3,none⟩)) (w':=w) ?_ ⟨Below.refl _ _,rfl,hG⟩;simp only[Array.getD_eq_getD_getElem?]at e35 e36;go_simp;(try (intro hh;exfalso;omega))
      · intro l9 σ w a hin hout hl hc hp hG hF;refine Ad.none rfl ?_;have e37:a.tmps.getD 37 undef=.pointer (some ⟨bb2,o2+q*3,none⟩):=Am (hin 9 37) rfl (hp ⟨9,.data⟩ (by simp) rfl) (hF 9);refine Does.val (.pointer (some ⟨bb2,o2+q*3,none⟩)) (w':=w) ?_ ⟨Below.refl _ _,rfl,hG⟩;simp only[Array.getD_eq_getD_getElem?]at e37;go_simp
      · intro l9 σ w a hin hout hl hc hp hG hF;refine Ad.none rfl ?_;have e38:a.tmps.getD 38 undef=.pointer (some ⟨bb2,o2+q*3,none⟩):=Am (hin 10 38) rfl (hp ⟨10,.data⟩ (by simp) rfl) (hF 10);have CC:=SOF.out w hG;obtain ⟨C0,C1,D0,D1,D2,E0,E1,E2⟩:=CC;refine Does.val (.int .i64 p.v) (w':=w) ?_ ⟨Below.refl _ _,rfl,hG⟩;go_simp
      · intro l9 σ w a hin hout hl hc hp hG hF;refine Ad.none rfl ?_;have e33:a.tmps.getD 33 undef=.int .i64 p.v:=Am (hin 5 33) rfl (hp ⟨5,.data⟩ (by simp) rfl) (hF 5);have e39:a.tmps.getD 39 undef=.int .i64 p.v:=Am (hin 11 39) rfl (hp ⟨11,.data⟩ (by simp) rfl) (hF 11);refine Does.val (.bool false) (w':=w) ?_ ⟨Below.refl _ _,rfl,hG⟩;simp only[Array.getD_eq_getD_getElem?]at e33 e39;go_simp
      · intro l9 σ w a hin hout hl hc hp hG hF;refine Ad.none rfl ?_;have e40:a.tmps.getD 40 undef=.bool false:=Am (hin 12 40) rfl (hp ⟨12,.data⟩ (by simp) rfl) (hF 12);refine Does.val (.bool false) (w':=w) ?_ ⟨Below.refl _ _,rfl,hG⟩;simp only[Array.getD_eq_getD_getElem?]at e40;go_simp
      · intro l9 σ w a hin hout hl hc hp hG hF;refine Ad.some (d:=41) (b:=false) rfl rfl (Am (hin 13 41) rfl (hp ⟨13,.guard⟩ (by simp) rfl) (hF 13)) ?_;refine Or.inl ⟨rfl,?_⟩;have e2:a.tmps.getD 2 undef=.pointer (some ⟨w0.heap.size,0,none⟩):=hout 2 (Ae (by kernel_rfl));refine Does.val (.pointer (some ⟨w0.heap.size,0,none⟩)) (w':=w) ?_ ⟨Below.refl _ _,rfl,hG⟩;simp only[Array.getD_eq_getD_getElem?]at e2;go_simp
      · intro l9 σ w a hin hout hl hc hp hG hF;refine Ad.some (d:=41) (b:=false) rfl rfl (Am (hin 13 41) rfl (hp ⟨13,.guard⟩ (by simp) rfl) (hF 13)) ?_;refine Or.inl ⟨rfl,?_⟩;have e42:a.tmps.getD 42 undef=.pointer (some ⟨w0.heap.size,0,none⟩):=Am (hin 14 42) rfl (hp ⟨14,.data⟩ (by simp) rfl) (hF 14);have CC:=SOF.out w hG;obtain ⟨C0,C1,D0,D1,D2,E0,E1,E2⟩:=CC;refine Does.val (.slice (some ⟨bb,o,none⟩) n c) (w':=w) ?_ ⟨Below.refl _ _,rfl,hG⟩;go_simp
      · intro l9 σ w a hin hout hl hc hp hG hF;refine Ad.some (d:=41) (b:=false) rfl rfl (Am (hin 13 41) rfl (hp ⟨13,.guard⟩ (by simp) rfl) (hF 13)) ?_;refine Or.inl ⟨rfl,?_⟩;have e5:a.tmps.getD 5 undef=.int .i64 (q:Int):=hout 5 (Ae (by kernel_rfl));refine Does.val (.int .i64 (q:Int)) (w':=w) ?_ ⟨Below.refl _ _,rfl,hG⟩;simp only[Array.getD_eq_getD_getElem?]at e5;go_simp
      · intro l9 σ w a hin hout hl hc hp hG hF;refine Ad.some (d:=41) (b:=false) rfl rfl (Am (hin 13 41) rfl (hp ⟨13,.guard⟩ (by simp) rfl) (hF 13)) ?_;refine Or.inl ⟨rfl,?_⟩;have e43:a.tmps.getD 43 undef=.slice (some ⟨bb,o,none⟩) n c:=Am (hin 15 43) rfl (hp ⟨15,.data⟩ (by simp) rfl) (hF 15);have e44:a.tmps.getD 44 undef=.int .i64 (q:Int):=Am (hin 16 44) rfl (hp ⟨16,.data⟩ (by simp) rfl) (hF 16)
        refine Does.val (.pointer (some ⟨bb,o+q*3,none⟩)) (w':=w) ?_ ⟨Below.refl _ _,rfl,hG⟩;simp only[Array.getD_eq_getD_getElem?]at e43 e44;go_simp;(try (intro hh;exfalso;omega))
      · intro l9 σ w a hin hout hl hc hp hG hF;refine Ad.some (d:=41) (b:=false) rfl rfl (Am (hin 13 41) rfl (hp ⟨13,.guard⟩ (by simp) rfl) (hF 13)) ?_;refine Or.inl ⟨rfl,?_⟩;have e45:a.tmps.getD 45 undef=.pointer (some ⟨bb,o+q*3,none⟩):=Am (hin 17 45) rfl (hp ⟨17,.data⟩ (by simp) rfl) (hF 17);refine Does.val (.pointer (some ⟨bb,o+q*3+1,none⟩)) (w':=w) ?_ ⟨Below.refl _ _,rfl,hG⟩;simp only[Array.getD_eq_getD_getElem?]at e45;go_simp
      · intro l9 σ w a hin hout hl hc hp hG hF;refine Ad.some (d:=41) (b:=false) rfl rfl (Am (hin 13 41) rfl (hp ⟨13,.guard⟩ (by simp) rfl) (hF 13)) ?_;refine Or.inl ⟨rfl,?_⟩;have e46:a.tmps.getD 46 undef=.pointer (some ⟨bb,o+q*3+1,none⟩):=Am (hin 18 46) rfl (hp ⟨18,.data⟩ (by simp) rfl) (hF 18);have CC:=SOF.out w hG;obtain ⟨C0,C1,D0,D1,D2,E0,E1,E2⟩:=CC;refine Does.val (.agg #[.bool p.s,.slice p.B p.m p.d]) (w':=w) ?_ ⟨Below.refl _ _,rfl,hG⟩;go_simp
      · intro l9 σ w a hin hout hl hc hp hG hF;refine Ad.some (d:=41) (b:=false) rfl rfl (Am (hin 13 41) rfl (hp ⟨13,.guard⟩ (by simp) rfl) (hF 13)) ?_;refine Or.inl ⟨rfl,?_⟩;have e3:a.tmps.getD 3 undef=.pointer (some ⟨w0.heap.size+1,0,none⟩):=hout 3 (Ae (by kernel_rfl));refine Does.val (.pointer (some ⟨w0.heap.size+1,0,none⟩)) (w':=w) ?_ ⟨Below.refl _ _,rfl,hG⟩;simp only[Array.getD_eq_getD_getElem?]at e3;go_simp
      · intro l9 σ w a hin hout hl hc hp hG hF;refine Ad.some (d:=41) (b:=false) rfl rfl (Am (hin 13 41) rfl (hp ⟨13,.guard⟩ (by simp) rfl) (hF 13)) ?_;refine Or.inl ⟨rfl,?_⟩;have e48:a.tmps.getD 48 undef=.pointer (some ⟨w0.heap.size+1,0,none⟩):=Am (hin 20 48) rfl (hp ⟨20,.data⟩ (by simp) rfl) (hF 20);have CC:=SOF.out w hG;obtain ⟨C0,C1,D0,D1,D2,E0,E1,E2⟩:=CC;refine Does.val (.slice (some ⟨bb2,o2,none⟩) n c2) (w':=w) ?_ ⟨Below.refl _ _,rfl,hG⟩;go_simp
      · intro l9 σ w a hin hout hl hc hp hG hF;refine Ad.some (d:=41) (b:=false) rfl rfl (Am (hin 13 41) rfl (hp ⟨13,.guard⟩ (by simp) rfl) (hF 13)) ?_;refine Or.inl ⟨rfl,?_⟩;have e5:a.tmps.getD 5 undef=.int .i64 (q:Int):=hout 5 (Ae (by kernel_rfl));refine Does.val (.int .i64 (q:Int)) (w':=w) ?_ ⟨Below.refl _ _,rfl,hG⟩;simp only[Array.getD_eq_getD_getElem?]at e5;go_simp
      · intro l9 σ w a hin hout hl hc hp hG hF;refine Ad.some (d:=41) (b:=false) rfl rfl (Am (hin 13 41) rfl (hp ⟨13,.guard⟩ (by simp) rfl) (hF 13)) ?_;refine Or.inl ⟨rfl,?_⟩;have e49:a.tmps.getD 49 undef=.slice (some ⟨bb2,o2,none⟩) n c2:=Am (hin 21 49) rfl (hp ⟨21,.data⟩ (by simp) rfl) (hF 21);have e50:a.tmps.getD 50 undef=.int .i64 (q:Int):=Am (hin 22 50) rfl (hp ⟨22,.data⟩ (by simp) rfl) (hF 22)
        refine Does.val (.pointer (some ⟨bb2,o2+q*3,none⟩)) (w':=w) ?_ ⟨Below.refl _ _,rfl,hG⟩;simp only[Array.getD_eq_getD_getElem?]at e49 e50;go_simp;(try (intro hh;exfalso;omega))
      · intro l9 σ w a hin hout hl hc hp hG hF;refine Ad.some (d:=41) (b:=false) rfl rfl (Am (hin 13 41) rfl (hp ⟨13,.guard⟩ (by simp) rfl) (hF 13)) ?_;refine Or.inl ⟨rfl,?_⟩;have e51:a.tmps.getD 51 undef=.pointer (some ⟨bb2,o2+q*3,none⟩):=Am (hin 23 51) rfl (hp ⟨23,.data⟩ (by simp) rfl) (hF 23);refine Does.val (.pointer (some ⟨bb2,o2+q*3+1,none⟩)) (w':=w) ?_ ⟨Below.refl _ _,rfl,hG⟩;simp only[Array.getD_eq_getD_getElem?]at e51;go_simp
      · intro l9 σ w a hin hout hl hc hp hG hF;refine Ad.some (d:=41) (b:=false) rfl rfl (Am (hin 13 41) rfl (hp ⟨13,.guard⟩ (by simp) rfl) (hF 13)) ?_;refine Or.inl ⟨rfl,?_⟩;have e52:a.tmps.getD 52 undef=.pointer (some ⟨bb2,o2+q*3+1,none⟩):=Am (hin 24 52) rfl (hp ⟨24,.data⟩ (by simp) rfl) (hF 24);have CC:=SOF.out w hG;obtain ⟨C0,C1,D0,D1,D2,E0,E1,E2⟩:=CC;refine Does.val (.agg #[.bool p2.s,.slice p2.B p2.m p2.d]) (w':=w) ?_ ⟨Below.refl _ _,rfl,hG⟩;go_simp
      · intro l9 σ w a hin hout hl hc hp hG hF;refine Ad.some (d:=41) (b:=false) rfl rfl (Am (hin 13 41) rfl (hp ⟨13,.guard⟩ (by simp) rfl) (hF 13)) ?_;refine Or.inl ⟨rfl,?_⟩;have e47:a.tmps.getD 47 undef=.agg #[.bool p.s,.slice p.B p.m p.d]:=Am (hin 19 47) rfl (hp ⟨19,.data⟩ (by simp) rfl) (hF 19);have e53:a.tmps.getD 53 undef=.agg #[.bool p2.s,.slice p2.B p2.m p2.d]:=Am (hin 25 53) rfl (hp ⟨25,.data⟩ (by simp) rfl) (hF 25);refine Does.call ?_ (HS.out w hG) ?_
        · go_simp
        · rintro e w' ⟨rfl,hb⟩;exact ⟨_,rfl,hb,rfl,hG.next hb⟩
      · intro l9 σ w a hin hout hl hc hp hG hF;refine Ad.some (d:=41) (b:=false) rfl rfl (Am (hin 13 41) rfl (hp ⟨13,.guard⟩ (by simp) rfl) (hF 13)) ?_;refine Or.inl ⟨rfl,?_⟩;have e54:a.tmps.getD 54 undef=.bool true:=Am (hin 26 54) rfl (hp ⟨26,.data⟩ (by simp) rfl) (hF 26);refine Does.val (.bool false) (w':=w) ?_ ⟨Below.refl _ _,rfl,hG⟩;simp only[Array.getD_eq_getD_getElem?]at e54;go_simp
      · intro l9 σ w a hin hout hl hc hp hG hF;refine Ad.none rfl ?_;have e41:a.tmps.getD 41 undef=.bool false:=Am (hin 13 41) rfl (hp ⟨13,.data⟩ (by simp) rfl) (hF 13);have e55:a.tmps.getD 55 undef=.bool false:=Am (hin 27 55) rfl (hp ⟨27,.data⟩ (by simp) rfl) (hF 27);refine Does.val (.bool false) (w':=w) ?_ ⟨Below.refl _ _,rfl,hG⟩;simp only[Array.getD_eq_getD_getElem?]at e41 e55;go_simp
    · intro l9 σ W9 hall hG hF
      rw[show mid _ σ l9 _=(Act.put (Act.put (Act.put (Act.put (Act.put (Act.put (Act.put (Act.put (Act.put (Act.put (Act.put (Act.put (Act.put (Act.put (Act.put (Act.put (Act.put (Act.put (Act.put (Act.put (Act.put (Act.put (Act.put (Act.put (Act.put (Act.put (Act.put (Act.put (Act.put _ (some 28) (σ 0)) (some 29) (σ 1)) (some 30) (σ 2)) (some 31) (σ 3)) (some 32) (σ 4)) (some 33) (σ 5)) (some 34) (σ 6)) (some 35) (σ 7)) (some 36) (σ 8)) (some 37) (σ 9)) (some 38) (σ 10)) (some 39) (σ 11)) (some 40) (σ 12)) (some 41) (σ 13)) (some 42) (σ 14)) (some 43) (σ 15)) (some 44) (σ 16)) (some 45) (σ 17)) (some 46) (σ 18)) (some 47) (σ 19)) (some 48) (σ 20)) (some 49) (σ 21)) (some 50) (σ 22)) (some 51) (σ 23)) (some 52) (σ 24)) (some 53) (σ 25)) (some 54) (σ 26)) (some 55) (σ 27)) (some 56) (σ 28)) from (AU hall).trans rfl]
      generalize σ 0=tt0;generalize σ 1=tt1;generalize σ 2=tt2;generalize σ 3=tt3;generalize σ 4=tt4;generalize σ 5=tt5;generalize σ 6=tt6;generalize σ 7=tt7;generalize σ 8=tt8;generalize σ 9=tt9;generalize σ 10=tt10;generalize σ 11=tt11;generalize σ 12=tt12;generalize σ 13=tt13;generalize σ 14=tt14;generalize σ 15=tt15;generalize σ 16=tt16;generalize σ 17=tt17;generalize σ 18=tt18;generalize σ 19=tt19;generalize σ 20=tt20;generalize σ 21=tt21;generalize σ 22=tt22
      generalize σ 23=tt23;generalize σ 24=tt24;generalize σ 25=tt25;generalize σ 26=tt26;generalize σ 27=tt27;rw[show σ 28=.bool false from hF 28 (by decide)];simp only[Act.put,List.setIfInBounds_toArray,List.set_cons_zero,List.set_cons_succ];have TG:=hG;clear hF hG hall;clear σ;have HE:=Ac (HR.out.next TG);clear TG SOF HS;go_wp2_with fail;go_roundw
      case rel=>exact ⟨q+1,by omega,by go_num,HE⟩
      case measure=>simp[intOf]<;>omega
  · obtain rfl:q=n:=(by omega);have HE:=Ac hT;clear hT;go_wp2_with fail;go_ret
    exact ⟨rfl,HE.out⟩
end
end Go.Proofs.YtmedjkhmadfjlaaGreat
