/- Texts of one seat, put together: RDiff. -/
import Derived.Test.YtmedjkhmadfjlaaGreatR20
set_option linter.unusedVariables false
set_option linter.unusedSimpArgs false
set_option maxRecDepth 100000
set_option maxHeartbeats 16000000
namespace Go.Proofs.YtmedjkhmadfjlaaGreat
section
open Go.RowKit
open Tm
def Hp (w:World) (e:Ending) (w':World):Prop:=e=.returned (.bool false)/\Below w.heap.size w w'
theorem Lu {α:Type} [DecidableEq α] {xs ys:List α} (hl:xs.length=ys.length) (h:xs≠ys) (k:Nat) (hk:xs.length<=k):xs.take k≠ys.take k:=by rw[List.take_of_length_le hk,List.take_of_length_le (by omega)];exact h
theorem Sq (A B:Option Addr) (n m c d:Nat) (xs ys:List Nat) (w:World) (hx:Av w A n xs) (hy:Av w B m ys) (hn:n<=9223372036854775807) (hm:m<=9223372036854775807) (hne:xs≠ys) :
   Calls Tryz.prog 151 #[.slice A n c,.slice B m d] w (Ju false w):=by
 by_cases hnm:n=m
 · subst hnm;have h0:((n:Int) != (n:Int))=false:=(by simp);have hlx:=hx.len;have hly:=hy.len;go_enter Tryz.func151,Tryz.ntmps151;go_wp2_with fail;go_loopw [5] (fun i wr=>∃k:Nat,k<=n/\i=.int .i64 (k:Int)/\xs.take k=ys.take k/\∃q,wr=w.drewN q) (fun i _=>n-(intOf i).toNat)
   case atStart=>exact ⟨0,Nat.zero_le _,rfl,rfl,0,rfl⟩
   case round=>
    obtain ⟨k,hk,rfl,htk,q,rfl⟩:=hrel;by_cases hkn:k<n
    · obtain ⟨b1,o1,x,rfl,hxb,hxe,hxc⟩:=hx.at_ hkn;obtain ⟨b2,o2,y,rfl,hyb,hye,hyc⟩:=hy.at_ hkn;by_cases hxy:x=y
      · subst hxy;have hnx:xs.take (k+1)=ys.take (k+1):=by
         rw[List.take_add_one,List.take_add_one,htk];congr 1
         have h5:=hxe.symm.trans hye;rw[List.getD_eq_getElem?_getD,List.getD_eq_getElem?_getD]at h5;rw[List.getElem?_eq_getElem (by omega),List.getElem?_eq_getElem (by omega)]at h5 ⊢;simp only[Option.getD_some]at h5;rw[h5]
        clear hxe hye;have h1:((x:Int) != (x:Int))=false:=(by simp);go_wp2_with fail;go_quiet (fail)
        go_wp2_with fail;go_roundw
        case rel=>exact ⟨k+1,by omega,by go_num,hnx,_,rfl⟩
        case measure=>simp[intOf]<;>omega
      · clear hxe hye;have h1:((x:Int) != (y:Int))=true:=(by simp;omega);go_wp2_with fail;go_quiet (fail)
        go_wp2_with fail;go_ret
        exact ⟨rfl,_,World.drewN_drewN _ _ _⟩
    · exfalso;exact Lu (by omega) hne k (by omega) htk
 · have h0:((n:Int) != (m:Int))=true:=(by simp;omega);go_enter Tryz.func151,Tryz.ntmps151;go_wp2_with fail;go_ret
   exact ⟨rfl,0,rfl⟩
theorem Sr (v u:Value) (Z Y:Int) (k j:Nat) (w:World) (hv:Au w v Z k) (hu:Au w u Y j) (hne:Z≠Y):Calls Tryz.prog 106 #[v,u] w (Hp w):=by
 obtain ⟨A,n,c,rfl,hx,hc,hm,hn⟩:=hv;obtain ⟨B,m,d,rfl,hy,hd,hmd,hmk⟩:=hu;by_cases hs:decide (Z<0)=decide (Y<0)
 · have hcn:Limb.canon Z.natAbs≠Limb.canon Y.natAbs:=by
    intro e;have e2:Z.natAbs=Y.natAbs:=Limb.canon_inj e;have e3:(Z<0)↔(Y<0):=(by simpa using hs);omega
   rw[<-hs]at *;have h0:(decide (Z<0)==decide (Z<0))=true:=(by simp);generalize decide (Z<0)=s at *;generalize Limb.canon Z.natAbs=zs at *;generalize Limb.canon Y.natAbs=ys at *;clear hs;obtain ⟨x0,y0,z2,-⟩:=Dv w #[.bool s,.slice A n c] #[.bool s,.slice B m d];go_enter Tryz.func106,Tryz.ntmps106;go_wp2_with fail;refine (Sq A B n m c d zs ys _ (hx.below z2) (hy.below z2) (by omega) (by omega) hcn).mono ?_;rintro e w1 ⟨rfl,hw⟩;have b1:=TA hw;clear hw;go_wp2_with fail;go_ret
   exact ⟨rfl,z2.next b1⟩
 · have h0:(decide (Z<0)==decide (Y<0))=false:=(by simpa using hs);generalize decide (Z<0)=s at *;generalize decide (Y<0)=s2 at *;obtain ⟨x0,y0,z2,-⟩:=Dv w #[.bool s,.slice A n c] #[.bool s2,.slice B m d];go_enter Tryz.func106,Tryz.ntmps106;go_wp2_with fail;go_ret
   exact ⟨rfl,z2⟩
theorem Ii (v u:Value) (L M:List (Int×Int)) (K:Int) (k ku:Nat) (w0:World) (hv:Aw w0 v L K k) (hu:Aw w0 u M K ku) (hl:L.length<=1099511) (hl2:M.length<=1099511) (hne:L≠M):Calls Tryz.prog 60 #[v,u] w0 (Hp w0):=by
 obtain ⟨A,n,c,s,B,m,d,rfl,⟨ps,hps,hlp,hzp⟩,hc1,hc2,hK⟩:=hv;obtain ⟨A2,n2,c2,s2,B2,m2,d2,rfl,⟨qs,hqs,hlq,hzq⟩,hc3,hc4,hK2⟩:=hu;have hn:L.length=n:=by rw[<-hlp,<-hps.1];simp[Cl]
 have hn2:M.length=n2:=by rw[<-hlq,<-hqs.1];simp[Cl]
 by_cases hnm:n=n2
 · subst hnm;obtain ⟨z0,z1,z2,z3⟩:=Bi 40 40 w0 #[.slice A n c,.bool s,.slice B m d] #[.slice A2 n c2,.bool s2,.slice B2 m2 d2];have x0:=z0.c0;have x1:=z0.c1;have x2:=z0.c2;have y0:=z1.c0;have y1:=z1.c1;have y2:=z1.c2;have hsm:=Gh _ _ K k ku _ (hK.below z2) (hK2.below z2);have hnn:(((n:Int)) != (n:Int))=false:=(by simp);have HP:=Ac hps;have HQ:=Ac hqs;have HZP:=Ac hzp;have HZQ:=Ac hzq;have HLP:=Ac hlp;have HLQ:=Ac hlq;have X:=Ac z0;have Y:=Ac z1;have T:=Ac z2;have HN:=Ac hn
   have HN2:=Ac hn2;have HNE:=Ac hne;have hn1:n<=1099511:=(by omega);clear hps hqs hzp hzq hlp hlq z0 z1 z2 z3 hK hK2 hn hn2 hne;go_enter Tryz.func60,Tryz.ntmps60;go_wp2_with fail;refine hsm.mono ?_;rintro e w1 ⟨rfl,b1⟩;have HX:=Ac (X.out.next b1);have HY:=Ac (Y.out.next b1);have HB:=Ac (T.out.next b1);clear hsm b1 x0 x1 x2 y0 y1 y2;go_wp2_with fail
   go_loopw [5] (fun i wr=>∃q:Nat,q<=n/\i=.int .i64 q/\Hid (L.take q=M.take q)/\Hid (Below w1.heap.size w1 wr)) (fun i _=>n-(intOf i).toNat)
   case atStart=>exact ⟨0,Nat.zero_le _,rfl,Ac rfl,Ac (Below.refl _ _)⟩
   case round=>
    obtain ⟨q,hq,rfl,HTK,HR⟩:=hrel;have hT:=HB.out.next HR.out;have X9:=Ac (HX.out.next HR.out);have Y9:=Ac (HY.out.next HR.out);have xa:=X9.out.c0;have ya:=Y9.out.c0;by_cases hqn:q<n
    · obtain ⟨bb,o,p,rfl,hlt,hp,c0,c1,d0,-⟩:=(HP.out.below hT).at3 hqn;obtain ⟨bb2,o2,p2,rfl,hlt2,hp2,e0,e1x,f0,-⟩:=(HQ.out.below hT).at3 hqn;have HL1:=Ac (show L[q]?=some (p.v,p.Z) from by rw[<-HLP.out];simp[Cl,PV.part,hp]);have HL2:=Ac (show M[q]?=some (p2.v,p2.Z) from by rw[<-HLQ.out];simp[Cl,PV.part,hp2]);have HTT:=Ac hT;by_cases hsame:p2.v=p.v/\p2.Z=p.Z
      · obtain ⟨e1,e2⟩:=hsame;have HS:=Ac (fun W (h:Below wr.heap.size wr W)=>Gh (.agg #[.bool p.s,.slice p.B p.m p.d]) (.agg #[.bool p2.s,.slice p2.B p2.m p2.d]) p.Z k ku W ((HZP.out p (List.mem_of_getElem? hp)).below (HTT.out.next h)) (by rw[<-e2];exact (HZQ.out p2 (List.mem_of_getElem? hp2)).below (HTT.out.next h)));unfold Ek at HS;rw[e1]at e0;have HNX:=Ac (show L.take (q+1)=M.take (q+1) from by rw[List.take_add_one,List.take_add_one,HTK.out,HL1.out,HL2.out,e1,e2])
        have SOF:=Ac (show ∀W,Below wr.heap.size wr W->(W.cell? ⟨w0.heap.size,0,none⟩=some (.slice (some ⟨bb,o,none⟩) n c)/\W.cell? ⟨w0.heap.size+1,0,none⟩=some (.slice (some ⟨bb2,o2,none⟩) n c2)/\W.cell? ⟨bb,o+q*3,none⟩=some (.int .i64 p.v)/\W.cell? ⟨bb,o+q*3+1,none⟩=some (.bool p.s)/\W.cell? ⟨bb,o+q*3+2,none⟩=some (.slice p.B p.m p.d)/\W.cell? ⟨bb2,o2+q*3,none⟩=some (.int .i64 p.v)/\W.cell? ⟨bb2,o2+q*3+1,none⟩=some (.bool p2.s)/\W.cell? ⟨bb2,o2+q*3+2,none⟩=some (.slice p2.B p2.m p2.d)) from fun W h=>⟨(X9.out.next h).c0,(Y9.out.next h).c0,(h.cell (p:=⟨bb,o+q*3,none⟩) hlt).trans c0,(h.cell (p:=⟨bb,o+q*3+1,none⟩) hlt).trans c1,(h.cell (p:=⟨bb,o+q*3+2,none⟩) hlt).trans d0,(h.cell (p:=⟨bb2,o2+q*3,none⟩) hlt2).trans e0,(h.cell (p:=⟨bb2,o2+q*3+1,none⟩) hlt2).trans e1x,(h.cell (p:=⟨bb2,o2+q*3+2,none⟩) hlt2).trans f0⟩)
        clear hT hp hp2 c0 c1 d0 e0 e1x f0;clear e1 e2;go_wp2_with fail;clear xa ya
        refine AO (by kernel_rfl) (by kernel_rfl) (by kernel_rfl) (fun w w'=>Below w.heap.size w w') (fun j v w=>match j with|0=>v=.pointer (some ⟨w0.heap.size,0,none⟩)|1=>v=.slice (some ⟨bb,o,none⟩) n c|2=>v=.int .i64 (q:Int)|3=>v=.pointer (some ⟨bb,o+q*3,none⟩)|4=>v=.pointer (some ⟨bb,o+q*3,none⟩)|5=>v=.int .i64 p.v|6=>v=.pointer (some ⟨w0.heap.size+1,0,none⟩)|7=>v=.slice (some ⟨bb2,o2,none⟩) n c2|8=>v=.int .i64 (q:Int)|9=>v=.pointer (some ⟨bb2,o2+q*3,none⟩)|10=>v=.pointer (some ⟨bb2,o2+q*3,none⟩)|11=>v=.int .i64 p.v|12=>v=.bool false|13=>v=.bool false|14=>v=.pointer (some ⟨w0.heap.size,0,none⟩)|15=>v=.slice (some ⟨bb,o,none⟩) n c|16=>v=.int .i64 (q:Int)|17=>v=.pointer (some ⟨bb,o+q*3,none⟩)|18=>v=.pointer (some ⟨bb,o+q*3+1,none⟩)|19=>v=.agg #[.bool p.s,.slice p.B p.m p.d]|20=>v=.pointer (some ⟨w0.heap.size+1,0,none⟩)|21=>v=.slice (some ⟨bb2,o2,none⟩) n c2|22=>v=.int .i64 (q:Int)|23=>v=.pointer (some ⟨bb2,o2+q*3,none⟩)|24=>v=.pointer (some ⟨bb2,o2+q*3+1,none⟩)|25=>v=.agg #[.bool p2.s,.slice p2.B p2.m p2.d]|26=>v=.bool true|27=>v=.bool false|28=>v=.bool false|_=>True) (fun _ _ w=>Below wr.heap.size wr w) ?_ (fun _=>Ap wr 1) ?_ ?_
        · intro j v w w' hT h;match j,h with
          |0,h=>exact h
          |1,h=>exact h
          |2,h=>exact h
          |3,h=>exact h
          |4,h=>exact h
          |5,h=>exact h
          |6,h=>exact h
          |7,h=>exact h
          |8,h=>exact h
          |9,h=>exact h
          |10,h=>exact h
          |11,h=>exact h
          |12,h=>exact h
          |13,h=>exact h
          |14,h=>exact h
          |15,h=>exact h
          |16,h=>exact h
          |17,h=>exact h
          |18,h=>exact h
          |19,h=>exact h
          |20,h=>exact h
          |21,h=>exact h
          |22,h=>exact h
          |23,h=>exact h
          |24,h=>exact h
          |25,h=>exact h
          |26,h=>exact h
          |27,h=>exact h
          |28,h=>exact h
          |j+29,h=>trivial
        · refine ⟨?_,?_,?_,?_,?_,?_,?_,?_,?_,?_,?_,?_,?_,?_,?_,?_,?_,?_,?_,?_,?_,?_,?_,?_,?_,?_,?_,?_,?_,trivial⟩
          · intro l9 σ w a hin hout hl hc hp hG hF;refine Ad.none rfl ?_;have e2:a.tmps.getD 2 undef=.pointer (some ⟨w0.heap.size,0,none⟩):=hout 2 (Ae (by kernel_rfl));refine Does.val (.pointer (some ⟨w0.heap.size,0,none⟩)) (w':=w) ?_ ⟨Below.refl _ _,rfl,hG⟩;simp only[Array.getD_eq_getD_getElem?]at e2;go_simp
          · intro l9 σ w a hin hout hl hc hp hG hF;refine Ad.none rfl ?_;have e28:a.tmps.getD 28 undef=.pointer (some ⟨w0.heap.size,0,none⟩):=Am (hin 0 28) rfl (hp ⟨0,.data⟩ (by simp) rfl) (hF 0);have CC:=SOF.out w hG;obtain ⟨C0,C1,D0,D1,D2,E0,E1,E2⟩:=CC;refine Does.val (.slice (some ⟨bb,o,none⟩) n c) (w':=w) ?_ ⟨Below.refl _ _,rfl,hG⟩;go_simp
          · intro l9 σ w a hin hout hl hc hp hG hF;refine Ad.none rfl ?_;have e5:a.tmps.getD 5 undef=.int .i64 (q:Int):=hout 5 (Ae (by kernel_rfl));refine Does.val (.int .i64 (q:Int)) (w':=w) ?_ ⟨Below.refl _ _,rfl,hG⟩;simp only[Array.getD_eq_getD_getElem?]at e5;go_simp
          · intro l9 σ w a hin hout hl hc hp hG hF;refine Ad.none rfl ?_;have e29:a.tmps.getD 29 undef=.slice (some ⟨bb,o,none⟩) n c:=Am (hin 1 29) rfl (hp ⟨1,.data⟩ (by simp) rfl) (hF 1);have e30:a.tmps.getD 30 undef=.int .i64 (q:Int):=Am (hin 2 30) rfl (hp ⟨2,.data⟩ (by simp) rfl) (hF 2);refine Does.val (.pointer (some ⟨bb,o+q*3,none⟩)) (w':=w) ?_ ⟨Below.refl _ _,rfl,hG⟩;simp only[Array.getD_eq_getD_getElem?]at e29 e30;go_simp;(try (intro hh;exfalso;omega))
          · intro l9 σ w a hin hout hl hc hp hG hF;refine Ad.none rfl ?_;have e31:a.tmps.getD 31 undef=.pointer (some ⟨bb,o+q*3,none⟩):=Am (hin 3 31) rfl (hp ⟨3,.data⟩ (by simp) rfl) (hF 3);refine Does.val (.pointer (some ⟨bb,o+q*3,none⟩)) (w':=w) ?_ ⟨Below.refl _ _,rfl,hG⟩;simp only[Array.getD_eq_getD_getElem?]at e31;go_simp
          · intro l9 σ w a hin hout hl hc hp hG hF;refine Ad.none rfl ?_;have e32:a.tmps.getD 32 undef=.pointer (some ⟨bb,o+q*3,none⟩):=Am (hin 4 32) rfl (hp ⟨4,.data⟩ (by simp) rfl) (hF 4);have CC:=SOF.out w hG;obtain ⟨C0,C1,D0,D1,D2,E0,E1,E2⟩:=CC;refine Does.val (.int .i64 p.v) (w':=w) ?_ ⟨Below.refl _ _,rfl,hG⟩;go_simp
          · intro l9 σ w a hin hout hl hc hp hG hF;refine Ad.none rfl ?_;have e3:a.tmps.getD 3 undef=.pointer (some ⟨w0.heap.size+1,0,none⟩):=hout 3 (Ae (by kernel_rfl));refine Does.val (.pointer (some ⟨w0.heap.size+1,0,none⟩)) (w':=w) ?_ ⟨Below.refl _ _,rfl,hG⟩;simp only[Array.getD_eq_getD_getElem?]at e3;go_simp
          · intro l9 σ w a hin hout hl hc hp hG hF;refine Ad.none rfl ?_;have e34:a.tmps.getD 34 undef=.pointer (some ⟨w0.heap.size+1,0,none⟩):=Am (hin 6 34) rfl (hp ⟨6,.data⟩ (by simp) rfl) (hF 6);have CC:=SOF.out w hG;obtain ⟨C0,C1,D0,D1,D2,E0,E1,E2⟩:=CC;refine Does.val (.slice (some ⟨bb2,o2,none⟩) n c2) (w':=w) ?_ ⟨Below.refl _ _,rfl,hG⟩;go_simp
          · intro l9 σ w a hin hout hl hc hp hG hF;refine Ad.none rfl ?_;have e5:a.tmps.getD 5 undef=.int .i64 (q:Int):=hout 5 (Ae (by kernel_rfl));refine Does.val (.int .i64 (q:Int)) (w':=w) ?_ ⟨Below.refl _ _,rfl,hG⟩;simp only[Array.getD_eq_getD_getElem?]at e5;go_simp
          · intro l9 σ w a hin hout hl hc hp hG hF;refine Ad.none rfl ?_;have e35:a.tmps.getD 35 undef=.slice (some ⟨bb2,o2,none⟩) n c2:=Am (hin 7 35) rfl (hp ⟨7,.data⟩ (by simp) rfl) (hF 7);have e36:a.tmps.getD 36 undef=.int .i64 (q:Int):=Am (hin 8 36) rfl (hp ⟨8,.data⟩ (by simp) rfl) (hF 8);refine Does.val (.pointer (some ⟨bb2,o2+q*3,none⟩)) (w':=w) ?_ ⟨Below.refl _ _,rfl,hG⟩;simp only[Array.getD_eq_getD_getElem?]at e35 e36;go_simp;(try (intro hh;exfalso;omega))
          · intro l9 σ w a hin hout hl hc hp hG hF;refine Ad.none rfl ?_;have e37:a.tmps.getD 37 undef=.pointer (some ⟨bb2,o2+q*3,none⟩):=Am (hin 9 37) rfl (hp ⟨9,.data⟩ (by simp) rfl) (hF 9);refine Does.val (.pointer (some ⟨bb2,o2+q*3,none⟩)) (w':=w) ?_ ⟨Below.refl _ _,rfl,hG⟩;simp only[Array.getD_eq_getD_getElem?]at e37;go_simp
          · intro l9 σ w a hin hout hl hc hp hG hF;refine Ad.none rfl ?_;have e38:a.tmps.getD 38 undef=.pointer (some ⟨bb2,o2+q*3,none⟩):=Am (hin 10 38) rfl (hp ⟨10,.data⟩ (by simp) rfl) (hF 10);have CC:=SOF.out w hG;obtain ⟨C0,C1,D0,D1,D2,E0,E1,E2⟩:=CC;refine Does.val (.int .i64 p.v) (w':=w) ?_ ⟨Below.refl _ _,rfl,hG⟩;go_simp
          · intro l9 σ w a hin hout hl hc hp hG hF;refine Ad.none rfl ?_;have e33:a.tmps.getD 33 undef=.int .i64 p.v:=Am (hin 5 33) rfl (hp ⟨5,.data⟩ (by simp) rfl) (hF 5);have e39:a.tmps.getD 39 undef=.int .i64 p.v:=Am (hin 11 39) rfl (hp ⟨11,.data⟩ (by simp) rfl) (hF 11);refine Does.val (.bool false) (w':=w) ?_ ⟨Below.refl _ _,rfl,hG⟩;simp only[Array.getD_eq_getD_getElem?]at e33 e39;go_simp
          · intro l9 σ w a hin hout hl hc hp hG hF;refine Ad.none rfl ?_;have e40:a.tmps.getD 40 undef=.bool false:=Am (hin 12 40) rfl (hp ⟨12,.data⟩ (by simp) rfl) (hF 12);refine Does.val (.bool false) (w':=w) ?_ ⟨Below.refl _ _,rfl,hG⟩;simp only[Array.getD_eq_getD_getElem?]at e40;go_simp
          · intro l9 σ w a hin hout hl hc hp hG hF;refine Ad.some (d:=41) (b:=false) rfl rfl (Am (hin 13 41) rfl (hp ⟨13,.guard⟩ (by simp) rfl) (hF 13)) ?_;refine Or.inl ⟨rfl,?_⟩;have e2:a.tmps.getD 2 undef=.pointer (some ⟨w0.heap.size,0,none⟩):=hout 2 (Ae (by kernel_rfl));refine Does.val (.pointer (some ⟨w0.heap.size,0,none⟩)) (w':=w) ?_ ⟨Below.refl _ _,rfl,hG⟩;simp only[Array.getD_eq_getD_getElem?]at e2;go_simp
          · intro l9 σ w a hin hout hl hc hp hG hF;refine Ad.some (d:=41) (b:=false) rfl rfl (Am (hin 13 41) rfl (hp ⟨13,.guard⟩ (by simp) rfl) (hF 13)) ?_;refine Or.inl ⟨rfl,?_⟩;have e42:a.tmps.getD 42 undef=.pointer (some ⟨w0.heap.size,0,none⟩):=Am (hin 14 42) rfl (hp ⟨14,.data⟩ (by simp) rfl) (hF 14);have CC:=SOF.out w hG;obtain ⟨C0,C1,D0,D1,D2,E0,E1,E2⟩:=CC;refine Does.val (.slice (some ⟨bb,o,none⟩) n c) (w':=w) ?_ ⟨Below.refl _ _,rfl,hG⟩;go_simp
          · intro l9 σ w a hin hout hl hc hp hG hF;refine Ad.some (d:=41) (b:=false) rfl rfl (Am (hin 13 41) rfl (hp ⟨13,.guard⟩ (by simp) rfl) (hF 13)) ?_;refine Or.inl ⟨rfl,?_⟩;have e5:a.tmps.getD 5 undef=.int .i64 (q:Int):=hout 5 (Ae (by kernel_rfl));refine Does.val (.int .i64 (q:Int)) (w':=w) ?_ ⟨Below.refl _ _,rfl,hG⟩;simp only[Array.getD_eq_getD_getElem?]at e5;go_simp
          · intro l9 σ w a hin hout hl hc hp hG hF;refine Ad.some (d:=41) (b:=false) rfl rfl (Am (hin 13 41) rfl (hp ⟨13,.guard⟩ (by simp) rfl) (hF 13)) ?_;refine Or.inl ⟨rfl,?_⟩;have e43:a.tmps.getD 43 undef=.slice (some ⟨bb,o,none⟩) n c:=Am (hin 15 43) rfl (hp ⟨15,.data⟩ (by simp) rfl) (hF 15);have e44:a.tmps.getD 44 undef=.int .i64 (q:Int):=Am (hin 16 44) rfl (hp ⟨16,.data⟩ (by simp) rfl) (hF 16)
            refine Does.val (.pointer (some ⟨bb,o+q*3,none⟩)) (w':=w) ?_ ⟨Below.refl _ _,rfl,hG⟩;simp only[Array.getD_eq_getD_getElem?]at e43 e44;go_simp;(try (intro hh;exfalso;omega))
          · intro l9 σ w a hin hout hl hc hp hG hF;refine Ad.some (d:=41) (b:=false) rfl rfl (Am (hin 13 41) rfl (hp ⟨13,.guard⟩ (by simp) rfl) (hF 13)) ?_;refine Or.inl ⟨rfl,?_⟩;have e45:a.tmps.getD 45 undef=.pointer (some ⟨bb,o+q*3,none⟩):=Am (hin 17 45) rfl (hp ⟨17,.data⟩ (by simp) rfl) (hF 17);refine Does.val (.pointer (some ⟨bb,o+q*3+1,none⟩)) (w':=w) ?_ ⟨Below.refl _ _,rfl,hG⟩;simp only[Array.getD_eq_getD_getElem?]at e45;go_simp
          · intro l9 σ w a hin hout hl hc hp hG hF;refine Ad.some (d:=41) (b:=false) rfl rfl (Am (hin 13 41) rfl (hp ⟨13,.guard⟩ (by simp) rfl) (hF 13)) ?_;refine Or.inl ⟨rfl,?_⟩;have e46:a.tmps.getD 46 undef=.pointer (some ⟨bb,o+q*3+1,none⟩):=Am (hin 18 46) rfl (hp ⟨18,.data⟩ (by simp) rfl) (hF 18);have CC:=SOF.out w hG;obtain ⟨C0,C1,D0,D1,D2,E0,E1,E2⟩:=CC;refine Does.val (.agg #[.bool p.s,.slice p.B p.m p.d]) (w':=w) ?_ ⟨Below.refl _ _,rfl,hG⟩;go_simp
          · intro l9 σ w a hin hout hl hc hp hG hF;refine Ad.some (d:=41) (b:=false) rfl rfl (Am (hin 13 41) rfl (hp ⟨13,.guard⟩ (by simp) rfl) (hF 13)) ?_;refine Or.inl ⟨rfl,?_⟩;have e3:a.tmps.getD 3 undef=.pointer (some ⟨w0.heap.size+1,0,none⟩):=hout 3 (Ae (by kernel_rfl));refine Does.val (.pointer (some ⟨w0.heap.size+1,0,none⟩)) (w':=w) ?_ ⟨Below.refl _ _,rfl,hG⟩;simp only[Array.getD_eq_getD_getElem?]at e3;go_simp
          · intro l9 σ w a hin hout hl hc hp hG hF;refine Ad.some (d:=41) (b:=false) rfl rfl (Am (hin 13 41) rfl (hp ⟨13,.guard⟩ (by simp) rfl) (hF 13)) ?_;refine Or.inl ⟨rfl,?_⟩;have e48:a.tmps.getD 48 undef=.pointer (some ⟨w0.heap.size+1,0,none⟩):=Am (hin 20 48) rfl (hp ⟨20,.data⟩ (by simp) rfl) (hF 20);have CC:=SOF.out w hG;obtain ⟨C0,C1,D0,D1,D2,E0,E1,E2⟩:=CC;refine Does.val (.slice (some ⟨bb2,o2,none⟩) n c2) (w':=w) ?_ ⟨Below.refl _ _,rfl,hG⟩;go_simp
          · intro l9 σ w a hin hout hl hc hp hG hF;refine Ad.some (d:=41) (b:=false) rfl rfl (Am (hin 13 41) rfl (hp ⟨13,.guard⟩ (by simp) rfl) (hF 13)) ?_;refine Or.inl ⟨rfl,?_⟩;have e5:a.tmps.getD 5 undef=.int .i64 (q:Int):=hout 5 (Ae (by kernel_rfl));refine Does.val (.int .i64 (q:Int)) (w':=w) ?_ ⟨Below.refl _ _,rfl,hG⟩;simp only[Array.getD_eq_getD_getElem?]at e5;go_simp
          · intro l9 σ w a hin hout hl hc hp hG hF;refine Ad.some (d:=41) (b:=false) rfl rfl (Am (hin 13 41) rfl (hp ⟨13,.guard⟩ (by simp) rfl) (hF 13)) ?_;refine Or.inl ⟨rfl,?_⟩;have e49:a.tmps.getD 49 undef=.slice (some ⟨bb2,o2,none⟩) n c2:=Am (hin 21 49) rfl (hp ⟨21,.data⟩ (by simp) rfl) (hF 21);have e50:a.tmps.getD 50 undef=.int .i64 (q:Int):=Am (hin 22 50) rfl (hp ⟨22,.data⟩ (by simp) rfl) (hF 22)
            refine Does.val (.pointer (some ⟨bb2,o2+q*3,none⟩)) (w':=w) ?_ ⟨Below.refl _ _,rfl,hG⟩;simp only[Array.getD_eq_getD_getElem?]at e49 e50;go_simp;(try (intro hh;exfalso;omega))
          · intro l9 σ w a hin hout hl hc hp hG hF;refine Ad.some (d:=41) (b:=false) rfl rfl (Am (hin 13 41) rfl (hp ⟨13,.guard⟩ (by simp) rfl) (hF 13)) ?_;refine Or.inl ⟨rfl,?_⟩;have e51:a.tmps.getD 51 undef=.pointer (some ⟨bb2,o2+q*3,none⟩):=Am (hin 23 51) rfl (hp ⟨23,.data⟩ (by simp) rfl) (hF 23);refine Does.val (.pointer (some ⟨bb2,o2+q*3+1,none⟩)) (w':=w) ?_ ⟨Below.refl _ _,rfl,hG⟩;simp only[Array.getD_eq_getD_getElem?]at e51;go_simp
          · intro l9 σ w a hin hout hl hc hp hG hF;refine Ad.some (d:=41) (b:=false) rfl rfl (Am (hin 13 41) rfl (hp ⟨13,.guard⟩ (by simp) rfl) (hF 13)) ?_;refine Or.inl ⟨rfl,?_⟩;have e52:a.tmps.getD 52 undef=.pointer (some ⟨bb2,o2+q*3+1,none⟩):=Am (hin 24 52) rfl (hp ⟨24,.data⟩ (by simp) rfl) (hF 24);have CC:=SOF.out w hG;obtain ⟨C0,C1,D0,D1,D2,E0,E1,E2⟩:=CC;refine Does.val (.agg #[.bool p2.s,.slice p2.B p2.m p2.d]) (w':=w) ?_ ⟨Below.refl _ _,rfl,hG⟩;go_simp
          · intro l9 σ w a hin hout hl hc hp hG hF;refine Ad.some (d:=41) (b:=false) rfl rfl (Am (hin 13 41) rfl (hp ⟨13,.guard⟩ (by simp) rfl) (hF 13)) ?_;refine Or.inl ⟨rfl,?_⟩;have e47:a.tmps.getD 47 undef=.agg #[.bool p.s,.slice p.B p.m p.d]:=Am (hin 19 47) rfl (hp ⟨19,.data⟩ (by simp) rfl) (hF 19);have e53:a.tmps.getD 53 undef=.agg #[.bool p2.s,.slice p2.B p2.m p2.d]:=Am (hin 25 53) rfl (hp ⟨25,.data⟩ (by simp) rfl) (hF 25);refine Does.call ?_ (HS.out w hG) ?_
            · go_simp
            · rintro e w' ⟨rfl,hb⟩;exact ⟨_,rfl,hb,rfl,hG.next hb⟩
          · intro l9 σ w a hin hout hl hc hp hG hF;refine Ad.some (d:=41) (b:=false) rfl rfl (Am (hin 13 41) rfl (hp ⟨13,.guard⟩ (by simp) rfl) (hF 13)) ?_;refine Or.inl ⟨rfl,?_⟩;have e54:a.tmps.getD 54 undef=.bool true:=Am (hin 26 54) rfl (hp ⟨26,.data⟩ (by simp) rfl) (hF 26);refine Does.val (.bool false) (w':=w) ?_ ⟨Below.refl _ _,rfl,hG⟩;simp only[Array.getD_eq_getD_getElem?]at e54;go_simp
          · intro l9 σ w a hin hout hl hc hp hG hF;refine Ad.none rfl ?_;have e41:a.tmps.getD 41 undef=.bool false:=Am (hin 13 41) rfl (hp ⟨13,.data⟩ (by simp) rfl) (hF 13);have e55:a.tmps.getD 55 undef=.bool false:=Am (hin 27 55) rfl (hp ⟨27,.data⟩ (by simp) rfl) (hF 27);refine Does.val (.bool false) (w':=w) ?_ ⟨Below.refl _ _,rfl,hG⟩;simp only[Array.getD_eq_getD_getElem?]at e41 e55;go_simp
        · intro l9 σ W9 hall hG hF
          rw[show mid _ σ l9 _=(Act.put (Act.put (Act.put (Act.put (Act.put (Act.put (Act.put (Act.put (Act.put (Act.put (Act.put (Act.put (Act.put (Act.put (Act.put (Act.put (Act.put (Act.put (Act.put (Act.put (Act.put (Act.put (Act.put (Act.put (Act.put (Act.put (Act.put (Act.put (Act.put _ (some 28) (σ 0)) (some 29) (σ 1)) (some 30) (σ 2)) (some 31) (σ 3)) (some 32) (σ 4)) (some 33) (σ 5)) (some 34) (σ 6)) (some 35) (σ 7)) (some 36) (σ 8)) (some 37) (σ 9)) (some 38) (σ 10)) (some 39) (σ 11)) (some 40) (σ 12)) (some 41) (σ 13)) (some 42) (σ 14)) (some 43) (σ 15)) (some 44) (σ 16)) (some 45) (σ 17)) (some 46) (σ 18)) (some 47) (σ 19)) (some 48) (σ 20)) (some 49) (σ 21)) (some 50) (σ 22)) (some 51) (σ 23)) (some 52) (σ 24)) (some 53) (σ 25)) (some 54) (σ 26)) (some 55) (σ 27)) (some 56) (σ 28)) from (AU hall).trans rfl]
          generalize σ 0=tt0;generalize σ 1=tt1;generalize σ 2=tt2;generalize σ 3=tt3;generalize σ 4=tt4;generalize σ 5=tt5;generalize σ 6=tt6;generalize σ 7=tt7;generalize σ 8=tt8;generalize σ 9=tt9;generalize σ 10=tt10;generalize σ 11=tt11;generalize σ 12=tt12;generalize σ 13=tt13;generalize σ 14=tt14;generalize σ 15=tt15;generalize σ 16=tt16;generalize σ 17=tt17;generalize σ 18=tt18;generalize σ 19=tt19;generalize σ 20=tt20;generalize σ 21=tt21
          generalize σ 22=tt22;generalize σ 23=tt23;generalize σ 24=tt24;generalize σ 25=tt25;generalize σ 26=tt26;generalize σ 27=tt27;rw[show σ 28=.bool false from hF 28 (by decide)];simp only[Act.put,List.setIfInBounds_toArray,List.set_cons_zero,List.set_cons_succ];have TG:=hG;clear hF hG hall;clear σ;have HE:=Ac (HR.out.next TG);clear TG SOF HS;go_wp2_with fail;go_roundw
          case rel=>exact ⟨q+1,by omega,by go_num,HNX,HE⟩
          case measure=>simp[intOf]<;>omega
      · by_cases hv:¬p2.v=p.v
        · clear hsame;have hvv:((p.v:Int) != p2.v)=true:=(by simpa using fun e:p.v=p2.v=>hv e.symm)
          have SOF:=Ac (show ∀W,Below wr.heap.size wr W->(W.cell? ⟨w0.heap.size,0,none⟩=some (.slice (some ⟨bb,o,none⟩) n c)/\W.cell? ⟨w0.heap.size+1,0,none⟩=some (.slice (some ⟨bb2,o2,none⟩) n c2)/\W.cell? ⟨bb,o+q*3,none⟩=some (.int .i64 p.v)/\W.cell? ⟨bb,o+q*3+1,none⟩=some (.bool p.s)/\W.cell? ⟨bb,o+q*3+2,none⟩=some (.slice p.B p.m p.d)/\W.cell? ⟨bb2,o2+q*3,none⟩=some (.int .i64 p2.v)/\W.cell? ⟨bb2,o2+q*3+1,none⟩=some (.bool p2.s)/\W.cell? ⟨bb2,o2+q*3+2,none⟩=some (.slice p2.B p2.m p2.d)) from fun W h=>⟨(X9.out.next h).c0,(Y9.out.next h).c0,(h.cell (p:=⟨bb,o+q*3,none⟩) hlt).trans c0,(h.cell (p:=⟨bb,o+q*3+1,none⟩) hlt).trans c1,(h.cell (p:=⟨bb,o+q*3+2,none⟩) hlt).trans d0,(h.cell (p:=⟨bb2,o2+q*3,none⟩) hlt2).trans e0,(h.cell (p:=⟨bb2,o2+q*3+1,none⟩) hlt2).trans e1x,(h.cell (p:=⟨bb2,o2+q*3+2,none⟩) hlt2).trans f0⟩)
          clear hT hp hp2 c0 c1 d0 e0 e1x f0;go_wp2_with fail;clear xa ya
          refine AO (by kernel_rfl) (by kernel_rfl) (by kernel_rfl) (fun w w'=>Below w.heap.size w w') (fun j v w=>match j with|0=>v=.pointer (some ⟨w0.heap.size,0,none⟩)|1=>v=.slice (some ⟨bb,o,none⟩) n c|2=>v=.int .i64 (q:Int)|3=>v=.pointer (some ⟨bb,o+q*3,none⟩)|4=>v=.pointer (some ⟨bb,o+q*3,none⟩)|5=>v=.int .i64 p.v|6=>v=.pointer (some ⟨w0.heap.size+1,0,none⟩)|7=>v=.slice (some ⟨bb2,o2,none⟩) n c2|8=>v=.int .i64 (q:Int)|9=>v=.pointer (some ⟨bb2,o2+q*3,none⟩)|10=>v=.pointer (some ⟨bb2,o2+q*3,none⟩)|11=>v=.int .i64 p2.v|12=>v=.bool true|13=>v=.bool true|14=>v=undef|15=>v=undef|16=>v=undef|17=>v=undef|18=>v=undef|19=>v=undef|20=>v=undef|21=>v=undef|22=>v=undef|23=>v=undef|24=>v=undef|25=>v=undef|26=>v=undef|27=>v=undef|28=>v=.bool true|_=>True) (fun _ _ w=>Below wr.heap.size wr w) ?_ (fun _=>Ap wr 1) ?_ ?_
          · intro j v w w' hT h;match j,h with
            |0,h=>exact h
            |1,h=>exact h
            |2,h=>exact h
            |3,h=>exact h
            |4,h=>exact h
            |5,h=>exact h
            |6,h=>exact h
            |7,h=>exact h
            |8,h=>exact h
            |9,h=>exact h
            |10,h=>exact h
            |11,h=>exact h
            |12,h=>exact h
            |13,h=>exact h
            |14,h=>exact h
            |15,h=>exact h
            |16,h=>exact h
            |17,h=>exact h
            |18,h=>exact h
            |19,h=>exact h
            |20,h=>exact h
            |21,h=>exact h
            |22,h=>exact h
            |23,h=>exact h
            |24,h=>exact h
            |25,h=>exact h
            |26,h=>exact h
            |27,h=>exact h
            |28,h=>exact h
            |j+29,h=>trivial
          · refine ⟨?_,?_,?_,?_,?_,?_,?_,?_,?_,?_,?_,?_,?_,?_,?_,?_,?_,?_,?_,?_,?_,?_,?_,?_,?_,?_,?_,?_,?_,trivial⟩
            · intro l9 σ w a hin hout hl hc hp hG hF;refine Ad.none rfl ?_;have e2:a.tmps.getD 2 undef=.pointer (some ⟨w0.heap.size,0,none⟩):=hout 2 (Ae (by kernel_rfl));refine Does.val (.pointer (some ⟨w0.heap.size,0,none⟩)) (w':=w) ?_ ⟨Below.refl _ _,rfl,hG⟩;simp only[Array.getD_eq_getD_getElem?]at e2;go_simp
            · intro l9 σ w a hin hout hl hc hp hG hF;refine Ad.none rfl ?_;have e28:a.tmps.getD 28 undef=.pointer (some ⟨w0.heap.size,0,none⟩):=Am (hin 0 28) rfl (hp ⟨0,.data⟩ (by simp) rfl) (hF 0);have CC:=SOF.out w hG;obtain ⟨C0,C1,D0,D1,D2,E0,E1,E2⟩:=CC;refine Does.val (.slice (some ⟨bb,o,none⟩) n c) (w':=w) ?_ ⟨Below.refl _ _,rfl,hG⟩;go_simp
            · intro l9 σ w a hin hout hl hc hp hG hF;refine Ad.none rfl ?_;have e5:a.tmps.getD 5 undef=.int .i64 (q:Int):=hout 5 (Ae (by kernel_rfl));refine Does.val (.int .i64 (q:Int)) (w':=w) ?_ ⟨Below.refl _ _,rfl,hG⟩;simp only[Array.getD_eq_getD_getElem?]at e5;go_simp
            · intro l9 σ w a hin hout hl hc hp hG hF;refine Ad.none rfl ?_;have e29:a.tmps.getD 29 undef=.slice (some ⟨bb,o,none⟩) n c:=Am (hin 1 29) rfl (hp ⟨1,.data⟩ (by simp) rfl) (hF 1);have e30:a.tmps.getD 30 undef=.int .i64 (q:Int):=Am (hin 2 30) rfl (hp ⟨2,.data⟩ (by simp) rfl) (hF 2);refine Does.val (.pointer (some ⟨bb,o+q*3,none⟩)) (w':=w) ?_ ⟨Below.refl _ _,rfl,hG⟩;simp only[Array.getD_eq_getD_getElem?]at e29 e30;go_simp;(try (intro hh;exfalso;omega))
            · intro l9 σ w a hin hout hl hc hp hG hF;refine Ad.none rfl ?_;have e31:a.tmps.getD 31 undef=.pointer (some ⟨bb,o+q*3,none⟩):=Am (hin 3 31) rfl (hp ⟨3,.data⟩ (by simp) rfl) (hF 3);refine Does.val (.pointer (some ⟨bb,o+q*3,none⟩)) (w':=w) ?_ ⟨Below.refl _ _,rfl,hG⟩;simp only[Array.getD_eq_getD_getElem?]at e31;go_simp
            · intro l9 σ w a hin hout hl hc hp hG hF;refine Ad.none rfl ?_;have e32:a.tmps.getD 32 undef=.pointer (some ⟨bb,o+q*3,none⟩):=Am (hin 4 32) rfl (hp ⟨4,.data⟩ (by simp) rfl) (hF 4);have CC:=SOF.out w hG;obtain ⟨C0,C1,D0,D1,D2,E0,E1,E2⟩:=CC;refine Does.val (.int .i64 p.v) (w':=w) ?_ ⟨Below.refl _ _,rfl,hG⟩;go_simp
            · intro l9 σ w a hin hout hl hc hp hG hF;refine Ad.none rfl ?_;have e3:a.tmps.getD 3 undef=.pointer (some ⟨w0.heap.size+1,0,none⟩):=hout 3 (Ae (by kernel_rfl));refine Does.val (.pointer (some ⟨w0.heap.size+1,0,none⟩)) (w':=w) ?_ ⟨Below.refl _ _,rfl,hG⟩;simp only[Array.getD_eq_getD_getElem?]at e3;go_simp
            · intro l9 σ w a hin hout hl hc hp hG hF;refine Ad.none rfl ?_;have e34:a.tmps.getD 34 undef=.pointer (some ⟨w0.heap.size+1,0,none⟩):=Am (hin 6 34) rfl (hp ⟨6,.data⟩ (by simp) rfl) (hF 6);have CC:=SOF.out w hG;obtain ⟨C0,C1,D0,D1,D2,E0,E1,E2⟩:=CC;refine Does.val (.slice (some ⟨bb2,o2,none⟩) n c2) (w':=w) ?_ ⟨Below.refl _ _,rfl,hG⟩;go_simp
            · intro l9 σ w a hin hout hl hc hp hG hF;refine Ad.none rfl ?_;have e5:a.tmps.getD 5 undef=.int .i64 (q:Int):=hout 5 (Ae (by kernel_rfl));refine Does.val (.int .i64 (q:Int)) (w':=w) ?_ ⟨Below.refl _ _,rfl,hG⟩;simp only[Array.getD_eq_getD_getElem?]at e5;go_simp
            · intro l9 σ w a hin hout hl hc hp hG hF;refine Ad.none rfl ?_;have e35:a.tmps.getD 35 undef=.slice (some ⟨bb2,o2,none⟩) n c2:=Am (hin 7 35) rfl (hp ⟨7,.data⟩ (by simp) rfl) (hF 7);have e36:a.tmps.getD 36 undef=.int .i64 (q:Int):=Am (hin 8 36) rfl (hp ⟨8,.data⟩ (by simp) rfl) (hF 8);refine Does.val (.pointer (some ⟨bb2,o2+q*3,none⟩)) (w':=w) ?_ ⟨Below.refl _ _,rfl,hG⟩;simp only[Array.getD_eq_getD_getElem?]at e35 e36;go_simp
              (try (intro hh;exfalso;omega))
            · intro l9 σ w a hin hout hl hc hp hG hF;refine Ad.none rfl ?_;have e37:a.tmps.getD 37 undef=.pointer (some ⟨bb2,o2+q*3,none⟩):=Am (hin 9 37) rfl (hp ⟨9,.data⟩ (by simp) rfl) (hF 9);refine Does.val (.pointer (some ⟨bb2,o2+q*3,none⟩)) (w':=w) ?_ ⟨Below.refl _ _,rfl,hG⟩;simp only[Array.getD_eq_getD_getElem?]at e37;go_simp
            · intro l9 σ w a hin hout hl hc hp hG hF;refine Ad.none rfl ?_;have e38:a.tmps.getD 38 undef=.pointer (some ⟨bb2,o2+q*3,none⟩):=Am (hin 10 38) rfl (hp ⟨10,.data⟩ (by simp) rfl) (hF 10);have CC:=SOF.out w hG;obtain ⟨C0,C1,D0,D1,D2,E0,E1,E2⟩:=CC;refine Does.val (.int .i64 p2.v) (w':=w) ?_ ⟨Below.refl _ _,rfl,hG⟩;go_simp
            · intro l9 σ w a hin hout hl hc hp hG hF;refine Ad.none rfl ?_;have e33:a.tmps.getD 33 undef=.int .i64 p.v:=Am (hin 5 33) rfl (hp ⟨5,.data⟩ (by simp) rfl) (hF 5);have e39:a.tmps.getD 39 undef=.int .i64 p2.v:=Am (hin 11 39) rfl (hp ⟨11,.data⟩ (by simp) rfl) (hF 11);refine Does.val (.bool true) (w':=w) ?_ ⟨Below.refl _ _,rfl,hG⟩;simp only[Array.getD_eq_getD_getElem?]at e33 e39;go_simp
            · intro l9 σ w a hin hout hl hc hp hG hF;refine Ad.none rfl ?_;have e40:a.tmps.getD 40 undef=.bool true:=Am (hin 12 40) rfl (hp ⟨12,.data⟩ (by simp) rfl) (hF 12);refine Does.val (.bool true) (w':=w) ?_ ⟨Below.refl _ _,rfl,hG⟩;simp only[Array.getD_eq_getD_getElem?]at e40;go_simp
            · intro l9 σ w a hin hout hl hc hp hG hF;refine Ad.some (d:=41) (b:=true) rfl rfl (Am (hin 13 41) rfl (hp ⟨13,.guard⟩ (by simp) rfl) (hF 13)) ?_;exact Or.inr ⟨(fun h=>by cases h),Below.refl _ _,rfl,hG⟩
            · intro l9 σ w a hin hout hl hc hp hG hF;refine Ad.some (d:=41) (b:=true) rfl rfl (Am (hin 13 41) rfl (hp ⟨13,.guard⟩ (by simp) rfl) (hF 13)) ?_;exact Or.inr ⟨(fun h=>by cases h),Below.refl _ _,rfl,hG⟩
            · intro l9 σ w a hin hout hl hc hp hG hF;refine Ad.some (d:=41) (b:=true) rfl rfl (Am (hin 13 41) rfl (hp ⟨13,.guard⟩ (by simp) rfl) (hF 13)) ?_;exact Or.inr ⟨(fun h=>by cases h),Below.refl _ _,rfl,hG⟩
            · intro l9 σ w a hin hout hl hc hp hG hF;refine Ad.some (d:=41) (b:=true) rfl rfl (Am (hin 13 41) rfl (hp ⟨13,.guard⟩ (by simp) rfl) (hF 13)) ?_;exact Or.inr ⟨(fun h=>by cases h),Below.refl _ _,rfl,hG⟩
            · intro l9 σ w a hin hout hl hc hp hG hF;refine Ad.some (d:=41) (b:=true) rfl rfl (Am (hin 13 41) rfl (hp ⟨13,.guard⟩ (by simp) rfl) (hF 13)) ?_;exact Or.inr ⟨(fun h=>by cases h),Below.refl _ _,rfl,hG⟩
            · intro l9 σ w a hin hout hl hc hp hG hF;refine Ad.some (d:=41) (b:=true) rfl rfl (Am (hin 13 41) rfl (hp ⟨13,.guard⟩ (by simp) rfl) (hF 13)) ?_;exact Or.inr ⟨(fun h=>by cases h),Below.refl _ _,rfl,hG⟩
            · intro l9 σ w a hin hout hl hc hp hG hF;refine Ad.some (d:=41) (b:=true) rfl rfl (Am (hin 13 41) rfl (hp ⟨13,.guard⟩ (by simp) rfl) (hF 13)) ?_;exact Or.inr ⟨(fun h=>by cases h),Below.refl _ _,rfl,hG⟩
            · intro l9 σ w a hin hout hl hc hp hG hF;refine Ad.some (d:=41) (b:=true) rfl rfl (Am (hin 13 41) rfl (hp ⟨13,.guard⟩ (by simp) rfl) (hF 13)) ?_;exact Or.inr ⟨(fun h=>by cases h),Below.refl _ _,rfl,hG⟩
            · intro l9 σ w a hin hout hl hc hp hG hF;refine Ad.some (d:=41) (b:=true) rfl rfl (Am (hin 13 41) rfl (hp ⟨13,.guard⟩ (by simp) rfl) (hF 13)) ?_;exact Or.inr ⟨(fun h=>by cases h),Below.refl _ _,rfl,hG⟩
            · intro l9 σ w a hin hout hl hc hp hG hF;refine Ad.some (d:=41) (b:=true) rfl rfl (Am (hin 13 41) rfl (hp ⟨13,.guard⟩ (by simp) rfl) (hF 13)) ?_;exact Or.inr ⟨(fun h=>by cases h),Below.refl _ _,rfl,hG⟩
            · intro l9 σ w a hin hout hl hc hp hG hF;refine Ad.some (d:=41) (b:=true) rfl rfl (Am (hin 13 41) rfl (hp ⟨13,.guard⟩ (by simp) rfl) (hF 13)) ?_;exact Or.inr ⟨(fun h=>by cases h),Below.refl _ _,rfl,hG⟩
            · intro l9 σ w a hin hout hl hc hp hG hF;refine Ad.some (d:=41) (b:=true) rfl rfl (Am (hin 13 41) rfl (hp ⟨13,.guard⟩ (by simp) rfl) (hF 13)) ?_;exact Or.inr ⟨(fun h=>by cases h),Below.refl _ _,rfl,hG⟩
            · intro l9 σ w a hin hout hl hc hp hG hF;refine Ad.some (d:=41) (b:=true) rfl rfl (Am (hin 13 41) rfl (hp ⟨13,.guard⟩ (by simp) rfl) (hF 13)) ?_;exact Or.inr ⟨(fun h=>by cases h),Below.refl _ _,rfl,hG⟩
            · intro l9 σ w a hin hout hl hc hp hG hF;refine Ad.some (d:=41) (b:=true) rfl rfl (Am (hin 13 41) rfl (hp ⟨13,.guard⟩ (by simp) rfl) (hF 13)) ?_;exact Or.inr ⟨(fun h=>by cases h),Below.refl _ _,rfl,hG⟩
            · intro l9 σ w a hin hout hl hc hp hG hF;refine Ad.none rfl ?_;have e41:a.tmps.getD 41 undef=.bool true:=Am (hin 13 41) rfl (hp ⟨13,.data⟩ (by simp) rfl) (hF 13);have e55:a.tmps.getD 55 undef=undef:=Am (hin 27 55) rfl (hp ⟨27,.data⟩ (by simp) rfl) (hF 27);refine Does.val (.bool true) (w':=w) ?_ ⟨Below.refl _ _,rfl,hG⟩;simp only[Array.getD_eq_getD_getElem?]at e41 e55;go_simp
          · intro l9 σ W9 hall hG hF
            rw[show mid _ σ l9 _=(Act.put (Act.put (Act.put (Act.put (Act.put (Act.put (Act.put (Act.put (Act.put (Act.put (Act.put (Act.put (Act.put (Act.put (Act.put (Act.put (Act.put (Act.put (Act.put (Act.put (Act.put (Act.put (Act.put (Act.put (Act.put (Act.put (Act.put (Act.put (Act.put _ (some 28) (σ 0)) (some 29) (σ 1)) (some 30) (σ 2)) (some 31) (σ 3)) (some 32) (σ 4)) (some 33) (σ 5)) (some 34) (σ 6)) (some 35) (σ 7)) (some 36) (σ 8)) (some 37) (σ 9)) (some 38) (σ 10)) (some 39) (σ 11)) (some 40) (σ 12)) (some 41) (σ 13)) (some 42) (σ 14)) (some 43) (σ 15)) (some 44) (σ 16)) (some 45) (σ 17)) (some 46) (σ 18)) (some 47) (σ 19)) (some 48) (σ 20)) (some 49) (σ 21)) (some 50) (σ 22)) (some 51) (σ 23)) (some 52) (σ 24)) (some 53) (σ 25)) (some 54) (σ 26)) (some 55) (σ 27)) (some 56) (σ 28)) from (AU hall).trans rfl]
            generalize σ 0=tt0;generalize σ 1=tt1;generalize σ 2=tt2;generalize σ 3=tt3;generalize σ 4=tt4;generalize σ 5=tt5;generalize σ 6=tt6;generalize σ 7=tt7;generalize σ 8=tt8;generalize σ 9=tt9;generalize σ 10=tt10;generalize σ 11=tt11;generalize σ 12=tt12;generalize σ 13=tt13;generalize σ 14=tt14;generalize σ 15=tt15;generalize σ 16=tt16;generalize σ 17=tt17;generalize σ 18=tt18;generalize σ 19=tt19;generalize σ 20=tt20;generalize σ 21=tt21
            generalize σ 22=tt22;generalize σ 23=tt23;generalize σ 24=tt24;generalize σ 25=tt25;generalize σ 26=tt26;generalize σ 27=tt27;rw[show σ 28=.bool true from hF 28 (by decide)];simp only[Act.put,List.setIfInBounds_toArray,List.set_cons_zero,List.set_cons_succ];have TG:=hG;clear hF hG hall;clear σ;have HE:=Ac (HR.out.next TG);clear TG SOF;go_wp2_with fail;go_ret
            exact ⟨rfl,HB.out.next HE.out⟩
        · skip
          have e1:p2.v=p.v:=Classical.byContradiction hv;have e2:p.Z≠p2.Z:=fun e=>hsame ⟨e1,e.symm⟩
          have HS:=Ac (fun W (h:Below wr.heap.size wr W)=>Sr (.agg #[.bool p.s,.slice p.B p.m p.d]) (.agg #[.bool p2.s,.slice p2.B p2.m p2.d]) p.Z p2.Z k ku W ((HZP.out p (List.mem_of_getElem? hp)).below (HTT.out.next h)) ((HZQ.out p2 (List.mem_of_getElem? hp2)).below (HTT.out.next h)) e2);unfold Hp at HS;rw[e1]at e0
          have SOF:=Ac (show ∀W,Below wr.heap.size wr W->(W.cell? ⟨w0.heap.size,0,none⟩=some (.slice (some ⟨bb,o,none⟩) n c)/\W.cell? ⟨w0.heap.size+1,0,none⟩=some (.slice (some ⟨bb2,o2,none⟩) n c2)/\W.cell? ⟨bb,o+q*3,none⟩=some (.int .i64 p.v)/\W.cell? ⟨bb,o+q*3+1,none⟩=some (.bool p.s)/\W.cell? ⟨bb,o+q*3+2,none⟩=some (.slice p.B p.m p.d)/\W.cell? ⟨bb2,o2+q*3,none⟩=some (.int .i64 p.v)/\W.cell? ⟨bb2,o2+q*3+1,none⟩=some (.bool p2.s)/\W.cell? ⟨bb2,o2+q*3+2,none⟩=some (.slice p2.B p2.m p2.d)) from fun W h=>⟨(X9.out.next h).c0,(Y9.out.next h).c0,(h.cell (p:=⟨bb,o+q*3,none⟩) hlt).trans c0,(h.cell (p:=⟨bb,o+q*3+1,none⟩) hlt).trans c1,(h.cell (p:=⟨bb,o+q*3+2,none⟩) hlt).trans d0,(h.cell (p:=⟨bb2,o2+q*3,none⟩) hlt2).trans e0,(h.cell (p:=⟨bb2,o2+q*3+1,none⟩) hlt2).trans e1x,(h.cell (p:=⟨bb2,o2+q*3+2,none⟩) hlt2).trans f0⟩)
          clear hT hp hp2 c0 c1 d0 e0 e1x f0;clear e1 e2;clear hsame hv;go_wp2_with fail;clear xa ya
          refine AO (by kernel_rfl) (by kernel_rfl) (by kernel_rfl) (fun w w'=>Below w.heap.size w w') (fun j v w=>match j with|0=>v=.pointer (some ⟨w0.heap.size,0,none⟩)|1=>v=.slice (some ⟨bb,o,none⟩) n c|2=>v=.int .i64 (q:Int)|3=>v=.pointer (some ⟨bb,o+q*3,none⟩)|4=>v=.pointer (some ⟨bb,o+q*3,none⟩)|5=>v=.int .i64 p.v|6=>v=.pointer (some ⟨w0.heap.size+1,0,none⟩)|7=>v=.slice (some ⟨bb2,o2,none⟩) n c2|8=>v=.int .i64 (q:Int)|9=>v=.pointer (some ⟨bb2,o2+q*3,none⟩)|10=>v=.pointer (some ⟨bb2,o2+q*3,none⟩)|11=>v=.int .i64 p.v|12=>v=.bool false|13=>v=.bool false|14=>v=.pointer (some ⟨w0.heap.size,0,none⟩)|15=>v=.slice (some ⟨bb,o,none⟩) n c|16=>v=.int .i64 (q:Int)|17=>v=.pointer (some ⟨bb,o+q*3,none⟩)|18=>v=.pointer (some ⟨bb,o+q*3+1,none⟩)|19=>v=.agg #[.bool p.s,.slice p.B p.m p.d]|20=>v=.pointer (some ⟨w0.heap.size+1,0,none⟩)|21=>v=.slice (some ⟨bb2,o2,none⟩) n c2|22=>v=.int .i64 (q:Int)|23=>v=.pointer (some ⟨bb2,o2+q*3,none⟩)|24=>v=.pointer (some ⟨bb2,o2+q*3+1,none⟩)|25=>v=.agg #[.bool p2.s,.slice p2.B p2.m p2.d]|26=>v=.bool false|27=>v=.bool true|28=>v=.bool true|_=>True) (fun _ _ w=>Below wr.heap.size wr w) ?_ (fun _=>Ap wr 1) ?_ ?_
          · intro j v w w' hT h;match j,h with
            |0,h=>exact h
            |1,h=>exact h
            |2,h=>exact h
            |3,h=>exact h
            |4,h=>exact h
            |5,h=>exact h
            |6,h=>exact h
            |7,h=>exact h
            |8,h=>exact h
            |9,h=>exact h
            |10,h=>exact h
            |11,h=>exact h
            |12,h=>exact h
            |13,h=>exact h
            |14,h=>exact h
            |15,h=>exact h
            |16,h=>exact h
            |17,h=>exact h
            |18,h=>exact h
            |19,h=>exact h
            |20,h=>exact h
            |21,h=>exact h
            |22,h=>exact h
            |23,h=>exact h
            |24,h=>exact h
            |25,h=>exact h
            |26,h=>exact h
            |27,h=>exact h
            |28,h=>exact h
            |j+29,h=>trivial
          · refine ⟨?_,?_,?_,?_,?_,?_,?_,?_,?_,?_,?_,?_,?_,?_,?_,?_,?_,?_,?_,?_,?_,?_,?_,?_,?_,?_,?_,?_,?_,trivial⟩
            · intro l9 σ w a hin hout hl hc hp hG hF;refine Ad.none rfl ?_;have e2:a.tmps.getD 2 undef=.pointer (some ⟨w0.heap.size,0,none⟩):=hout 2 (Ae (by kernel_rfl));refine Does.val (.pointer (some ⟨w0.heap.size,0,none⟩)) (w':=w) ?_ ⟨Below.refl _ _,rfl,hG⟩;simp only[Array.getD_eq_getD_getElem?]at e2;go_simp
            · intro l9 σ w a hin hout hl hc hp hG hF;refine Ad.none rfl ?_;have e28:a.tmps.getD 28 undef=.pointer (some ⟨w0.heap.size,0,none⟩):=Am (hin 0 28) rfl (hp ⟨0,.data⟩ (by simp) rfl) (hF 0);have CC:=SOF.out w hG;obtain ⟨C0,C1,D0,D1,D2,E0,E1,E2⟩:=CC;refine Does.val (.slice (some ⟨bb,o,none⟩) n c) (w':=w) ?_ ⟨Below.refl _ _,rfl,hG⟩;go_simp
            · intro l9 σ w a hin hout hl hc hp hG hF;refine Ad.none rfl ?_;have e5:a.tmps.getD 5 undef=.int .i64 (q:Int):=hout 5 (Ae (by kernel_rfl));refine Does.val (.int .i64 (q:Int)) (w':=w) ?_ ⟨Below.refl _ _,rfl,hG⟩;simp only[Array.getD_eq_getD_getElem?]at e5;go_simp
            · intro l9 σ w a hin hout hl hc hp hG hF;refine Ad.none rfl ?_;have e29:a.tmps.getD 29 undef=.slice (some ⟨bb,o,none⟩) n c:=Am (hin 1 29) rfl (hp ⟨1,.data⟩ (by simp) rfl) (hF 1);have e30:a.tmps.getD 30 undef=.int .i64 (q:Int):=Am (hin 2 30) rfl (hp ⟨2,.data⟩ (by simp) rfl) (hF 2);refine Does.val (.pointer (some ⟨bb,o+q*3,none⟩)) (w':=w) ?_ ⟨Below.refl _ _,rfl,hG⟩;simp only[Array.getD_eq_getD_getElem?]at e29 e30;go_simp;(try (intro hh;exfalso;omega))
            · intro l9 σ w a hin hout hl hc hp hG hF;refine Ad.none rfl ?_;have e31:a.tmps.getD 31 undef=.pointer (some ⟨bb,o+q*3,none⟩):=Am (hin 3 31) rfl (hp ⟨3,.data⟩ (by simp) rfl) (hF 3);refine Does.val (.pointer (some ⟨bb,o+q*3,none⟩)) (w':=w) ?_ ⟨Below.refl _ _,rfl,hG⟩;simp only[Array.getD_eq_getD_getElem?]at e31;go_simp
            · intro l9 σ w a hin hout hl hc hp hG hF;refine Ad.none rfl ?_;have e32:a.tmps.getD 32 undef=.pointer (some ⟨bb,o+q*3,none⟩):=Am (hin 4 32) rfl (hp ⟨4,.data⟩ (by simp) rfl) (hF 4);have CC:=SOF.out w hG;obtain ⟨C0,C1,D0,D1,D2,E0,E1,E2⟩:=CC;refine Does.val (.int .i64 p.v) (w':=w) ?_ ⟨Below.refl _ _,rfl,hG⟩;go_simp
            · intro l9 σ w a hin hout hl hc hp hG hF;refine Ad.none rfl ?_;have e3:a.tmps.getD 3 undef=.pointer (some ⟨w0.heap.size+1,0,none⟩):=hout 3 (Ae (by kernel_rfl));refine Does.val (.pointer (some ⟨w0.heap.size+1,0,none⟩)) (w':=w) ?_ ⟨Below.refl _ _,rfl,hG⟩;simp only[Array.getD_eq_getD_getElem?]at e3;go_simp
            · intro l9 σ w a hin hout hl hc hp hG hF;refine Ad.none rfl ?_;have e34:a.tmps.getD 34 undef=.pointer (some ⟨w0.heap.size+1,0,none⟩):=Am (hin 6 34) rfl (hp ⟨6,.data⟩ (by simp) rfl) (hF 6);have CC:=SOF.out w hG;obtain ⟨C0,C1,D0,D1,D2,E0,E1,E2⟩:=CC;refine Does.val (.slice (some ⟨bb2,o2,none⟩) n c2) (w':=w) ?_ ⟨Below.refl _ _,rfl,hG⟩;go_simp
            · intro l9 σ w a hin hout hl hc hp hG hF;refine Ad.none rfl ?_;have e5:a.tmps.getD 5 undef=.int .i64 (q:Int):=hout 5 (Ae (by kernel_rfl));refine Does.val (.int .i64 (q:Int)) (w':=w) ?_ ⟨Below.refl _ _,rfl,hG⟩;simp only[Array.getD_eq_getD_getElem?]at e5;go_simp
            · intro l9 σ w a hin hout hl hc hp hG hF;refine Ad.none rfl ?_;have e35:a.tmps.getD 35 undef=.slice (some ⟨bb2,o2,none⟩) n c2:=Am (hin 7 35) rfl (hp ⟨7,.data⟩ (by simp) rfl) (hF 7);have e36:a.tmps.getD 36 undef=.int .i64 (q:Int):=Am (hin 8 36) rfl (hp ⟨8,.data⟩ (by simp) rfl) (hF 8);refine Does.val (.pointer (some ⟨bb2,o2+q*3,none⟩)) (w':=w) ?_ ⟨Below.refl _ _,rfl,hG⟩;simp only[Array.getD_eq_getD_getElem?]at e35 e36;go_simp
              (try (intro hh;exfalso;omega))
            · intro l9 σ w a hin hout hl hc hp hG hF;refine Ad.none rfl ?_;have e37:a.tmps.getD 37 undef=.pointer (some ⟨bb2,o2+q*3,none⟩):=Am (hin 9 37) rfl (hp ⟨9,.data⟩ (by simp) rfl) (hF 9);refine Does.val (.pointer (some ⟨bb2,o2+q*3,none⟩)) (w':=w) ?_ ⟨Below.refl _ _,rfl,hG⟩;simp only[Array.getD_eq_getD_getElem?]at e37;go_simp
            · intro l9 σ w a hin hout hl hc hp hG hF;refine Ad.none rfl ?_;have e38:a.tmps.getD 38 undef=.pointer (some ⟨bb2,o2+q*3,none⟩):=Am (hin 10 38) rfl (hp ⟨10,.data⟩ (by simp) rfl) (hF 10);have CC:=SOF.out w hG;obtain ⟨C0,C1,D0,D1,D2,E0,E1,E2⟩:=CC;refine Does.val (.int .i64 p.v) (w':=w) ?_ ⟨Below.refl _ _,rfl,hG⟩;go_simp
            · intro l9 σ w a hin hout hl hc hp hG hF;refine Ad.none rfl ?_;have e33:a.tmps.getD 33 undef=.int .i64 p.v:=Am (hin 5 33) rfl (hp ⟨5,.data⟩ (by simp) rfl) (hF 5);have e39:a.tmps.getD 39 undef=.int .i64 p.v:=Am (hin 11 39) rfl (hp ⟨11,.data⟩ (by simp) rfl) (hF 11);refine Does.val (.bool false) (w':=w) ?_ ⟨Below.refl _ _,rfl,hG⟩;simp only[Array.getD_eq_getD_getElem?]at e33 e39;go_simp
            · intro l9 σ w a hin hout hl hc hp hG hF;refine Ad.none rfl ?_;have e40:a.tmps.getD 40 undef=.bool false:=Am (hin 12 40) rfl (hp ⟨12,.data⟩ (by simp) rfl) (hF 12);refine Does.val (.bool false) (w':=w) ?_ ⟨Below.refl _ _,rfl,hG⟩;simp only[Array.getD_eq_getD_getElem?]at e40;go_simp
            · intro l9 σ w a hin hout hl hc hp hG hF;refine Ad.some (d:=41) (b:=false) rfl rfl (Am (hin 13 41) rfl (hp ⟨13,.guard⟩ (by simp) rfl) (hF 13)) ?_;refine Or.inl ⟨rfl,?_⟩;have e2:a.tmps.getD 2 undef=.pointer (some ⟨w0.heap.size,0,none⟩):=hout 2 (Ae (by kernel_rfl));refine Does.val (.pointer (some ⟨w0.heap.size,0,none⟩)) (w':=w) ?_ ⟨Below.refl _ _,rfl,hG⟩;simp only[Array.getD_eq_getD_getElem?]at e2;go_simp
            · intro l9 σ w a hin hout hl hc hp hG hF;refine Ad.some (d:=41) (b:=false) rfl rfl (Am (hin 13 41) rfl (hp ⟨13,.guard⟩ (by simp) rfl) (hF 13)) ?_;refine Or.inl ⟨rfl,?_⟩;have e42:a.tmps.getD 42 undef=.pointer (some ⟨w0.heap.size,0,none⟩):=Am (hin 14 42) rfl (hp ⟨14,.data⟩ (by simp) rfl) (hF 14);have CC:=SOF.out w hG;obtain ⟨C0,C1,D0,D1,D2,E0,E1,E2⟩:=CC;refine Does.val (.slice (some ⟨bb,o,none⟩) n c) (w':=w) ?_ ⟨Below.refl _ _,rfl,hG⟩;go_simp
            · intro l9 σ w a hin hout hl hc hp hG hF;refine Ad.some (d:=41) (b:=false) rfl rfl (Am (hin 13 41) rfl (hp ⟨13,.guard⟩ (by simp) rfl) (hF 13)) ?_;refine Or.inl ⟨rfl,?_⟩;have e5:a.tmps.getD 5 undef=.int .i64 (q:Int):=hout 5 (Ae (by kernel_rfl));refine Does.val (.int .i64 (q:Int)) (w':=w) ?_ ⟨Below.refl _ _,rfl,hG⟩;simp only[Array.getD_eq_getD_getElem?]at e5;go_simp
            · intro l9 σ w a hin hout hl hc hp hG hF;refine Ad.some (d:=41) (b:=false) rfl rfl (Am (hin 13 41) rfl (hp ⟨13,.guard⟩ (by simp) rfl) (hF 13)) ?_;refine Or.inl ⟨rfl,?_⟩;have e43:a.tmps.getD 43 undef=.slice (some ⟨bb,o,none⟩) n c:=Am (hin 15 43) rfl (hp ⟨15,.data⟩ (by simp) rfl) (hF 15);have e44:a.tmps.getD 44 undef=.int .i64 (q:Int):=Am (hin 16 44) rfl (hp ⟨16,.data⟩ (by simp) rfl) (hF 16)
              refine Does.val (.pointer (some ⟨bb,o+q*3,none⟩)) (w':=w) ?_ ⟨Below.refl _ _,rfl,hG⟩;simp only[Array.getD_eq_getD_getElem?]at e43 e44;go_simp;(try (intro hh;exfalso;omega))
            · intro l9 σ w a hin hout hl hc hp hG hF;refine Ad.some (d:=41) (b:=false) rfl rfl (Am (hin 13 41) rfl (hp ⟨13,.guard⟩ (by simp) rfl) (hF 13)) ?_;refine Or.inl ⟨rfl,?_⟩;have e45:a.tmps.getD 45 undef=.pointer (some ⟨bb,o+q*3,none⟩):=Am (hin 17 45) rfl (hp ⟨17,.data⟩ (by simp) rfl) (hF 17);refine Does.val (.pointer (some ⟨bb,o+q*3+1,none⟩)) (w':=w) ?_ ⟨Below.refl _ _,rfl,hG⟩;simp only[Array.getD_eq_getD_getElem?]at e45;go_simp
            · intro l9 σ w a hin hout hl hc hp hG hF;refine Ad.some (d:=41) (b:=false) rfl rfl (Am (hin 13 41) rfl (hp ⟨13,.guard⟩ (by simp) rfl) (hF 13)) ?_;refine Or.inl ⟨rfl,?_⟩;have e46:a.tmps.getD 46 undef=.pointer (some ⟨bb,o+q*3+1,none⟩):=Am (hin 18 46) rfl (hp ⟨18,.data⟩ (by simp) rfl) (hF 18);have CC:=SOF.out w hG;obtain ⟨C0,C1,D0,D1,D2,E0,E1,E2⟩:=CC;refine Does.val (.agg #[.bool p.s,.slice p.B p.m p.d]) (w':=w) ?_ ⟨Below.refl _ _,rfl,hG⟩;go_simp
            · intro l9 σ w a hin hout hl hc hp hG hF;refine Ad.some (d:=41) (b:=false) rfl rfl (Am (hin 13 41) rfl (hp ⟨13,.guard⟩ (by simp) rfl) (hF 13)) ?_;refine Or.inl ⟨rfl,?_⟩;have e3:a.tmps.getD 3 undef=.pointer (some ⟨w0.heap.size+1,0,none⟩):=hout 3 (Ae (by kernel_rfl));refine Does.val (.pointer (some ⟨w0.heap.size+1,0,none⟩)) (w':=w) ?_ ⟨Below.refl _ _,rfl,hG⟩;simp only[Array.getD_eq_getD_getElem?]at e3;go_simp
            · intro l9 σ w a hin hout hl hc hp hG hF;refine Ad.some (d:=41) (b:=false) rfl rfl (Am (hin 13 41) rfl (hp ⟨13,.guard⟩ (by simp) rfl) (hF 13)) ?_;refine Or.inl ⟨rfl,?_⟩;have e48:a.tmps.getD 48 undef=.pointer (some ⟨w0.heap.size+1,0,none⟩):=Am (hin 20 48) rfl (hp ⟨20,.data⟩ (by simp) rfl) (hF 20);have CC:=SOF.out w hG;obtain ⟨C0,C1,D0,D1,D2,E0,E1,E2⟩:=CC;refine Does.val (.slice (some ⟨bb2,o2,none⟩) n c2) (w':=w) ?_ ⟨Below.refl _ _,rfl,hG⟩;go_simp
            · intro l9 σ w a hin hout hl hc hp hG hF;refine Ad.some (d:=41) (b:=false) rfl rfl (Am (hin 13 41) rfl (hp ⟨13,.guard⟩ (by simp) rfl) (hF 13)) ?_;refine Or.inl ⟨rfl,?_⟩;have e5:a.tmps.getD 5 undef=.int .i64 (q:Int):=hout 5 (Ae (by kernel_rfl));refine Does.val (.int .i64 (q:Int)) (w':=w) ?_ ⟨Below.refl _ _,rfl,hG⟩;simp only[Array.getD_eq_getD_getElem?]at e5;go_simp
            · intro l9 σ w a hin hout hl hc hp hG hF;refine Ad.some (d:=41) (b:=false) rfl rfl (Am (hin 13 41) rfl (hp ⟨13,.guard⟩ (by simp) rfl) (hF 13)) ?_;refine Or.inl ⟨rfl,?_⟩;have e49:a.tmps.getD 49 undef=.slice (some ⟨bb2,o2,none⟩) n c2:=Am (hin 21 49) rfl (hp ⟨21,.data⟩ (by simp) rfl) (hF 21);have e50:a.tmps.getD 50 undef=.int .i64 (q:Int):=Am (hin 22 50) rfl (hp ⟨22,.data⟩ (by simp) rfl) (hF 22)
              refine Does.val (.pointer (some ⟨bb2,o2+q*3,none⟩)) (w':=w) ?_ ⟨Below.refl _ _,rfl,hG⟩;simp only[Array.getD_eq_getD_getElem?]at e49 e50;go_simp;(try (intro hh;exfalso;omega))
            · intro l9 σ w a hin hout hl hc hp hG hF;refine Ad.some (d:=41) (b:=false) rfl rfl (Am (hin 13 41) rfl (hp ⟨13,.guard⟩ (by simp) rfl) (hF 13)) ?_;refine Or.inl ⟨rfl,?_⟩;have e51:a.tmps.getD 51 undef=.pointer (some ⟨bb2,o2+q*3,none⟩):=Am (hin 23 51) rfl (hp ⟨23,.data⟩ (by simp) rfl) (hF 23);refine Does.val (.pointer (some ⟨bb2,o2+q*3+1,none⟩)) (w':=w) ?_ ⟨Below.refl _ _,rfl,hG⟩;simp only[Array.getD_eq_getD_getElem?]at e51;go_simp
            · intro l9 σ w a hin hout hl hc hp hG hF;refine Ad.some (d:=41) (b:=false) rfl rfl (Am (hin 13 41) rfl (hp ⟨13,.guard⟩ (by simp) rfl) (hF 13)) ?_;refine Or.inl ⟨rfl,?_⟩;have e52:a.tmps.getD 52 undef=.pointer (some ⟨bb2,o2+q*3+1,none⟩):=Am (hin 24 52) rfl (hp ⟨24,.data⟩ (by simp) rfl) (hF 24);have CC:=SOF.out w hG;obtain ⟨C0,C1,D0,D1,D2,E0,E1,E2⟩:=CC;refine Does.val (.agg #[.bool p2.s,.slice p2.B p2.m p2.d]) (w':=w) ?_ ⟨Below.refl _ _,rfl,hG⟩;go_simp
            · intro l9 σ w a hin hout hl hc hp hG hF;refine Ad.some (d:=41) (b:=false) rfl rfl (Am (hin 13 41) rfl (hp ⟨13,.guard⟩ (by simp) rfl) (hF 13)) ?_;refine Or.inl ⟨rfl,?_⟩;have e47:a.tmps.getD 47 undef=.agg #[.bool p.s,.slice p.B p.m p.d]:=Am (hin 19 47) rfl (hp ⟨19,.data⟩ (by simp) rfl) (hF 19);have e53:a.tmps.getD 53 undef=.agg #[.bool p2.s,.slice p2.B p2.m p2.d]:=Am (hin 25 53) rfl (hp ⟨25,.data⟩ (by simp) rfl) (hF 25)
              refine Does.call ?_ (HS.out w hG) ?_
              · go_simp
              · rintro e w' ⟨rfl,hb⟩;exact ⟨_,rfl,hb,rfl,hG.next hb⟩
            · intro l9 σ w a hin hout hl hc hp hG hF;refine Ad.some (d:=41) (b:=false) rfl rfl (Am (hin 13 41) rfl (hp ⟨13,.guard⟩ (by simp) rfl) (hF 13)) ?_;refine Or.inl ⟨rfl,?_⟩;have e54:a.tmps.getD 54 undef=.bool false:=Am (hin 26 54) rfl (hp ⟨26,.data⟩ (by simp) rfl) (hF 26);refine Does.val (.bool true) (w':=w) ?_ ⟨Below.refl _ _,rfl,hG⟩;simp only[Array.getD_eq_getD_getElem?]at e54;go_simp
            · intro l9 σ w a hin hout hl hc hp hG hF;refine Ad.none rfl ?_;have e41:a.tmps.getD 41 undef=.bool false:=Am (hin 13 41) rfl (hp ⟨13,.data⟩ (by simp) rfl) (hF 13);have e55:a.tmps.getD 55 undef=.bool true:=Am (hin 27 55) rfl (hp ⟨27,.data⟩ (by simp) rfl) (hF 27);refine Does.val (.bool true) (w':=w) ?_ ⟨Below.refl _ _,rfl,hG⟩;simp only[Array.getD_eq_getD_getElem?]at e41 e55;go_simp
          · intro l9 σ W9 hall hG hF
            rw[show mid _ σ l9 _=(Act.put (Act.put (Act.put (Act.put (Act.put (Act.put (Act.put (Act.put (Act.put (Act.put (Act.put (Act.put (Act.put (Act.put (Act.put (Act.put (Act.put (Act.put (Act.put (Act.put (Act.put (Act.put (Act.put (Act.put (Act.put (Act.put (Act.put (Act.put (Act.put _ (some 28) (σ 0)) (some 29) (σ 1)) (some 30) (σ 2)) (some 31) (σ 3)) (some 32) (σ 4)) (some 33) (σ 5)) (some 34) (σ 6)) (some 35) (σ 7)) (some 36) (σ 8)) (some 37) (σ 9)) (some 38) (σ 10)) (some 39) (σ 11)) (some 40) (σ 12)) (some 41) (σ 13)) (some 42) (σ 14)) (some 43) (σ 15)) (some 44) (σ 16)) (some 45) (σ 17)) (some 46) (σ 18)) (some 47) (σ 19)) (some 48) (σ 20)) (some 49) (σ 21)) (some 50) (σ 22)) (some 51) (σ 23)) (some 52) (σ 24)) (some 53) (σ 25)) (some 54) (σ 26)) (some 55) (σ 27)) (some 56) (σ 28)) from (AU hall).trans rfl]
            generalize σ 0=tt0;generalize σ 1=tt1;generalize σ 2=tt2;generalize σ 3=tt3;generalize σ 4=tt4;generalize σ 5=tt5;generalize σ 6=tt6;generalize σ 7=tt7;generalize σ 8=tt8;generalize σ 9=tt9;generalize σ 10=tt10;generalize σ 11=tt11;generalize σ 12=tt12;generalize σ 13=tt13;generalize σ 14=tt14;generalize σ 15=tt15;generalize σ 16=tt16;generalize σ 17=tt17;generalize σ 18=tt18;generalize σ 19=tt19;generalize σ 20=tt20;generalize σ 21=tt21
            generalize σ 22=tt22;generalize σ 23=tt23;generalize σ 24=tt24;generalize σ 25=tt25;generalize σ 26=tt26;generalize σ 27=tt27;rw[show σ 28=.bool true from hF 28 (by decide)];simp only[Act.put,List.setIfInBounds_toArray,List.set_cons_zero,List.set_cons_succ];have TG:=hG;clear hF hG hall;clear σ;have HE:=Ac (HR.out.next TG);clear TG SOF HS;go_wp2_with fail;go_ret
            exact ⟨rfl,HB.out.next HE.out⟩
    · exfalso;exact Lu (by have h1:=HN.out;have h2:=HN2.out;omega) HNE.out q (by have h1:=HN.out;omega) HTK.out
 · have h0:((n:Int) != (n2:Int))=true:=(by simp;omega);obtain ⟨z0,z1,z2,z3⟩:=Bi 40 40 w0 #[.slice A n c,.bool s,.slice B m d] #[.slice A2 n2 c2,.bool s2,.slice B2 m2 d2];have x0:=z0.c0;have y0:=z1.c0;have X:=Ac z0;have Y:=Ac z1;have T:=Ac z2;have g1:n<=1099511:=(by omega);have g2:n2<=1099511:=(by omega);clear hps hqs hzp hzq hlp hlq z0 z1 z2 z3 hK hK2 hn hn2 hne;go_enter Tryz.func60,Tryz.ntmps60;go_wp2_with fail;go_ret
   exact ⟨rfl,T.out⟩
end
end Go.Proofs.YtmedjkhmadfjlaaGreat
