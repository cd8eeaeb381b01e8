/- Texts of one seat, put together: RShrink RNumber. -/
import Derived.Test.YtmedjkhmadfjlaaGreatR26
import Derived.Test.YtmedjkhmadfjlaaGreatR25
import Derived.Test.YtmedjkhmadfjlaaGreatR24
import Derived.Test.YtmedjkhmadfjlaaGreatR10
import Derived.Test.YtmedjkhmadfjlaaGreatR19
set_option linter.unusedVariables false
set_option linter.unusedSimpArgs false
set_option maxRecDepth 100000
set_option maxHeartbeats 16000000
namespace Go.Proofs.YtmedjkhmadfjlaaGreat
section
open Go.RowKit
open Tm
theorem AH.otherB {w w':World} {g k:Nat} {cs:Array Value} (h:AH w g cs) (ho:AA k w w') (hne:g≠k):AH w' g cs:=AK.other h ho hne
theorem BM.onTo {W2 W6 W9:World} {g j q:Nat} {L:List (Int×Int)} {K:Int} {f:Int->Int} (h:BM W2 g L K f j q W6) (b:Below W6.heap.size W6 W9):BM W2 g L K f j q W9:=by obtain ⟨rs,A,c,s,B,m,d,h1,h2,h3,h4,h5,h6,h7,h8⟩:=h;exact ⟨rs,A,c,s,B,m,d,h1.next b,h2.below b,h3,h4,fun p hp=>(h5 p hp).below b,h6.below b,h7.next b,h8.trans (Kp.of_below b)⟩
theorem Nr (v:Value) (L:List (Int×Int)) (K:Int) (k:Nat) (w0:World) (hv:D9 w0 v L K k) (hl:L.length<=1099511) (hk:k<=1099511):Calls Tryz.prog 83 #[v] w0 (Ps L K (k+L.length) w0):=by
 have hv0:=hv;obtain ⟨A,n,c,s,B,m,d,rfl,-⟩:=hv;obtain ⟨z0,z1,z2,z3,z4⟩:=Cc 40 40 38 w0 #[.slice A n c,.bool s,.slice B m d] #[.slice none 0 0,.bool false,.slice none 0 0] #[.bool false,.slice none 0 0];have hct:=Ht _ L K k _ (hv0.below z3) hl (by omega);have x0:=z0.c0;have x1:=z0.c1;have x2:=z0.c2;go_enter Tryz.func83,Tryz.ntmps83;go_wp2_with fail;refine hct.mono ?_;rintro e w1 ⟨v1,rfl,r1,b1⟩;obtain ⟨s1,A1,n1,c1,rfl⟩:=r1.form
 obtain ⟨y0,y1,y2⟩:=Bh 38 w1 #[.bool s1,.slice A1 n1 c1];have HT:=Ac ((z3.next b1).next y1);have q0:=(z0.next b1).next y1;have q1:=(z1.next b1).next y1;have q2:=(z2.next b1).next y1;have r2:=r1.below y1;have hs:=Bb _ (Ak L) _ _ r2.in_ (by omega);unfold Dm at hs;have hw1:w0.heap.size+1+1+1<=w1.heap.size:=by have:=b1.size;omega
 have a0:=q0.c0;have a1:=q0.c1;have a2:=q0.c2;have e0:=AH.c0 y0;have e1:=AH.c1 y0;clear x0 x1 x2 hct z0 z1 z2 z3 z4 b1 r1 y1 y2;by_cases h0:Ak L=0
 · have HN:=Cw.1 h0;have HK:=Ac (show CZ L K=K by unfold CZ;rw[if_pos h0]);have HQ:=Ac (show Ce (Ak L) (norm L)=norm L by rw[HN];rfl);have HC0:=Ac h0;rw[h0]at hs;rw[show Int.sign 0=0 from rfl]at hs;clear h0 HN;go_wp2_with fail;refine hs.mono ?_;rintro e W2 ⟨rfl,b2⟩;have HT2:=Ac (HT.out.next b2);have g0:=q0.next b2;have g1:=q1.next b2;have g2:=q2.next b2;have hpl:=DN _ L K k W2 (hv0.below HT2.out) hl (by omega);have u0:=g0.c0;have u1:=g0.c1;have u2:=g0.c2
   clear a0 a1 a2 e0 e1 q0 q1 q2 y0 r2 hs b2 hv0;go_wp2_with fail;refine hpl.mono ?_;rintro e W3 ⟨v3,rfl,r3,b3⟩;obtain ⟨A3,n3,c3,s3,B3,m3,d3,rfl⟩:=r3.form;have g1:=g1.next b3;have g2:=AH.next g2 b3;have HT3:=Ac (HT2.out.next b3);have HR3:=Ac r3;clear u0 u1 u2 g0 hpl r3 b3;go_wp2_with (first
    |(with_reducible refine Be rfl _ _ rfl (w0.heap.size+1) _ _ _ _ _ _ _ rfl rfl _ _ _ g1 ?_;intro w4 k4 ho4;have g3:=AH.otherB g2 ho4 (by omega))
    |(with_reducible refine An rfl _ _ rfl (w0.heap.size+1+1) _ _ _ _ rfl rfl _ _ g3 ?_;intro w5 k5 ho5))
   have TK:=KT.term (q:=w0.heap.size+1+1) g1 ho4;have HR4:=HR3.out.kt TK;have TL:=KT.num (r:=w0.heap.size+1) g3 ho5;have X5:=AK.other k4 ho5 (by omega);exact EF rfl rfl rfl X5 k5 rfl ⟨_,_,rfl,by rw[HQ.out,HK.out];exact HR4.kt TL,by rw[HC0.out];exact Au.zero _ _,HT3.out.trans (KT.below (TK.trans TL) HT3.out.size (by omega) (by omega))⟩
 · have HK:=Ac (show CZ L K=K.fdiv (Ak L) by unfold CZ;rw[if_neg h0]);have h1:((Ak L).sign==0)=false:=LZ h0;have H0:=Ac h0;generalize (Ak L).sign=sgn at *;clear h0;go_wp2_with fail;refine hs.mono ?_;rintro e W2 ⟨rfl,b2⟩;obtain ⟨y3,b4,-⟩:=Bh 40 W2 #[.slice none 0 0,.bool false,.slice none 0 0];have HT2:=Ac ((HT.out.next b2).next b4);have g0:=(q0.next b2).next b4;have Q1:=Ac ((q1.next b2).next b4);have Q2:=Ac ((q2.next b2).next b4);have Y0:=Ac ((AH.next y0 b2).next b4)
   have HZ0:=Ac ((r2.below b2).below b4);have hw2:w1.heap.size+1<=W2.heap.size:=(by have:=(AH.next y0 b2);have:=AK.lt this;omega);have x0:=g0.c0;have x1:=g0.c1;have x2:=g0.c2;have hva:=Ih _ L K k _ (hv0.below HT2.out) hl (by omega);have Y3:=Ac y3;have G0:=Ac g0;clear a0 a1 a2 e0 e1 q0 q1 q2 y0 r2 hs b2 b4 y3 g0;go_wp2_with fail;refine hva.mono ?_;rintro e W4 ⟨AV,cV,rfl,iv,hv1,hv2,b5⟩;have IV:=Ac iv;have HT4:=Ac (HT2.out.next b5);have XB:=Ac (Y3.out.next b5)
   have Q0:=Ac (G0.out.next b5);have Q1:=Ac (Q1.out.next b5);have Q2:=Ac (AH.next Q2.out b5);have Y0:=Ac (AH.next Y0.out b5);have HZ:=Ac (HZ0.out.below b5);have HV0:=Ac hv0;have hm1:(vars L).length<=1099511:=(by have:=FT L;omega);have HS:=Ac (show BM W4 W2.heap.size (norm L) 0 (fun z=>z.fdiv (Ak L)) (k+L.length) 0 W4 from
    ⟨[],none,0,false,none,0,0,XB.out,AF.nil _ _ _ _,rfl,rfl,fun p hp=>by simp at hp,by show Au _ _ ((0:Int).fdiv (Ak L)) _;rw[Int.zero_fdiv];exact Au.zero _ _,AA.refl _ _,Kp.refl _⟩)
   clear x0 x1 x2 hva iv b5 hv0;generalize hm:(vars L).length=m1 at *;have HM1:=Ac hm;clear hm;go_wp2_with fail;go_loopw [7] (fun i wr=>∃q:Nat,q<=m1/\i=.int .i64 q/\Hid (BM W4 W2.heap.size (norm L) 0 (fun z=>z.fdiv (Ak L)) (k+L.length) q wr)) (fun i _=>m1-(intOf i).toNat)
   case atStart=>exact ⟨0,Nat.zero_le _,rfl,HS⟩
   case round=>
    obtain ⟨q,hq,rfl,HR⟩:=hrel;obtain ⟨rs0,A0,c0',s0,B0,m0,d0,xg0,lr0,-,-,-,zK0,oW0,kW0⟩:=HR.out;have hT:Below w0.heap.size w0 wr:=HT4.out.trans (oW0.below HT4.out.size (by omega));have zt:=Q0.out.other oW0 (by omega);have zi:AH wr w1.heap.size #[.bool s1,.slice A1 n1 c1]:=AK.other Y0.out oW0 (by omega);have HTT:=Ac hT;have HZW:=Ac (HZ.out.kp kW0);have hIV:=IV.out.keepT (b0:=#[]) XB.out oW0;by_cases hqn:q<m1
    · obtain ⟨bb,o,x,rfl,hlt,hx,c0⟩:=hIV.at_ hqn;have HLp:=Ac (JX L q x hx);have HCO:=Ac (fun W (h:Below wr.heap.size wr W)=>Gk _ L K x k W (HV0.out.below (HTT.out.next h)) hl (by omega));have HD:=Ac (fun W v (h:Below wr.heap.size wr W) (z:Au W v (AB L x) (k+L.length))=>Ij v (.agg #[.bool s1,.slice A1 n1 c1]) (AB L x) (Ak L) (k+L.length) (k+L.length) W z.in_ (HZW.out.below h).in_ H0.out (by omega) (by omega));unfold Cn at HCO;unfold Mg at HD
      have SOF:=Ac (show ∀W,Below wr.heap.size wr W->(W.cell? ⟨w0.heap.size,0,none⟩=some (.slice A n c)/\W.cell? ⟨w0.heap.size,1,none⟩=some (.bool s)/\W.cell? ⟨w0.heap.size,2,none⟩=some (.slice B m d)/\W.cell? ⟨w1.heap.size,0,none⟩=some (.bool s1)/\W.cell? ⟨w1.heap.size,1,none⟩=some (.slice A1 n1 c1)/\W.cell? ⟨bb,o+q,none⟩=some (.int .i64 x)) from fun W h=>⟨(zt.next h).c0,(zt.next h).c1,(zt.next h).c2,(AH.next zi h).c0,(AH.next zi h).c1,(h.cell (p:=⟨bb,o+q,none⟩) hlt).trans c0⟩)
      have HC0:=Ac c0;clear xg0 lr0 zK0 oW0 kW0 hT zt zi hIV hx c0;go_wp2_with fail
      refine II (by kernel_rfl) (by kernel_rfl) (by kernel_rfl) (fun w w'=>∀v Z k,Au w v Z k->Au w' v Z k) (fun j v w=>match j with|0=>v=.agg #[.slice A n c,.bool s,.slice B m d]|1=>v=.slice (some ⟨bb,o,none⟩) m1 cV|2=>v=.int .i64 (q:Int)|3=>v=.pointer (some ⟨bb,o+q,none⟩)|4=>v=.int .i64 x|5=>Au w v (AB L x) (k+L.length)|6=>v=.agg #[.bool s1,.slice A1 n1 c1]|7=>∃x9 y9,v=.tuple #[x9,y9,.int .i64 0]/\Au w x9 ((AB L x).fdiv (Ak L)) (k+L.length)/\Au w y9 ((AB L x).fmod (Ak L)) (k+L.length)|8=>∃x9 y9,v=.tuple #[x9,y9,.int .i64 0]/\Au w x9 ((AB L x).fdiv (Ak L)) (k+L.length)/\Au w y9 ((AB L x).fmod (Ak L)) (k+L.length)|9=>Au w v ((AB L x).fdiv (Ak L)) (k+L.length)|10=>Au w v ((AB L x).fmod (Ak L)) (k+L.length)|11=>v=.int .i64 0|16=>v=.int .i64 0|_=>True) (GZ wr [⟨12,14,((AB L x).fdiv (Ak L)),(k+L.length)⟩,⟨13,15,((AB L x).fmod (Ak L)),(k+L.length)⟩]) ?_ (fun σ=>GZ.start) ?_ ?_
      · intro j v w w' hT h;match j,h with
        |0,h=>exact h
        |1,h=>exact h
        |2,h=>exact h
        |3,h=>exact h
        |4,h=>exact h
        |5,h=>exact hT _ _ _ h
        |6,h=>exact h
        |7,⟨x,y,e,h1,h2⟩=>exact ⟨x,y,e,hT _ _ _ h1,hT _ _ _ h2⟩
        |8,⟨x,y,e,h1,h2⟩=>exact ⟨x,y,e,hT _ _ _ h1,hT _ _ _ h2⟩
        |9,h=>exact hT _ _ _ h
        |10,h=>exact hT _ _ _ h
        |11,h=>exact h
        |12,h=>trivial
        |13,h=>trivial
        |14,h=>trivial
        |15,h=>trivial
        |16,h=>exact h
        |j+17,h=>trivial
      · refine ⟨?_,?_,?_,?_,?_,?_,?_,?_,?_,?_,?_,?_,?_,?_,?_,?_,?_,trivial⟩
        · intro l9 σ w a hin hout hl hc hp hG hF;refine Ad.none rfl ?_;have e1:a.tmps.getD 1 undef=.pointer (some ⟨w0.heap.size,0,none⟩):=hout 1 (by kernel_rfl);obtain ⟨C0,C1,C2,D0,D1,E0⟩:=SOF.out w hG.old;refine Does.val (.agg #[.slice A n c,.bool s,.slice B m d]) (w':=w) ?_ ⟨fun _ _ _ h=>h,rfl,hG.same (by rfl)⟩;go_simp
        · intro l9 σ w a hin hout hl hc hp hG hF;refine Ad.none rfl ?_;have e6:a.tmps.getD 6 undef=.slice (some ⟨bb,o,none⟩) m1 cV:=hout 6 (by kernel_rfl);refine Does.val (.slice (some ⟨bb,o,none⟩) m1 cV) (w':=w) ?_ ⟨fun _ _ _ h=>h,rfl,hG.same (by rfl)⟩;simp only[Array.getD_eq_getD_getElem?]at e6;go_simp
        · intro l9 σ w a hin hout hl hc hp hG hF;refine Ad.none rfl ?_;have e7:a.tmps.getD 7 undef=.int .i64 (q:Int):=hout 7 (by kernel_rfl);refine Does.val (.int .i64 (q:Int)) (w':=w) ?_ ⟨fun _ _ _ h=>h,rfl,hG.same (by rfl)⟩;simp only[Array.getD_eq_getD_getElem?]at e7;go_simp
        · intro l9 σ w a hin hout hl hc hp hG hF;refine Ad.none rfl ?_;have e33:a.tmps.getD 33 undef=.slice (some ⟨bb,o,none⟩) m1 cV:=Am (hin 1 33) rfl (hp ⟨1,.data⟩ (by simp) rfl) (hF 1);have e34:a.tmps.getD 34 undef=.int .i64 (q:Int):=Am (hin 2 34) rfl (hp ⟨2,.data⟩ (by simp) rfl) (hF 2);refine Does.val (.pointer (some ⟨bb,o+q,none⟩)) (w':=w) ?_ ⟨fun _ _ _ h=>h,rfl,hG.same (by rfl)⟩;simp only[Array.getD_eq_getD_getElem?]at e33 e34;go_simp
        · intro l9 σ w a hin hout hl hc hp hG hF;refine Ad.none rfl ?_;have e35:a.tmps.getD 35 undef=.pointer (some ⟨bb,o+q,none⟩):=Am (hin 3 35) rfl (hp ⟨3,.data⟩ (by simp) rfl) (hF 3);obtain ⟨C0,C1,C2,D0,D1,E0⟩:=SOF.out w hG.old;refine Does.val (.int .i64 x) (w':=w) ?_ ⟨fun _ _ _ h=>h,rfl,hG.same (by rfl)⟩;go_simp
        · intro l9 σ w a hin hout hl hc hp hG hF;refine Ad.none rfl ?_;have e32:a.tmps.getD 32 undef=.agg #[.slice A n c,.bool s,.slice B m d]:=Am (hin 0 32) rfl (hp ⟨0,.data⟩ (by simp) rfl) (hF 0);have e36:a.tmps.getD 36 undef=.int .i64 x:=Am (hin 4 36) rfl (hp ⟨4,.data⟩ (by simp) rfl) (hF 4);refine Does.call ?_ (HCO.out w hG.old) ?_
          · go_simp
          · rintro e w' ⟨v,rfl,z,hb⟩;exact ⟨v,rfl,fun _ _ _ h=>h.below hb,z,hG.keep (by rfl) hb⟩
        · intro l9 σ w a hin hout hl hc hp hG hF;refine Ad.none rfl ?_;have e4:a.tmps.getD 4 undef=.pointer (some ⟨w1.heap.size,0,none⟩):=hout 4 (by kernel_rfl);obtain ⟨C0,C1,C2,D0,D1,E0⟩:=SOF.out w hG.old;refine Does.val (.agg #[.bool s1,.slice A1 n1 c1]) (w':=w) ?_ ⟨fun _ _ _ h=>h,rfl,hG.same (by rfl)⟩;go_simp
        · intro l9 σ w a hin hout hl hc hp hG hF;refine Ad.none rfl ?_;have e37:=hin 5 37 rfl (hp ⟨5,.data⟩ (by simp) rfl);have z5:Au w (σ 5) _ _:=hF 5 (hp ⟨5,.data⟩ (by simp) rfl);have e38:a.tmps.getD 38 undef=.agg #[.bool s1,.slice A1 n1 c1]:=Am (hin 6 38) rfl (hp ⟨6,.data⟩ (by simp) rfl) (hF 6);generalize σ 5=v5 at *;refine Does.call ?_ (HD.out w v5 hG.old z5) ?_
          · go_simp
          · rintro e w' ⟨x,y,rfl,z1,z2,hb⟩;exact ⟨_,rfl,fun _ _ _ h=>h.below hb,⟨x,y,rfl,z1,z2⟩,hG.keep (by rfl) hb⟩
        · intro l9 σ w a hin hout hl hc hp hG hF;refine Ad.none rfl ?_;have e39:=hin 7 39 rfl (hp ⟨7,.data⟩ (by simp) rfl);obtain ⟨x7,y7,ev7,zx7,zy7⟩:=hF 7 (hp ⟨7,.data⟩ (by simp) rfl);rw[ev7]at e39;refine Does.val (.tuple #[x7,y7,.int .i64 0]) (w':=w) ?_ ⟨fun _ _ _ h=>h,⟨x7,y7,rfl,zx7,zy7⟩,hG.same (by rfl)⟩;simp only[Array.getD_eq_getD_getElem?]at e39;go_simp
        · intro l9 σ w a hin hout hl hc hp hG hF;refine Ad.none rfl ?_;have e31:=hin 8 31 rfl (hp ⟨8,.data⟩ (by simp) rfl);obtain ⟨x8,y8,ev8,zx8,zy8⟩:=hF 8 (hp ⟨8,.data⟩ (by simp) rfl);rw[ev8]at e31;refine Does.val x8 (w':=w) ?_ ⟨fun _ _ _ h=>h,zx8,hG.same (by rfl)⟩;simp only[Array.getD_eq_getD_getElem?]at e31;go_simp
        · intro l9 σ w a hin hout hl hc hp hG hF;refine Ad.none rfl ?_;have e31:=hin 8 31 rfl (hp ⟨8,.data⟩ (by simp) rfl);obtain ⟨x8,y8,ev8,zx8,zy8⟩:=hF 8 (hp ⟨8,.data⟩ (by simp) rfl);rw[ev8]at e31;refine Does.val y8 (w':=w) ?_ ⟨fun _ _ _ h=>h,zy8,hG.same (by rfl)⟩;simp only[Array.getD_eq_getD_getElem?]at e31;go_simp
        · intro l9 σ w a hin hout hl hc hp hG hF;refine Ad.none rfl ?_;have e31:=hin 8 31 rfl (hp ⟨8,.data⟩ (by simp) rfl);obtain ⟨x8,y8,ev8,zx8,zy8⟩:=hF 8 (hp ⟨8,.data⟩ (by simp) rfl);rw[ev8]at e31;refine Does.val (.int .i64 0) (w':=w) ?_ ⟨fun _ _ _ h=>h,rfl,hG.same (by rfl)⟩;simp only[Array.getD_eq_getD_getElem?]at e31;go_simp
        · intro l9 σ w a hin hout hl hc hp hG hF;refine Ad.none rfl ?_;refine Does.val (.pointer (some ⟨w.heap.size,0,none⟩)) (w':=w.alloc (.cells #[.bool false,.slice none 0 0] 38)) ?_ ⟨fun _ _ _ h=>h.alloc _,trivial,hG.made (by rfl) (List.Mem.head _) rfl ?_⟩
          · go_simp
          · intro q hq hqe;have hun:l9.getD 14 false=false:=Lm (k:=14) hc hl (by kernel_rfl);simp only[List.mem_cons,List.not_mem_nil,or_false]at hq;rcases hq with rfl|rfl<;>first|exact hun|(simp at hqe)
        · intro l9 σ w a hin hout hl hc hp hG hF;refine Ad.none rfl ?_;refine Does.val (.pointer (some ⟨w.heap.size,0,none⟩)) (w':=w.alloc (.cells #[.bool false,.slice none 0 0] 38)) ?_ ⟨fun _ _ _ h=>h.alloc _,trivial,hG.made (by rfl) (List.Mem.tail _ (List.Mem.head _)) rfl ?_⟩
          · go_simp
          · intro q hq hqe;have hun:l9.getD 15 false=false:=Lm (k:=15) hc hl (by kernel_rfl);simp only[List.mem_cons,List.not_mem_nil,or_false]at hq;rcases hq with rfl|rfl<;>first|exact hun|(simp at hqe)
        · intro l9 σ w a hin hout hl hc hp hG hF;refine Ad.none rfl ?_;obtain ⟨g,eg,-,-,-,-⟩:=hG.at_ (List.Mem.head _) (hp ⟨12,.data⟩ (by simp) rfl);have e8:=(hin 12 8 rfl (hp ⟨12,.data⟩ (by simp) rfl)).trans eg;have e40:=hin 9 40 rfl (hp ⟨9,.data⟩ (by simp) rfl);have z9:Au w (σ 9) _ _:=hF 9 (hp ⟨9,.data⟩ (by simp) rfl);obtain ⟨s8,A8,n8,c8,ev8⟩:=z9.form;rw[ev8]at e40 z9
          obtain ⟨hB,hG2⟩:=hG.filled (v:=undef) (by rfl) (List.Mem.head _) rfl (hp ⟨12,.data⟩ (by simp) rfl) hl eg z9 (fun q hq hqe=>by
            simp only[List.mem_cons,List.not_mem_nil,or_false]at hq;rcases hq with rfl|rfl<;>first|rfl|(simp at hqe))
          have q0:=hB.c0;have q1:=hB.c1;have f0:=hB.fr 0;have f1:=hB.fr 1;refine Does.skip (w':=st2 w g (.bool s8) (.slice A8 n8 c8)) ?_ ⟨fun _ _ _ h=>h.st hB,trivial,hG2⟩;go_simp;rfl
        · intro l9 σ w a hin hout hl hc hp hG hF;refine Ad.none rfl ?_;obtain ⟨g,eg,-,-,-,-⟩:=hG.at_ (List.Mem.tail _ (List.Mem.head _)) (hp ⟨13,.data⟩ (by simp) rfl);have e9:=(hin 13 9 rfl (hp ⟨13,.data⟩ (by simp) rfl)).trans eg;have e41:=hin 10 41 rfl (hp ⟨10,.data⟩ (by simp) rfl);have z10:Au w (σ 10) _ _:=hF 10 (hp ⟨10,.data⟩ (by simp) rfl);obtain ⟨s8,A8,n8,c8,ev8⟩:=z10.form;rw[ev8]at e41 z10
          obtain ⟨hB,hG2⟩:=hG.filled (v:=undef) (by rfl) (List.Mem.tail _ (List.Mem.head _)) rfl (hp ⟨13,.data⟩ (by simp) rfl) hl eg z10 (fun q hq hqe=>by
            simp only[List.mem_cons,List.not_mem_nil,or_false]at hq;rcases hq with rfl|rfl<;>first|rfl|(simp at hqe))
          have q0:=hB.c0;have q1:=hB.c1;have f0:=hB.fr 0;have f1:=hB.fr 1;refine Does.skip (w':=st2 w g (.bool s8) (.slice A8 n8 c8)) ?_ ⟨fun _ _ _ h=>h.st hB,trivial,hG2⟩;go_simp;rfl
        · intro l9 σ w a hin hout hl hc hp hG hF;refine Ad.none rfl ?_;have e42:=hin 11 42 rfl (hp ⟨11,.data⟩ (by simp) rfl);obtain ev11:=hF 11 (hp ⟨11,.data⟩ (by simp) rfl);rw[ev11]at e42;refine Does.val (.int .i64 0) (w':=w) ?_ ⟨fun _ _ _ h=>h,rfl,hG.same (by rfl)⟩;simp only[Array.getD_eq_getD_getElem?]at e42;go_simp
      · intro l9 σ W9 hall hG hF
        rw[show mid _ σ l9 _=(Act.put (Act.put (Act.put (Act.put (Act.put (Act.put (Act.put (Act.put (Act.put (Act.put (Act.put (Act.put (Act.put (Act.put (Act.put (Act.put (Act.put _ (some 32) (σ 0)) (some 33) (σ 1)) (some 34) (σ 2)) (some 35) (σ 3)) (some 36) (σ 4)) (some 37) (σ 5)) (some 38) (σ 6)) (some 39) (σ 7)) (some 31) (σ 8)) (some 40) (σ 9)) (some 41) (σ 10)) (some 42) (σ 11)) (some 8) (σ 12)) (some 9) (σ 13)) none (σ 14)) none (σ 15)) (some 10) (σ 16)) from (AU hall).trans rfl]
        obtain ⟨gB0,eB0,hB0,-,-,hfull0⟩:=hG.at_ (List.Mem.head _) (hall 12 (by show 12<17;omega));have hZ0:=hfull0 (hall 14 (by show 14<17;omega));obtain ⟨gB1,eB1,hB1,-,-,hfull1⟩:=hG.at_ (List.Mem.tail _ (List.Mem.head _)) (hall 13 (by show 13<17;omega));have hZ1:=hfull1 (hall 15 (by show 15<17;omega))
        have hN01:gB0≠gB1:=fun e=>hG.2.2 _ (List.Mem.head _) _ (List.Mem.tail _ (List.Mem.head _)) (by simp) (hall 12 (by show 12<17;omega)) (hall 13 (by show 13<17;omega)) (by show σ 12=σ 13;rw[eB0,eB1,e])
        rw[eB0];rw[eB1];simp only[Act.put,List.setIfInBounds_toArray,List.set_cons_zero,List.set_cons_succ];have TG:=hG.old;clear hF hG hall hfull0 eB0 hfull1 eB1;generalize σ 0=tt0;generalize σ 1=tt1;generalize σ 2=tt2;generalize σ 3=tt3;generalize σ 4=tt4;generalize σ 5=tt5;generalize σ 6=tt6;generalize σ 7=tt7;generalize σ 8=tt8;generalize σ 9=tt9;generalize σ 10=tt10;generalize σ 11=tt11;generalize σ 16=tt16;clear σ;obtain ⟨sx,Bx,mx,dx,BX0,HX0⟩:=hZ0;have HX:=Ac HX0
        have HR9:=Ac (HR.out.onTo TG);obtain ⟨rs,A4,c4,s4,B4,m4,d4,xg,lr,hrl,hlin,hrz,zK,oW,kW⟩:=HR9.out;have HXG:=Ac xg;have HL:=Ac lr;have HRL:=Ac hrl;have HLI:=Ac hlin;have HRZ:=Ac hrz;have HZK:=Ac zK;have HOW:=Ac oW;have HKW:=Ac kW;have HWS:=Ac oW.size;have HRW:=Ac (show ∀gs,(Value.slice A4 q c4).ownBlock=some gs->gs<W9.heap.size from fun gs e=>(lr.lt gs e).2);have hlt9:=Nat.lt_of_lt_of_le hlt TG.size;have HC9:=Ac ((TG.cell (p:=⟨bb,o+q,none⟩) hlt).trans HC0.out)
        have SOF:=Ac (show ∀W,Below W9.heap.size W9 W->(W.cell? ⟨W2.heap.size,0,none⟩=some (.slice A4 q c4)/\W.cell? ⟨bb,o+q,none⟩=some (.int .i64 x)/\W.cell? ⟨gB0,0,none⟩=some (.bool sx)/\W.cell? ⟨gB0,1,none⟩=some (.slice Bx mx dx)) from fun W h=>⟨(HXG.out.next h).c0,(h.cell (p:=⟨bb,o+q,none⟩) hlt9).trans HC9.out,(AH.next BX0 h).c0,(AH.next BX0 h).c1⟩);clear xg lr hrl hlin hrz zK oW kW HX0 hZ1 TG HCO HD hB0 hB1 hN01 HR9;go_wp2_with fail
        refine AW (by kernel_rfl) (by kernel_rfl) (by kernel_rfl) (by kernel_rfl) (Tg (Value.slice A4 q c4).ownBlock) (fun j v w=>match j with|0=>v=.pointer (some ⟨W2.heap.size,0,none⟩)|1=>v=.slice A4 q c4|2=>v=.slice (some ⟨bb,o,none⟩) m1 cV|3=>v=.int .i64 (q:Int)|4=>v=.pointer (some ⟨bb,o+q,none⟩)|5=>v=.int .i64 x|6=>v=.agg #[.bool sx,.slice Bx mx dx]|7=>v=.agg #[.int .i64 x,.bool sx,.slice Bx mx dx]|8=>∃gs,v=.slice (some ⟨gs,0,none⟩) 1 1/\W9.heap.size<=gs/\AK 47 w gs #[.int .i64 x,.bool sx,.slice Bx mx dx]|9=>True|10=>v=.pointer (some ⟨W2.heap.size,0,none⟩)|_=>True) (GA 9 W9 (fun v w=>AF 47 3 w W4.heap.size v (rs++[(⟨x,sx,Bx,mx,dx,(AB L x).fdiv (Ak L)⟩:PV)]).length (flat (rs++[(⟨x,sx,Bx,mx,dx,(AB L x).fdiv (Ak L)⟩:PV)]))/\Tg (Value.slice A4 q c4).ownBlock W9 w)) ?_ (fun _=>GA.start _ (Ap W9 1)) ?_ ?_
        · intro j v w w' hT h;match j,h with
          |0,h=>exact h
          |1,h=>exact h
          |2,h=>exact h
          |3,h=>exact h
          |4,h=>exact h
          |5,h=>exact h
          |6,h=>exact h
          |7,h=>exact h
          |8,h=>exact (by obtain ⟨gs,e,h1,h2⟩:=h;exact ⟨gs,e,h1,h2.grown hT.1 (fun e=>by have:=HRW.out gs e.symm;omega)⟩)
          |9,h=>exact trivial
          |10,h=>exact h
          |j+11,h=>trivial
        · refine ⟨?_,?_,?_,?_,?_,?_,?_,?_,?_,?_,?_,trivial⟩
          · intro l9 σ w a hin hout hl hla hs hc hp hG hF;refine Ad.none rfl ?_;have e5:a.tmps.getD 5 undef=.pointer (some ⟨W2.heap.size,0,none⟩):=hout 5 (Ae (by kernel_rfl));refine Does.val (.pointer (some ⟨W2.heap.size,0,none⟩)) (w':=w) ?_ ⟨Tg.refl _ _,rfl,hG.same (by decide)⟩;simp only[Array.getD_eq_getD_getElem?]at e5;go_simp
          · intro l9 σ w a hin hout hl hla hs hc hp hG hF;refine Ad.none rfl ?_;have e43:a.tmps.getD 43 undef=.pointer (some ⟨W2.heap.size,0,none⟩):=Am (hin 0 43) rfl (hp ⟨0,.data⟩ (by simp) rfl) (hF 0);have CC:=SOF.out w (hG.1 (Ai (k:=9) hc hl (by kernel_rfl)));obtain ⟨C0,D0,E0,E1⟩:=CC;refine Does.val (.slice A4 q c4) (w':=w) ?_ ⟨Tg.refl _ _,rfl,hG.same (by decide)⟩;go_simp
          · intro l9 σ w a hin hout hl hla hs hc hp hG hF;refine Ad.none rfl ?_;have e6:a.tmps.getD 6 undef=.slice (some ⟨bb,o,none⟩) m1 cV:=hout 6 (Ae (by kernel_rfl));refine Does.val (.slice (some ⟨bb,o,none⟩) m1 cV) (w':=w) ?_ ⟨Tg.refl _ _,rfl,hG.same (by decide)⟩;simp only[Array.getD_eq_getD_getElem?]at e6;go_simp
          · intro l9 σ w a hin hout hl hla hs hc hp hG hF;refine Ad.none rfl ?_;have e7:a.tmps.getD 7 undef=.int .i64 (q:Int):=hout 7 (Ae (by kernel_rfl));refine Does.val (.int .i64 (q:Int)) (w':=w) ?_ ⟨Tg.refl _ _,rfl,hG.same (by decide)⟩;simp only[Array.getD_eq_getD_getElem?]at e7;go_simp
          · intro l9 σ w a hin hout hl hla hs hc hp hG hF;refine Ad.none rfl ?_;have e45:a.tmps.getD 45 undef=.slice (some ⟨bb,o,none⟩) m1 cV:=Am (hin 2 45) rfl (hp ⟨2,.data⟩ (by simp) rfl) (hF 2);have e46:a.tmps.getD 46 undef=.int .i64 (q:Int):=Am (hin 3 46) rfl (hp ⟨3,.data⟩ (by simp) rfl) (hF 3);refine Does.val (.pointer (some ⟨bb,o+q,none⟩)) (w':=w) ?_ ⟨Tg.refl _ _,rfl,hG.same (by decide)⟩;simp only[Array.getD_eq_getD_getElem?]at e45 e46;go_simp
            (try (intro hh;exfalso;omega))
          · intro l9 σ w a hin hout hl hla hs hc hp hG hF;refine Ad.none rfl ?_;have e47:a.tmps.getD 47 undef=.pointer (some ⟨bb,o+q,none⟩):=Am (hin 4 47) rfl (hp ⟨4,.data⟩ (by simp) rfl) (hF 4);have CC:=SOF.out w (hG.1 (Ai (k:=9) hc (Ai (k:=8) hc (Ai (k:=7) hc hl (by kernel_rfl)) (by kernel_rfl)) (by kernel_rfl)));obtain ⟨C0,D0,E0,E1⟩:=CC;refine Does.val (.int .i64 x) (w':=w) ?_ ⟨Tg.refl _ _,rfl,hG.same (by decide)⟩;go_simp
          · intro l9 σ w a hin hout hl hla hs hc hp hG hF;refine Ad.none rfl ?_;have e8:a.tmps.getD 8 undef=.pointer (some ⟨gB0,0,none⟩):=hout 8 (Ae (by kernel_rfl));have CC:=SOF.out w (hG.1 (Ai (k:=9) hc (Ai (k:=8) hc (Ai (k:=7) hc hl (by kernel_rfl)) (by kernel_rfl)) (by kernel_rfl)));obtain ⟨C0,D0,E0,E1⟩:=CC;refine Does.val (.agg #[.bool sx,.slice Bx mx dx]) (w':=w) ?_ ⟨Tg.refl _ _,rfl,hG.same (by decide)⟩;go_simp
          · intro l9 σ w a hin hout hl hla hs hc hp hG hF;refine Ad.none rfl ?_;have e48:a.tmps.getD 48 undef=.int .i64 x:=Am (hin 5 48) rfl (hp ⟨5,.data⟩ (by simp) rfl) (hF 5);have e49:a.tmps.getD 49 undef=.agg #[.bool sx,.slice Bx mx dx]:=Am (hin 6 49) rfl (hp ⟨6,.data⟩ (by simp) rfl) (hF 6);refine Does.val (.agg #[.int .i64 x,.bool sx,.slice Bx mx dx]) (w':=w) ?_ ⟨Tg.refl _ _,rfl,hG.same (by decide)⟩;simp only[Array.getD_eq_getD_getElem?]at e48 e49;go_simp
          · intro l9 σ w a hin hout hl hla hs hc hp hG hF;refine Ad.none rfl ?_;have e50:a.tmps.getD 50 undef=.agg #[.int .i64 x,.bool sx,.slice Bx mx dx]:=Am (hin 7 50) rfl (hp ⟨7,.data⟩ (by simp) rfl) (hF 7)
            refine Does.val (.slice (some ⟨w.heap.size,0,none⟩) 1 1) (w':=w.alloc (.cells #[.int .i64 x,.bool sx,.slice Bx mx dx] 47)) ?_ ⟨Tg.of_below (Af w _),⟨w.heap.size,rfl,(hG.1 (Ai (k:=9) hc hl (by kernel_rfl))).size,AK.new _ _ _⟩,hG.call (by decide) (Ai (k:=9) hc hl (by kernel_rfl)) (Af w _)⟩;simp only[Array.getD_eq_getD_getElem?]at e50;go_simp
          · intro l9 σ w a hin hout hl hla hs hc hp hG hF;refine Ad.none rfl ?_;have e44:a.tmps.getD 44 undef=.slice A4 q c4:=Am (hin 1 44) rfl (hp ⟨1,.data⟩ (by simp) rfl) (hF 1);have e51:=hin 8 51 rfl (hp ⟨8,.data⟩ (by simp) rfl);obtain ⟨g7,ev8,hg7,x7⟩:=hF 8 (hp ⟨8,.data⟩ (by simp) rfl);rw[ev8]at e51;have hl0:=hl;have hB:=hG.1 hl;have hl:=HL.out.below hB;obtain ⟨i0,hi0,hz0,hz1,hz2⟩:=info_parts CR
            obtain ⟨v',w',hr,h2,h3⟩:=Cg (P:=Tryz.prog) w W4.heap.size 34 34 47 i0 _ 3 40 Tryz.underlying34 hi0 hz0 hz1 hz2 rfl (by decide) BK (.slice A4 q c4) q (flat rs) hl ⟨g7,0,none⟩ 1 1 (flat [(⟨x,sx,Bx,mx,dx,(AB L x).fdiv (Ak L)⟩:PV)]) rfl (fun jj u hu=>by rw[addr_add,Nat.zero_add];exact x7.cell jj u (by simpa[flat,PV.cells] using hu)) (Fc _) (Ew _) (by unfold maxLen;omega) (by omega) (Nat.le_trans HWS.out hB.size);have hk:=hl.kp h3
            refine Does.val v' (w':=w') ?_ ⟨⟨h3,hk⟩,trivial,GA.on_ hl0 (by rw[hs];decide) ⟨?_,⟨World.grownBy.trans2 hB h3,(Kp.of_below hB).trans hk⟩⟩⟩
            · exact Bn rfl e44 e51 hr
            · rw[Do,List.length_append,HRL.out];exact h2
          · intro l9 σ w a hin hout hl hla hs hc hp hG hF;refine Ad.none rfl ?_;have e5:a.tmps.getD 5 undef=.pointer (some ⟨W2.heap.size,0,none⟩):=hout 5 (Ae (by kernel_rfl));refine Does.val (.pointer (some ⟨W2.heap.size,0,none⟩)) (w':=w) ?_ ⟨Tg.refl _ _,rfl,hG.same (by decide)⟩;simp only[Array.getD_eq_getD_getElem?]at e5;go_simp
        · intro o ho;injection ho with ho;subst ho
          intro l9 σ w a hall hin hout hG hF;refine Ad.none rfl ?_;have e53:a.tmps.getD 53 undef=.pointer (some ⟨W2.heap.size,0,none⟩):=(hin 10 53 rfl (by decide)).trans (hF 10 (by decide));have e52:=hin 9 52 rfl (by decide);have z9:=hF 9 (by decide);obtain ⟨l2,tg⟩:=hG.2 (hall 9 (by decide));have hlr:=HL.out;have x9:=HXG.out.grown tg.1 (fun e=>hlr.offTerm HXG.out e.symm);obtain ⟨A2,c2,hv2,-,-,-⟩:=l2.len
          have hlen2:(rs++[(⟨x,sx,Bx,mx,dx,(AB L x).fdiv (Ak L)⟩:PV)]).length=q+1:=(by simp[HRL.out]);rw[hlen2]at hv2;rw[hv2]at e52 l2;have u0:=x9.c0;have u1:=x9.fr 0;refine Does.skip (w':=w.setCell ⟨W2.heap.size,0,none⟩ (.slice A2 (q+1) c2)) (by go_simp) ?_;have HE2:=Ac (BM.step (f:=fun z=>z.fdiv (Ak L)) HXG.out hlr HRL.out HLI.out HRZ.out HZK.out HOW.out HKW.out HLp.out rfl rfl l2 (HX.out.kp tg.2) tg)
          rw[show fin _ σ undef _=(Act.put (Act.put (Act.put (Act.put (Act.put (Act.put (Act.put (Act.put (Act.put (Act.put (Act.put (Act.put _ (some 43) (σ 0)) (some 44) (σ 1)) (some 45) (σ 2)) (some 46) (σ 3)) (some 47) (σ 4)) (some 48) (σ 5)) (some 49) (σ 6)) (some 50) (σ 7)) (some 51) (σ 8)) (some 52) (σ 9)) (some 53) (σ 10)) none undef) from (Bt hall).trans rfl];simp only[Act.put,List.setIfInBounds_toArray,List.set_cons_zero,List.set_cons_succ]
          generalize σ 0=tt09;generalize σ 1=tt19;generalize σ 2=tt29;generalize σ 3=tt39;generalize σ 4=tt49;generalize σ 5=tt59;generalize σ 6=tt69;generalize σ 7=tt79;generalize σ 8=tt89;generalize σ 9=tt99 at *;generalize σ 10=tt109;clear hF hG hall hin hout SOF HRW l2 tg x9 u0 u1 hlen2;generalize w.setCell ⟨W2.heap.size,0,none⟩ (.slice A2 (q+1) c2)=w8 at *;go_wp2_with fail;go_roundw
          case rel=>exact ⟨q+1,by omega,by go_num,HE2⟩
          case measure=>simp[intOf]<;>omega
    obtain rfl:q=m1:=(by omega);clear xg0 lr0 zK0 kW0;obtain ⟨rs,A4,c4,s4,B4,m4,d4,xg,lr,hrl,hlin,hrz,zK,oW,kW⟩:=HR.out;have hL2:=Ac (show Cl rs=Ce (Ak L) (norm L) by rw[hlin,List.take_of_length_le (by rw[<-HM1.out];unfold vars;rw[List.length_map];exact Nat.le_refl _)];rfl)
    obtain ⟨A',c',hv',hc1',hc2',-⟩:=lr.len;injection hv' with e1' e2' e3'
    subst e1' e3';have HP:=Ac (show CY wr A4 q (Ce (Ak L) (norm L)) (k+L.length) from by rw[<-hL2.out];exact ⟨rs,lr.parts hrl (fun p hp=>(hrz p hp).in_),rfl,hrz⟩);have XG:=Ac xg;have F1:=Ac (Q1.out.other oW (by omega));have F2:=Ac (show AH wr (w0.heap.size+1+1) #[.bool false,.slice none 0 0] from AK.other Q2.out oW (by omega));have ZT:=Ac zt;have ZI:=Ac zi;have hKK:BO wr (.agg #[.bool s,.slice B m d]) K k:=by
      obtain ⟨A',n',c',s',B',m',d',e,h1,h2,h3,h4⟩:=HV0.out.below HTT.out;injection e with e
      simp only[Array.mk.injEq,List.cons.injEq,Value.slice.injEq,Value.bool.injEq,and_true]at e;obtain ⟨-,rfl,rfl,rfl,rfl⟩:=e;exact h4
    have hdv:=Ij (.agg #[.bool s,.slice B m d]) (.agg #[.bool s1,.slice A1 n1 c1]) K (Ak L) k (k+L.length) wr hKK HZW.out.in_ H0.out (by omega) (by omega);have a1:=zt.c1;have a2:=zt.c2;have i0:=AH.c0 zi;have i1:=AH.c1 zi;clear xg lr hrl hlin hrz zK oW kW oW0 zt zi hKK hIV hT;go_wp2_with fail;refine hdv.mono ?_;rintro e w5 ⟨u5,v5,rfl,r5,r6,b5⟩;obtain ⟨s5,A5,n5,c5,rfl⟩:=r5.form;obtain ⟨s6,A6,n6,c6,rfl⟩:=r6.form
    obtain ⟨g5,g6,t6,-⟩:=Bi 38 38 w5 #[.bool s5,.slice A5 n5 c5] #[.bool s6,.slice A6 n6 c6];have XG:=Ac ((XG.out.next b5).next t6);have F1:=Ac ((F1.out.next b5).next t6);have F2:=Ac ((AH.next F2.out b5).next t6);have ZI:=Ac ((AH.next ZI.out b5).next t6);have HP:=Ac ((HP.out.below b5).below t6);have HZW:=Ac ((HZW.out.below b5).below t6);have HTT:=Ac ((HTT.out.next b5).next t6);have HR5:=Ac (r5.below t6);have hb0:=AH.c0 g5;have hb1:=AH.c1 g5
    clear a1 a2 i0 i1 hdv r5 r6 b5 t6 g5 g6;have v0:=XG.out.c0;have v1:=XG.out.c1;have v2:=XG.out.c2;have v3:=XG.out.fr 1;have v4:=XG.out.fr 2;go_wp2_with fail;generalize hW5:(w5.alloc (.cells #[.bool s5,.slice A5 n5 c5] 38)).alloc (.cells #[.bool s6,.slice A6 n6 c6] 38)=W5 at *;clear hW5;have of:=O0 W5 W2.heap.size (.bool s5) (.slice A5 n5 c5);have hkf:=XG.out.kp (Te _ _ _ _ _ _ _) of;have FF:=XG.out.set_12 (.bool s5) (.slice A5 n5 c5);have f1:=F1.out.other of (by omega)
    have f2:AH _ (w0.heap.size+1+1) #[.bool false,.slice none 0 0]:=AK.other F2.out of (by omega);have f4:AH _ w1.heap.size #[.bool s1,.slice A1 n1 c1]:=AK.other ZI.out of (by omega);have TKF:=KT.term (q:=w0.heap.size+1+1) XG.out of;have HZ3:=Ac (show Aw _ (.agg #[.slice A4 q c4,.bool s5,.slice A5 n5 c5]) (Ce (Ak L) (norm L)) (CZ L K) (k+L.length) from by obtain ⟨ps,p1,p2,p3⟩:=HP.out;rw[HK.out];exact ⟨A4,q,c4,s5,A5,n5,c5,rfl,⟨ps,TKF.parts _ _ _ _ p1,p2,fun p hp=>(p3 p hp).kp hkf⟩,hc1',hc2',(HR5.out.kp hkf).mono (by omega)⟩)
    have HZ:=Ac (HZW.out.kp hkf);have HTF:=Ac (HTT.out.trans (of.below HTT.out.size (by omega)));generalize (W5.setCell ⟨W2.heap.size,1,none⟩ (.bool s5)).setCell ⟨W2.heap.size,2,none⟩ (.slice A5 n5 c5)=Wf at *;clear v0 v1 v2 v3 v4 hb0 hb1 of hkf TKF
    have SOF:=Ac (show ∀W,KT (w0.heap.size+1) (w0.heap.size+1+1) Wf W->(W.cell? ⟨W2.heap.size,0,none⟩=some (.slice A4 q c4)/\W.cell? ⟨W2.heap.size,1,none⟩=some (.bool s5)/\W.cell? ⟨W2.heap.size,2,none⟩=some (.slice A5 n5 c5)/\W.cell? ⟨w1.heap.size,0,none⟩=some (.bool s1)/\W.cell? ⟨w1.heap.size,1,none⟩=some (.slice A1 n1 c1)) from fun W h=>by
      have h1:=h.box FF (by omega) (by omega);have h2:AH W w1.heap.size #[.bool s1,.slice A1 n1 c1]:=h.box f4 (by omega) (by omega);exact ⟨h1.c0,h1.c1,h1.c2,AH.c0 h2,AH.c1 h2⟩)
    have HW2:=Ac HTF.out.size;have HM1:=Ac (show ∀v w w',KT (w0.heap.size+1) (w0.heap.size+1+1) w w'->(fun v w=>Aw w v (Ce (Ak L) (norm L)) (CZ L K) (k+L.length)) v w->(fun v w=>Aw w v (Ce (Ak L) (norm L)) (CZ L K) (k+L.length)) v w' from fun v w w' t h=>Aw.kt h t);have HM2:=Ac (show ∀v w w',KT (w0.heap.size+1) (w0.heap.size+1+1) w w'->(fun v w=>Au w v (Ak L) (k+L.length)) v w->(fun v w=>Au w v (Ak L) (k+L.length)) v w' from fun v w w' t h=>Au.kp h t.kp)
    refine AO (by kernel_rfl) (by kernel_rfl) (by kernel_rfl) (KT (w0.heap.size+1) (w0.heap.size+1+1)) (fun j v w=>match j with|0=>v=.agg #[.slice A4 q c4,.bool s5,.slice A5 n5 c5]|1=>v=.agg #[.bool s1,.slice A1 n1 c1]|2=>True|3=>True|_=>True) (G2 Wf (w0.heap.size+1) 2 (fun v w=>Aw w v (Ce (Ak L) (norm L)) (CZ L K) (k+L.length)) (w0.heap.size+1+1) 3 (fun v w=>Au w v (Ak L) (k+L.length))) ?_ (fun _=>G2.start ((f1).drew) ((f2).drew) (Ap Wf 1)) ?_ ?_
    · intro j v w w' hT h;match j,h with
      |0,h=>exact h
      |1,h=>exact h
      |2,h=>trivial
      |3,h=>trivial
      |j+4,h=>trivial
    · refine ⟨?_,?_,?_,?_,trivial⟩
      · intro l9 σ w a hin hout hl hc hp hG hF;refine Ad.none rfl ?_;have e5:a.tmps.getD 5 undef=.pointer (some ⟨W2.heap.size,0,none⟩):=hout 5 (Ae (by kernel_rfl));have CC:=SOF.out w hG.1;obtain ⟨C0,C1,C2,D0,D1⟩:=CC;refine Does.val (.agg #[.slice A4 q c4,.bool s5,.slice A5 n5 c5]) (w':=w) ?_ ⟨KT.refl _ _ _,rfl,G2.next hG (Below.refl _ _) (by decide) (by decide) HM1.out HM2.out⟩;go_simp
      · intro l9 σ w a hin hout hl hc hp hG hF;refine Ad.none rfl ?_;have e4:a.tmps.getD 4 undef=.pointer (some ⟨w1.heap.size,0,none⟩):=hout 4 (Ae (by kernel_rfl));have CC:=SOF.out w hG.1;obtain ⟨C0,C1,C2,D0,D1⟩:=CC;refine Does.val (.agg #[.bool s1,.slice A1 n1 c1]) (w':=w) ?_ ⟨KT.refl _ _ _,rfl,G2.next hG (Below.refl _ _) (by decide) (by decide) HM1.out HM2.out⟩;go_simp
      · intro l9 σ w a hin hout hl hc hp hG hF;refine Ad.none rfl ?_;have e2:a.tmps.getD 2 undef=.pointer (some ⟨w0.heap.size+1,0,none⟩):=hout 2 (Ae (by kernel_rfl));have e64:=hin 0 64 rfl (hp ⟨0,.data⟩ (by simp) rfl);have z0:=hF 0 (hp ⟨0,.data⟩ (by simp) rfl);rw[z0]at e64;have hf:=HZ3.out.kt hG.1;obtain ⟨h0,⟨Ax,nx,cx,sx,Bx,mx,dx,xb,-⟩,-⟩:=id hG
        refine Does.store_box (T:=40) (cells:=#[.slice A4 q c4,.bool s5,.slice A5 n5 c5]) rfl e2 e64 xb (by kernel_rfl) rfl (by simp[Value.oneCell']) (fun w2 x9 o9=>?_);have q9:=G2.st1 (τ:=upd σ 2 undef) hG (by omega) (by decide) x9 o9 hf HM1.out HM2.out;exact ⟨q9.1,trivial,q9.2⟩
      · intro l9 σ w a hin hout hl hc hp hG hF;refine Ad.none rfl ?_;have e3:a.tmps.getD 3 undef=.pointer (some ⟨w0.heap.size+1+1,0,none⟩):=hout 3 (Ae (by kernel_rfl));have e65:=hin 1 65 rfl (hp ⟨1,.data⟩ (by simp) rfl);have z1:=hF 1 (hp ⟨1,.data⟩ (by simp) rfl);rw[z1]at e65;have hf:=HZ.out.kp hG.1.kp;obtain ⟨h0,-,⟨sx,Bx,mx,dx,xb,-⟩⟩:=id hG
        refine Does.store_box (T:=38) (cells:=#[.bool s1,.slice A1 n1 c1]) rfl e3 e65 (AH.box xb) (by kernel_rfl) rfl (by simp[Value.oneCell']) (fun w2 x9 o9=>?_);have q9:=G2.st2 (τ:=upd σ 3 undef) hG (by omega) (by decide) x9 o9 hf HM1.out HM2.out;exact ⟨q9.1,trivial,q9.2⟩
    · intro l9 σ W9 hall hG hF;rw[show mid _ σ l9 _=(Act.put (Act.put (Act.put (Act.put _ (some 64) (σ 0)) (some 65) (σ 1)) none (σ 2)) none (σ 3)) from (AU hall).trans rfl];generalize σ 0=tt0;generalize σ 1=tt1;simp only[Act.put,List.setIfInBounds_toArray,List.set_cons_zero,List.set_cons_succ];obtain ⟨TK,⟨A9,n9,c9,s9,B9,m9,d9,X9,Z9⟩,⟨t9,C9,p9,q9,Y9,V9⟩⟩:=hG;have Z9:=Z9 (hall 2 (by decide));have V9:=V9 (hall 3 (by decide));clear hF hall;clear σ
      have TB:=Ac (HTF.out.trans (KT.below TK HW2.out (by omega) (by omega)));clear SOF TK;go_wp2_with fail;exact EF rfl rfl rfl X9 Y9 rfl ⟨_,_,rfl,Z9,V9,TB.out⟩
end
section
open Go.RowKit
theorem Gm (v:Value) (Z:Int) (k:Nat) (w:World) (hv:BO w v Z k) (hk:k<=1099511627776):Calls Tryz.prog 32 #[v] w (BG [] Z k w):=by
 have hv0:=hv;obtain ⟨s,A,n,c,xs,rfl,-⟩:=hv;obtain ⟨z0,z1,z2,-⟩:=Bi 38 40 w #[.bool s,.slice A n c] #[.slice none 0 0,.bool false,.slice none 0 0];have hf:=LS _ Z k _ (hv0.below z2) hk;have c0:=AH.c0 z0;have c1:=AH.c1 z0;go_enter Tryz.func32,Tryz.ntmps32;go_wp2_with fail;refine hf.mono ?_;rintro e w1 ⟨v1,rfl,r1,b1⟩;obtain ⟨s1,A1,n1,c1,rfl⟩:=r1.form;have k1:=z1.next b1
 go_wp2_with (with_reducible refine Be rfl _ _ rfl (w.heap.size+1) _ _ _ _ _ _ _ rfl rfl _ _ _ k1 ?_;intro w3 k3 ho3);refine BJ rfl rfl k3 rfl ?_;exact ⟨_,rfl,(Aw.number r1 (w':=w) (v:=undef)).only k1 ho3,AE (z2.next b1) (by omega) ho3⟩
end
end Go.Proofs.YtmedjkhmadfjlaaGreat
