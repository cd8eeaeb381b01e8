/- Texts of one seat, put together: RSp SortK Bits64. -/
import Derived.Test.YtmedjkhmadfjlaaGreatR21
import Derived.Test.YtmedjkhmadfjlaaGreatR29
import Derived.Test.YtmedjkhmadfjlaaGreatR32
import Derived.Test.YtmedjkhmadfjlaaGreatR35
import Derived.Shelf.SlSortCmp.NoneTotal
import Derived.Test.YtmedjkhmadfjlaaGreatR33
import Derived.Test.YtmedjkhmadfjlaaGreatR31
import Derived.Test.YtmedjkhmadfjlaaGreatR07
set_option linter.unusedVariables false
set_option linter.unusedSimpArgs false
set_option maxRecDepth 100000
set_option maxHeartbeats 16000000
namespace Go.Proofs.YtmedjkhmadfjlaaGreat
section
open Go.RowKit
open Tm
theorem Ca (A:Option Addr) (n c:Nat) (s:Bool) (B:Option Addr) (m d:Nat) (w:World):Calls Tryz.prog 30 #[.agg #[.slice A n c,.bool s,.slice B m d]] w (fun e w'=>e=.returned (.agg #[.slice A n c,.bool false,.slice none 0 0])/\Below w.heap.size w w'):=by obtain ⟨z0,z1,z2,-⟩:=Bi 40 40 w #[.slice A n c,.bool s,.slice B m d] #[.slice none 0 0,.bool false,.slice none 0 0];have c0:=z0.c0;have c1:=z0.c1;have c2:=z0.c2;go_enter Tryz.func30,Tryz.ntmps30;go_wp2_with (with_reducible refine Be rfl _ _ rfl (w.heap.size+1) _ _ _ _ _ _ _ rfl rfl _ _ _ z1 ?_;intro w3 k3 ho3);refine BJ rfl rfl k3 rfl ?_;exact ⟨rfl,AE z2 (by omega) ho3⟩
theorem Aw.parts {w:World} {A:Option Addr} {n c:Nat} {s:Bool} {B:Option Addr} {m d:Nat} {L:List (Int×Int)} {K:Int} {k:Nat} (h:Aw w (.agg #[.slice A n c,.bool s,.slice B m d]) L K k):Aw w (.agg #[.slice A n c,.bool false,.slice none 0 0]) L 0 k:=by
 obtain ⟨A',n',c',s',B',m',d',e,h1,h2,h3,h4⟩:=h;injection e with e
 injection e with e
 simp only[List.cons.injEq,Value.slice.injEq,and_true]at e;obtain ⟨⟨rfl,rfl,rfl⟩,-⟩:=e;exact ⟨A,n,c,false,none,0,0,rfl,h1,h2,h3,Au.zero _ _⟩
def SL (i:Int) (w:World) (e:Ending) (w':World):Prop:=e=.returned (.int .i64 i)/\Below w.heap.size w w'
theorem Vn (v u:Value) (L M:List (Int×Int)) (K KM:Int) (k ku:Nat) (w0:World) (hv:Aw w0 v L K k) (hu:Aw w0 u M KM ku) (hl:L.length<=100000) (hl2:M.length<=100000) (hnM:norm M=M) (hk:ku<=100000):Calls Tryz.prog 26 #[v,u] w0 (SL (E6 L M) w0):=by
 have hv0:=hv;have hu0:=hu;obtain ⟨A,n,c,s,B,m,d,rfl,-⟩:=hv;obtain ⟨A2,n2,c2,s2,B2,m2,d2,rfl,-⟩:=hu;obtain ⟨z0,z1,z2,z3⟩:=Bi 40 40 w0 #[.slice A n c,.bool s,.slice B m d] #[.slice A2 n2 c2,.bool s2,.slice B2 m2 d2];have HP1:=Ac (hv0.parts.below z2);have HP2:=Ac (hu0.parts.below z2);have HNL:=Ac (show (AZ M).length=M.length from by rw[Cd hnM,List.length_map]);have X:=Ac z0;have Y:=Ac z1;have T:=Ac z2;clear hv0 hu0 z0 z1 z2 z3;go_enter Tryz.func26,Tryz.ntmps26
 go_upto_region 1 with fail;generalize hW:((w0.alloc (.cells #[.slice A n c,.bool s,.slice B m d] 40)).alloc (.cells #[.slice A2 n2 c2,.bool s2,.slice B2 m2 d2] 40))=W0 at *;clear hW;rcases Gt L M with ⟨h0,h⟩|⟨h0,h1,h⟩|⟨h0,h1,h⟩
 · subst h;have HS:=Ac (fun W (h:Below W0.heap.size W0 W)=>GO (.agg #[.slice A n c,.bool false,.slice none 0 0]) (.agg #[.slice A2 n2 c2,.bool false,.slice none 0 0]) L 0 k ku W (HP1.out.below h) (HP2.out.below h) (by omega));unfold Ek at HS;have HS0:=Ac h0;clear h0
   have SOF:=Ac (show ∀W,Below W0.heap.size W0 W->(W.cell? ⟨w0.heap.size,0,none⟩=some (.slice A n c)/\W.cell? ⟨w0.heap.size,1,none⟩=some (.bool s)/\W.cell? ⟨w0.heap.size,2,none⟩=some (.slice B m d)/\W.cell? ⟨w0.heap.size+1,0,none⟩=some (.slice A2 n2 c2)/\W.cell? ⟨w0.heap.size+1,1,none⟩=some (.bool s2)/\W.cell? ⟨w0.heap.size+1,2,none⟩=some (.slice B2 m2 d2)) from fun W h=>⟨(X.out.next h).c0,(X.out.next h).c1,(X.out.next h).c2,(Y.out.next h).c0,(Y.out.next h).c1,(Y.out.next h).c2⟩)
   refine AO (by kernel_rfl) (by kernel_rfl) (by kernel_rfl) (fun w w'=>Below w.heap.size w w') (fun j v w=>match j with|0=>v=.agg #[.slice A n c,.bool s,.slice B m d]|1=>v=.agg #[.slice A n c,.bool false,.slice none 0 0]|2=>v=.agg #[.slice A2 n2 c2,.bool s2,.slice B2 m2 d2]|3=>v=.agg #[.slice A2 n2 c2,.bool false,.slice none 0 0]|4=>v=.bool true|_=>True) (fun _ _ w=>Below W0.heap.size W0 w) ?_ (fun _=>Ap W0 1) ?_ ?_
   · intro j v w w' hT h;match j,h with
     |0,h=>exact h
     |1,h=>exact h
     |2,h=>exact h
     |3,h=>exact h
     |4,h=>exact h
     |j+5,h=>trivial
   · refine ⟨?_,?_,?_,?_,?_,trivial⟩
     · intro l9 σ w a hin hout hl hc hp hG hF;refine Ad.none rfl ?_;have e2:a.tmps.getD 2 undef=.pointer (some ⟨w0.heap.size,0,none⟩):=hout 2 (Ae (by kernel_rfl));have CC:=SOF.out w hG;obtain ⟨C0,C1,C2,D0,D1,D2⟩:=CC;refine Does.val (.agg #[.slice A n c,.bool s,.slice B m d]) (w':=w) ?_ ⟨Below.refl _ _,rfl,hG⟩;go_simp
     · intro l9 σ w a hin hout hl hc hp hG hF;refine Ad.none rfl ?_;have e5:a.tmps.getD 5 undef=.agg #[.slice A n c,.bool s,.slice B m d]:=Am (hin 0 5) rfl (hp ⟨0,.data⟩ (by simp) rfl) (hF 0);refine Does.call ?_ (Ca A n c s B m d w) ?_
       · go_simp
       · rintro e w' ⟨rfl,hb⟩;exact ⟨_,rfl,hb,rfl,hG.next hb⟩
     · intro l9 σ w a hin hout hl hc hp hG hF;refine Ad.none rfl ?_;have e3:a.tmps.getD 3 undef=.pointer (some ⟨w0.heap.size+1,0,none⟩):=hout 3 (Ae (by kernel_rfl));have CC:=SOF.out w hG;obtain ⟨C0,C1,C2,D0,D1,D2⟩:=CC;refine Does.val (.agg #[.slice A2 n2 c2,.bool s2,.slice B2 m2 d2]) (w':=w) ?_ ⟨Below.refl _ _,rfl,hG⟩;go_simp
     · intro l9 σ w a hin hout hl hc hp hG hF;refine Ad.none rfl ?_;have e7:a.tmps.getD 7 undef=.agg #[.slice A2 n2 c2,.bool s2,.slice B2 m2 d2]:=Am (hin 2 7) rfl (hp ⟨2,.data⟩ (by simp) rfl) (hF 2);refine Does.call ?_ (Ca A2 n2 c2 s2 B2 m2 d2 w) ?_
       · go_simp
       · rintro e w' ⟨rfl,hb⟩;exact ⟨_,rfl,hb,rfl,hG.next hb⟩
     · intro l9 σ w a hin hout hl hc hp hG hF;refine Ad.none rfl ?_;have e6:a.tmps.getD 6 undef=.agg #[.slice A n c,.bool false,.slice none 0 0]:=Am (hin 1 6) rfl (hp ⟨1,.data⟩ (by simp) rfl) (hF 1);have e8:a.tmps.getD 8 undef=.agg #[.slice A2 n2 c2,.bool false,.slice none 0 0]:=Am (hin 3 8) rfl (hp ⟨3,.data⟩ (by simp) rfl) (hF 3);refine Does.call ?_ (HS.out w hG) ?_
       · go_simp
       · rintro e w' ⟨rfl,hb⟩;exact ⟨_,rfl,hb,rfl,hG.next hb⟩
   · intro l9 σ W9 hall hG hF;rw[show mid _ σ l9 _=(Act.put (Act.put (Act.put (Act.put (Act.put _ (some 5) (σ 0)) (some 6) (σ 1)) (some 7) (σ 2)) (some 8) (σ 3)) (some 9) (σ 4)) from (AU hall).trans rfl];generalize σ 0=tt0;generalize σ 1=tt1;generalize σ 2=tt2;generalize σ 3=tt3;rw[show σ 4=.bool true from hF 4 (by decide)];simp only[Act.put,List.setIfInBounds_toArray,List.set_cons_zero,List.set_cons_succ];have TG:=hG;clear hF hG hall;clear σ;have HE:=Ac (T.out.next TG)
     clear TG SOF HS;go_wp2_with fail;go_ret
     exact ⟨by rw[HS0.out];first|done|rfl,HE.out⟩
 · have HLM:=Ac h;have HS:=Ac (fun W (h:Below W0.heap.size W0 W)=>Ii (.agg #[.slice A n c,.bool false,.slice none 0 0]) (.agg #[.slice A2 n2 c2,.bool false,.slice none 0 0]) L M 0 k ku W (HP1.out.below h) (HP2.out.below h) (by omega) (by omega) h1);unfold Hp at HS;have HS0:=Ac h0;clear h0 h
   have SOF:=Ac (show ∀W,Below W0.heap.size W0 W->(W.cell? ⟨w0.heap.size,0,none⟩=some (.slice A n c)/\W.cell? ⟨w0.heap.size,1,none⟩=some (.bool s)/\W.cell? ⟨w0.heap.size,2,none⟩=some (.slice B m d)/\W.cell? ⟨w0.heap.size+1,0,none⟩=some (.slice A2 n2 c2)/\W.cell? ⟨w0.heap.size+1,1,none⟩=some (.bool s2)/\W.cell? ⟨w0.heap.size+1,2,none⟩=some (.slice B2 m2 d2)) from fun W h=>⟨(X.out.next h).c0,(X.out.next h).c1,(X.out.next h).c2,(Y.out.next h).c0,(Y.out.next h).c1,(Y.out.next h).c2⟩)
   refine AO (by kernel_rfl) (by kernel_rfl) (by kernel_rfl) (fun w w'=>Below w.heap.size w w') (fun j v w=>match j with|0=>v=.agg #[.slice A n c,.bool s,.slice B m d]|1=>v=.agg #[.slice A n c,.bool false,.slice none 0 0]|2=>v=.agg #[.slice A2 n2 c2,.bool s2,.slice B2 m2 d2]|3=>v=.agg #[.slice A2 n2 c2,.bool false,.slice none 0 0]|4=>v=.bool false|_=>True) (fun _ _ w=>Below W0.heap.size W0 w) ?_ (fun _=>Ap W0 1) ?_ ?_
   · intro j v w w' hT h;match j,h with
     |0,h=>exact h
     |1,h=>exact h
     |2,h=>exact h
     |3,h=>exact h
     |4,h=>exact h
     |j+5,h=>trivial
   · refine ⟨?_,?_,?_,?_,?_,trivial⟩
     · intro l9 σ w a hin hout hl hc hp hG hF;refine Ad.none rfl ?_;have e2:a.tmps.getD 2 undef=.pointer (some ⟨w0.heap.size,0,none⟩):=hout 2 (Ae (by kernel_rfl));have CC:=SOF.out w hG;obtain ⟨C0,C1,C2,D0,D1,D2⟩:=CC;refine Does.val (.agg #[.slice A n c,.bool s,.slice B m d]) (w':=w) ?_ ⟨Below.refl _ _,rfl,hG⟩;go_simp
     · intro l9 σ w a hin hout hl hc hp hG hF;refine Ad.none rfl ?_;have e5:a.tmps.getD 5 undef=.agg #[.slice A n c,.bool s,.slice B m d]:=Am (hin 0 5) rfl (hp ⟨0,.data⟩ (by simp) rfl) (hF 0);refine Does.call ?_ (Ca A n c s B m d w) ?_
       · go_simp
       · rintro e w' ⟨rfl,hb⟩;exact ⟨_,rfl,hb,rfl,hG.next hb⟩
     · intro l9 σ w a hin hout hl hc hp hG hF;refine Ad.none rfl ?_;have e3:a.tmps.getD 3 undef=.pointer (some ⟨w0.heap.size+1,0,none⟩):=hout 3 (Ae (by kernel_rfl));have CC:=SOF.out w hG;obtain ⟨C0,C1,C2,D0,D1,D2⟩:=CC;refine Does.val (.agg #[.slice A2 n2 c2,.bool s2,.slice B2 m2 d2]) (w':=w) ?_ ⟨Below.refl _ _,rfl,hG⟩;go_simp
     · intro l9 σ w a hin hout hl hc hp hG hF;refine Ad.none rfl ?_;have e7:a.tmps.getD 7 undef=.agg #[.slice A2 n2 c2,.bool s2,.slice B2 m2 d2]:=Am (hin 2 7) rfl (hp ⟨2,.data⟩ (by simp) rfl) (hF 2);refine Does.call ?_ (Ca A2 n2 c2 s2 B2 m2 d2 w) ?_
       · go_simp
       · rintro e w' ⟨rfl,hb⟩;exact ⟨_,rfl,hb,rfl,hG.next hb⟩
     · intro l9 σ w a hin hout hl hc hp hG hF;refine Ad.none rfl ?_;have e6:a.tmps.getD 6 undef=.agg #[.slice A n c,.bool false,.slice none 0 0]:=Am (hin 1 6) rfl (hp ⟨1,.data⟩ (by simp) rfl) (hF 1);have e8:a.tmps.getD 8 undef=.agg #[.slice A2 n2 c2,.bool false,.slice none 0 0]:=Am (hin 3 8) rfl (hp ⟨3,.data⟩ (by simp) rfl) (hF 3);refine Does.call ?_ (HS.out w hG) ?_
       · go_simp
       · rintro e w' ⟨rfl,hb⟩;exact ⟨_,rfl,hb,rfl,hG.next hb⟩
   · intro l9 σ W9 hall hG hF;rw[show mid _ σ l9 _=(Act.put (Act.put (Act.put (Act.put (Act.put _ (some 5) (σ 0)) (some 6) (σ 1)) (some 7) (σ 2)) (some 8) (σ 3)) (some 9) (σ 4)) from (AU hall).trans rfl];generalize σ 0=tt0;generalize σ 1=tt1;generalize σ 2=tt2;generalize σ 3=tt3;rw[show σ 4=.bool false from hF 4 (by decide)];simp only[Act.put,List.setIfInBounds_toArray,List.set_cons_zero,List.set_cons_succ];have TG:=hG;clear hF hG hall;clear σ;have HG1:=Ac TG
     clear TG SOF HS;go_upto_region 3 with fail;generalize W9=W1 at *;have HP1:=Ac (HP1.out.below HG1.out);have HP2:=Ac (HP2.out.below HG1.out);have X:=Ac (X.out.next HG1.out);have Y:=Ac (Y.out.next HG1.out);have T:=Ac (T.out.next HG1.out);clear HG1
     have SOF:=Ac (show ∀W,Below W1.heap.size W1 W->(W.cell? ⟨w0.heap.size,0,none⟩=some (.slice A n c)/\W.cell? ⟨w0.heap.size,1,none⟩=some (.bool s)/\W.cell? ⟨w0.heap.size,2,none⟩=some (.slice B m d)/\W.cell? ⟨w0.heap.size+1,0,none⟩=some (.slice A2 n2 c2)/\W.cell? ⟨w0.heap.size+1,1,none⟩=some (.bool s2)/\W.cell? ⟨w0.heap.size+1,2,none⟩=some (.slice B2 m2 d2)) from fun W h=>⟨(X.out.next h).c0,(X.out.next h).c1,(X.out.next h).c2,(Y.out.next h).c0,(Y.out.next h).c1,(Y.out.next h).c2⟩)
     refine AO (by kernel_rfl) (by kernel_rfl) (by kernel_rfl) (fun w w'=>Below w.heap.size w w') (fun j v w=>match j with|0=>v=.agg #[.slice A n c,.bool s,.slice B m d]|1=>v=.agg #[.slice A n c,.bool false,.slice none 0 0]|2=>v=.agg #[.slice A2 n2 c2,.bool s2,.slice B2 m2 d2]|3=>v=.agg #[.slice A2 n2 c2,.bool false,.slice none 0 0]|4=>Au w v (-1) 2|5=>Aw w v (AZ M) 0 (ku+2+M.length)|6=>v=.bool true|_=>True) (fun _ _ w=>Below W1.heap.size W1 w) ?_ (fun _=>Ap W1 1) ?_ ?_
     · intro j v w w' hT h;match j,h with
       |0,h=>exact h
       |1,h=>exact h
       |2,h=>exact h
       |3,h=>exact h
       |4,h=>exact h.below hT
       |5,h=>exact h.below hT
       |6,h=>exact h
       |j+7,h=>trivial
     · refine ⟨?_,?_,?_,?_,?_,?_,?_,trivial⟩
       · intro l9 σ w a hin hout hl hc hp hG hF;refine Ad.none rfl ?_;have e2:a.tmps.getD 2 undef=.pointer (some ⟨w0.heap.size,0,none⟩):=hout 2 (Ae (by kernel_rfl));have CC:=SOF.out w hG;obtain ⟨C0,C1,C2,D0,D1,D2⟩:=CC;refine Does.val (.agg #[.slice A n c,.bool s,.slice B m d]) (w':=w) ?_ ⟨Below.refl _ _,rfl,hG⟩;go_simp
       · intro l9 σ w a hin hout hl hc hp hG hF;refine Ad.none rfl ?_;have e10:a.tmps.getD 10 undef=.agg #[.slice A n c,.bool s,.slice B m d]:=Am (hin 0 10) rfl (hp ⟨0,.data⟩ (by simp) rfl) (hF 0);refine Does.call ?_ (Ca A n c s B m d w) ?_
         · go_simp
         · rintro e w' ⟨rfl,hb⟩;exact ⟨_,rfl,hb,rfl,hG.next hb⟩
       · intro l9 σ w a hin hout hl hc hp hG hF;refine Ad.none rfl ?_;have e3:a.tmps.getD 3 undef=.pointer (some ⟨w0.heap.size+1,0,none⟩):=hout 3 (Ae (by kernel_rfl));have CC:=SOF.out w hG;obtain ⟨C0,C1,C2,D0,D1,D2⟩:=CC;refine Does.val (.agg #[.slice A2 n2 c2,.bool s2,.slice B2 m2 d2]) (w':=w) ?_ ⟨Below.refl _ _,rfl,hG⟩;go_simp
       · intro l9 σ w a hin hout hl hc hp hG hF;refine Ad.none rfl ?_;have e12:a.tmps.getD 12 undef=.agg #[.slice A2 n2 c2,.bool s2,.slice B2 m2 d2]:=Am (hin 2 12) rfl (hp ⟨2,.data⟩ (by simp) rfl) (hF 2);refine Does.call ?_ (Ca A2 n2 c2 s2 B2 m2 d2 w) ?_
         · go_simp
         · rintro e w' ⟨rfl,hb⟩;exact ⟨_,rfl,hb,rfl,hG.next hb⟩
       · intro l9 σ w a hin hout hl hc hp hG hF;refine Ad.none rfl ?_;refine Does.call ?_ (JK (-1) w (by decide) (by decide)) ?_
         · go_simp
         · rintro e w' ⟨v,rfl,z,hb⟩;exact ⟨_,rfl,hb,z,hG.next hb⟩
       · intro l9 σ w a hin hout hl hc hp hG hF;refine Ad.none rfl ?_;have e13:a.tmps.getD 13 undef=.agg #[.slice A2 n2 c2,.bool false,.slice none 0 0]:=Am (hin 3 13) rfl (hp ⟨3,.data⟩ (by simp) rfl) (hF 3);have e14:=hin 4 14 rfl (hp ⟨4,.data⟩ (by simp) rfl);have z4:=hF 4 (hp ⟨4,.data⟩ (by simp) rfl);refine Does.call ?_ (EI _ _ M 0 (-1) ku 2 w (HP2.out.below hG).in_ z4.in_ (by omega) (by omega) (by omega)) ?_
         · go_simp
         · rintro e w' ⟨v,rfl,z,hb⟩;exact ⟨_,rfl,hb,z.ofEq2 (Ik M) (by omega),hG.next hb⟩
       · intro l9 σ w a hin hout hl hc hp hG hF;refine Ad.none rfl ?_;have e11:a.tmps.getD 11 undef=.agg #[.slice A n c,.bool false,.slice none 0 0]:=Am (hin 1 11) rfl (hp ⟨1,.data⟩ (by simp) rfl) (hF 1);have e15:=hin 5 15 rfl (hp ⟨5,.data⟩ (by simp) rfl);have z5:=hF 5 (hp ⟨5,.data⟩ (by simp) rfl);refine Does.call ?_ (GO _ _ L 0 k (ku+2+M.length) w (HP1.out.below hG) (by rw[HLM.out];exact z5) (by omega)) ?_
         · go_simp
         · rintro e w' ⟨rfl,hb⟩;exact ⟨_,rfl,hb,rfl,hG.next hb⟩
     · intro l9 σ W9 hall hG hF;rw[show mid _ σ l9 _=(Act.put (Act.put (Act.put (Act.put (Act.put (Act.put (Act.put _ (some 10) (σ 0)) (some 11) (σ 1)) (some 12) (σ 2)) (some 13) (σ 3)) (some 14) (σ 4)) (some 15) (σ 5)) (some 16) (σ 6)) from (AU hall).trans rfl];generalize σ 0=tt0;generalize σ 1=tt1;generalize σ 2=tt2;generalize σ 3=tt3;generalize σ 4=tt4;generalize σ 5=tt5;rw[show σ 6=.bool true from hF 6 (by decide)]
       simp only[Act.put,List.setIfInBounds_toArray,List.set_cons_zero,List.set_cons_succ];have TG:=hG;clear hF hG hall;clear σ;have HE:=Ac (T.out.next TG);clear TG SOF;go_wp2_with fail;go_ret
       exact ⟨by rw[HS0.out];first|done|rfl,HE.out⟩
 · have HLM:=Ac h;have HS:=Ac (fun W (h:Below W0.heap.size W0 W)=>Ii (.agg #[.slice A n c,.bool false,.slice none 0 0]) (.agg #[.slice A2 n2 c2,.bool false,.slice none 0 0]) L M 0 k ku W (HP1.out.below h) (HP2.out.below h) (by omega) (by omega) h1);unfold Hp at HS;have HS0:=Ac h0;clear h0 h
   have SOF:=Ac (show ∀W,Below W0.heap.size W0 W->(W.cell? ⟨w0.heap.size,0,none⟩=some (.slice A n c)/\W.cell? ⟨w0.heap.size,1,none⟩=some (.bool s)/\W.cell? ⟨w0.heap.size,2,none⟩=some (.slice B m d)/\W.cell? ⟨w0.heap.size+1,0,none⟩=some (.slice A2 n2 c2)/\W.cell? ⟨w0.heap.size+1,1,none⟩=some (.bool s2)/\W.cell? ⟨w0.heap.size+1,2,none⟩=some (.slice B2 m2 d2)) from fun W h=>⟨(X.out.next h).c0,(X.out.next h).c1,(X.out.next h).c2,(Y.out.next h).c0,(Y.out.next h).c1,(Y.out.next h).c2⟩)
   refine AO (by kernel_rfl) (by kernel_rfl) (by kernel_rfl) (fun w w'=>Below w.heap.size w w') (fun j v w=>match j with|0=>v=.agg #[.slice A n c,.bool s,.slice B m d]|1=>v=.agg #[.slice A n c,.bool false,.slice none 0 0]|2=>v=.agg #[.slice A2 n2 c2,.bool s2,.slice B2 m2 d2]|3=>v=.agg #[.slice A2 n2 c2,.bool false,.slice none 0 0]|4=>v=.bool false|_=>True) (fun _ _ w=>Below W0.heap.size W0 w) ?_ (fun _=>Ap W0 1) ?_ ?_
   · intro j v w w' hT h;match j,h with
     |0,h=>exact h
     |1,h=>exact h
     |2,h=>exact h
     |3,h=>exact h
     |4,h=>exact h
     |j+5,h=>trivial
   · refine ⟨?_,?_,?_,?_,?_,trivial⟩
     · intro l9 σ w a hin hout hl hc hp hG hF;refine Ad.none rfl ?_;have e2:a.tmps.getD 2 undef=.pointer (some ⟨w0.heap.size,0,none⟩):=hout 2 (Ae (by kernel_rfl));have CC:=SOF.out w hG;obtain ⟨C0,C1,C2,D0,D1,D2⟩:=CC;refine Does.val (.agg #[.slice A n c,.bool s,.slice B m d]) (w':=w) ?_ ⟨Below.refl _ _,rfl,hG⟩;go_simp
     · intro l9 σ w a hin hout hl hc hp hG hF;refine Ad.none rfl ?_;have e5:a.tmps.getD 5 undef=.agg #[.slice A n c,.bool s,.slice B m d]:=Am (hin 0 5) rfl (hp ⟨0,.data⟩ (by simp) rfl) (hF 0);refine Does.call ?_ (Ca A n c s B m d w) ?_
       · go_simp
       · rintro e w' ⟨rfl,hb⟩;exact ⟨_,rfl,hb,rfl,hG.next hb⟩
     · intro l9 σ w a hin hout hl hc hp hG hF;refine Ad.none rfl ?_;have e3:a.tmps.getD 3 undef=.pointer (some ⟨w0.heap.size+1,0,none⟩):=hout 3 (Ae (by kernel_rfl));have CC:=SOF.out w hG;obtain ⟨C0,C1,C2,D0,D1,D2⟩:=CC;refine Does.val (.agg #[.slice A2 n2 c2,.bool s2,.slice B2 m2 d2]) (w':=w) ?_ ⟨Below.refl _ _,rfl,hG⟩;go_simp
     · intro l9 σ w a hin hout hl hc hp hG hF;refine Ad.none rfl ?_;have e7:a.tmps.getD 7 undef=.agg #[.slice A2 n2 c2,.bool s2,.slice B2 m2 d2]:=Am (hin 2 7) rfl (hp ⟨2,.data⟩ (by simp) rfl) (hF 2);refine Does.call ?_ (Ca A2 n2 c2 s2 B2 m2 d2 w) ?_
       · go_simp
       · rintro e w' ⟨rfl,hb⟩;exact ⟨_,rfl,hb,rfl,hG.next hb⟩
     · intro l9 σ w a hin hout hl hc hp hG hF;refine Ad.none rfl ?_;have e6:a.tmps.getD 6 undef=.agg #[.slice A n c,.bool false,.slice none 0 0]:=Am (hin 1 6) rfl (hp ⟨1,.data⟩ (by simp) rfl) (hF 1);have e8:a.tmps.getD 8 undef=.agg #[.slice A2 n2 c2,.bool false,.slice none 0 0]:=Am (hin 3 8) rfl (hp ⟨3,.data⟩ (by simp) rfl) (hF 3);refine Does.call ?_ (HS.out w hG) ?_
       · go_simp
       · rintro e w' ⟨rfl,hb⟩;exact ⟨_,rfl,hb,rfl,hG.next hb⟩
   · intro l9 σ W9 hall hG hF;rw[show mid _ σ l9 _=(Act.put (Act.put (Act.put (Act.put (Act.put _ (some 5) (σ 0)) (some 6) (σ 1)) (some 7) (σ 2)) (some 8) (σ 3)) (some 9) (σ 4)) from (AU hall).trans rfl];generalize σ 0=tt0;generalize σ 1=tt1;generalize σ 2=tt2;generalize σ 3=tt3;rw[show σ 4=.bool false from hF 4 (by decide)];simp only[Act.put,List.setIfInBounds_toArray,List.set_cons_zero,List.set_cons_succ];have TG:=hG;clear hF hG hall;clear σ;have HG1:=Ac TG
     clear TG SOF HS;go_upto_region 3 with fail;generalize W9=W1 at *;have HP1:=Ac (HP1.out.below HG1.out);have HP2:=Ac (HP2.out.below HG1.out);have X:=Ac (X.out.next HG1.out);have Y:=Ac (Y.out.next HG1.out);have T:=Ac (T.out.next HG1.out);clear HG1
     have SOF:=Ac (show ∀W,Below W1.heap.size W1 W->(W.cell? ⟨w0.heap.size,0,none⟩=some (.slice A n c)/\W.cell? ⟨w0.heap.size,1,none⟩=some (.bool s)/\W.cell? ⟨w0.heap.size,2,none⟩=some (.slice B m d)/\W.cell? ⟨w0.heap.size+1,0,none⟩=some (.slice A2 n2 c2)/\W.cell? ⟨w0.heap.size+1,1,none⟩=some (.bool s2)/\W.cell? ⟨w0.heap.size+1,2,none⟩=some (.slice B2 m2 d2)) from fun W h=>⟨(X.out.next h).c0,(X.out.next h).c1,(X.out.next h).c2,(Y.out.next h).c0,(Y.out.next h).c1,(Y.out.next h).c2⟩)
     refine AO (by kernel_rfl) (by kernel_rfl) (by kernel_rfl) (fun w w'=>Below w.heap.size w w') (fun j v w=>match j with|0=>v=.agg #[.slice A n c,.bool s,.slice B m d]|1=>v=.agg #[.slice A n c,.bool false,.slice none 0 0]|2=>v=.agg #[.slice A2 n2 c2,.bool s2,.slice B2 m2 d2]|3=>v=.agg #[.slice A2 n2 c2,.bool false,.slice none 0 0]|4=>Au w v (-1) 2|5=>Aw w v (AZ M) 0 (ku+2+M.length)|6=>v=.bool false|_=>True) (fun _ _ w=>Below W1.heap.size W1 w) ?_ (fun _=>Ap W1 1) ?_ ?_
     · intro j v w w' hT h;match j,h with
       |0,h=>exact h
       |1,h=>exact h
       |2,h=>exact h
       |3,h=>exact h
       |4,h=>exact h.below hT
       |5,h=>exact h.below hT
       |6,h=>exact h
       |j+7,h=>trivial
     · refine ⟨?_,?_,?_,?_,?_,?_,?_,trivial⟩
       · intro l9 σ w a hin hout hl hc hp hG hF;refine Ad.none rfl ?_;have e2:a.tmps.getD 2 undef=.pointer (some ⟨w0.heap.size,0,none⟩):=hout 2 (Ae (by kernel_rfl));have CC:=SOF.out w hG;obtain ⟨C0,C1,C2,D0,D1,D2⟩:=CC;refine Does.val (.agg #[.slice A n c,.bool s,.slice B m d]) (w':=w) ?_ ⟨Below.refl _ _,rfl,hG⟩;go_simp
       · intro l9 σ w a hin hout hl hc hp hG hF;refine Ad.none rfl ?_;have e10:a.tmps.getD 10 undef=.agg #[.slice A n c,.bool s,.slice B m d]:=Am (hin 0 10) rfl (hp ⟨0,.data⟩ (by simp) rfl) (hF 0);refine Does.call ?_ (Ca A n c s B m d w) ?_
         · go_simp
         · rintro e w' ⟨rfl,hb⟩;exact ⟨_,rfl,hb,rfl,hG.next hb⟩
       · intro l9 σ w a hin hout hl hc hp hG hF;refine Ad.none rfl ?_;have e3:a.tmps.getD 3 undef=.pointer (some ⟨w0.heap.size+1,0,none⟩):=hout 3 (Ae (by kernel_rfl));have CC:=SOF.out w hG;obtain ⟨C0,C1,C2,D0,D1,D2⟩:=CC;refine Does.val (.agg #[.slice A2 n2 c2,.bool s2,.slice B2 m2 d2]) (w':=w) ?_ ⟨Below.refl _ _,rfl,hG⟩;go_simp
       · intro l9 σ w a hin hout hl hc hp hG hF;refine Ad.none rfl ?_;have e12:a.tmps.getD 12 undef=.agg #[.slice A2 n2 c2,.bool s2,.slice B2 m2 d2]:=Am (hin 2 12) rfl (hp ⟨2,.data⟩ (by simp) rfl) (hF 2);refine Does.call ?_ (Ca A2 n2 c2 s2 B2 m2 d2 w) ?_
         · go_simp
         · rintro e w' ⟨rfl,hb⟩;exact ⟨_,rfl,hb,rfl,hG.next hb⟩
       · intro l9 σ w a hin hout hl hc hp hG hF;refine Ad.none rfl ?_;refine Does.call ?_ (JK (-1) w (by decide) (by decide)) ?_
         · go_simp
         · rintro e w' ⟨v,rfl,z,hb⟩;exact ⟨_,rfl,hb,z,hG.next hb⟩
       · intro l9 σ w a hin hout hl hc hp hG hF;refine Ad.none rfl ?_;have e13:a.tmps.getD 13 undef=.agg #[.slice A2 n2 c2,.bool false,.slice none 0 0]:=Am (hin 3 13) rfl (hp ⟨3,.data⟩ (by simp) rfl) (hF 3);have e14:=hin 4 14 rfl (hp ⟨4,.data⟩ (by simp) rfl);have z4:=hF 4 (hp ⟨4,.data⟩ (by simp) rfl);refine Does.call ?_ (EI _ _ M 0 (-1) ku 2 w (HP2.out.below hG).in_ z4.in_ (by omega) (by omega) (by omega)) ?_
         · go_simp
         · rintro e w' ⟨v,rfl,z,hb⟩;exact ⟨_,rfl,hb,z.ofEq2 (Ik M) (by omega),hG.next hb⟩
       · intro l9 σ w a hin hout hl hc hp hG hF;refine Ad.none rfl ?_;have e11:a.tmps.getD 11 undef=.agg #[.slice A n c,.bool false,.slice none 0 0]:=Am (hin 1 11) rfl (hp ⟨1,.data⟩ (by simp) rfl) (hF 1);have e15:=hin 5 15 rfl (hp ⟨5,.data⟩ (by simp) rfl);have z5:=hF 5 (hp ⟨5,.data⟩ (by simp) rfl);refine Does.call ?_ (Ii _ _ L (AZ M) 0 k (ku+2+M.length) w (HP1.out.below hG) z5 (by omega) (by have:=HNL.out;omega) HLM.out) ?_
         · go_simp
         · rintro e w' ⟨rfl,hb⟩;exact ⟨_,rfl,hb,rfl,hG.next hb⟩
     · intro l9 σ W9 hall hG hF;rw[show mid _ σ l9 _=(Act.put (Act.put (Act.put (Act.put (Act.put (Act.put (Act.put _ (some 10) (σ 0)) (some 11) (σ 1)) (some 12) (σ 2)) (some 13) (σ 3)) (some 14) (σ 4)) (some 15) (σ 5)) (some 16) (σ 6)) from (AU hall).trans rfl];generalize σ 0=tt0;generalize σ 1=tt1;generalize σ 2=tt2;generalize σ 3=tt3;generalize σ 4=tt4;generalize σ 5=tt5;rw[show σ 6=.bool false from hF 6 (by decide)]
       simp only[Act.put,List.setIfInBounds_toArray,List.set_cons_zero,List.set_cons_succ];have TG:=hG;clear hF hG hall;clear σ;have HE:=Ac (T.out.next TG);clear TG SOF;go_wp2_with fail;go_ret
       exact ⟨by rw[HS0.out];first|done|rfl,HE.out⟩
end
section
open Go.RowKit Go.Shelf Go.Lib Go.Sort
theorem GU {α:Type} (enc:α->List Value) (k:Nat) (hk:∀x,(enc x).length=k) (h0:0<k):∀(ps:List α) (t:Nat),((ps.map enc).flatten)[t]?=(ps[t/k]?).bind fun x=>(enc x)[t%k]?
 |[],t=>by simp
 |p::ps,t=>by
  rw[List.map_cons,List.flatten_cons];by_cases ht:t<k
  · rw[List.getElem?_append_left (by rw[hk];exact ht),Nat.div_eq_of_lt ht,Nat.mod_eq_of_lt ht];simp
  · rw[List.getElem?_append_right (by rw[hk];omega),hk,GU enc k hk h0 ps (t-k)];have e1:t/k=(t-k)/k+1:=by
     conv=>lhs;rw[show t=t-k+k by omega]
     exact Nat.add_div_right _ h0
    have e2:t%k=(t-k)%k:=by
     conv=>lhs;rw[show t=t-k+k by omega]
     exact Nat.add_mod_right _ _
    rw[e1,e2,List.getElem?_cons_succ]
theorem I9 {α:Type} (enc:α->List Value) (k:Nat) (hk:∀x,(enc x).length=k) (ps:List α):((ps.map enc).flatten).length=ps.length*k:=by
 induction ps with
 |nil=>simp
 |cons p ps ih=>rw[List.map_cons,List.flatten_cons,List.length_append,ih,hk,List.length_cons,Nat.succ_mul];omega
theorem Hy {α:Type} [Inhabited α] (enc:α->List Value) (k:Nat) (hk:∀x,(enc x).length=k) (h0:0<k) (d:Array α):(flatK enc k d).toList=(d.toList.map enc).flatten:=by
 apply List.ext_getElem?;intro t;rw[GU enc k hk h0];by_cases ht:t<d.size*k
 · have hq:t/k<d.size:=Nat.div_lt_of_lt_mul (by rw[Nat.mul_comm];exact ht);have hs:t<(flatK enc k d).size:=(by rw[size_flatK];exact ht);have h1:=get_flatK enc k d t ht;rw[getElem!_pos _ t hs,getElem!_pos d _ hq]at h1;rw[Array.getElem?_toList,Array.getElem?_eq_getElem hs,h1];have hm:t%k<(enc d[t/k]).length:=(by rw[hk];exact Nat.mod_lt _ h0);rw[getElem!_pos (enc d[t/k]) _ hm];simp[hq,List.getElem?_eq_getElem hm]
 · rw[List.getElem?_eq_none (by simpa using ht)];have hq:d.toList.length<=t/k:=(by rw[Array.length_toList];exact (Nat.le_div_iff_mul_le h0).2 (by omega));rw[List.getElem?_eq_none hq];rfl
theorem Dq.swo {α:Type} {cf:α->α->Int} (h:Dq cf):SWO (ltOf cf) where
 irrefl x:=by unfold ltOf;rw[h.refl];rfl
 trans x y z h1 h2:=by unfold ltOf at *;simp only[decide_eq_true_eq]at *;exact h.lt_le h1 (by omega)
 ntrans x y z h1 h2:=by unfold ltOf at *;simp only[decide_eq_false_iff_not]at *;have a1:=h.neg x y;have a2:=h.neg y z;have a3:=h.neg x z;have:=h.trans z y x (by omega) (by omega);omega
theorem Ga {α:Type} [Inhabited α] (enc:α->List Value) (k:Nat) (w:World) (g m:Nat) (dk:Array α) (os:Array Obj):AA g w (sortWorldK enc k w g 0 m dk os):=by
 have hs:(putRowK enc k (Sort.ahead w m) g 0 dk).heap.size=w.heap.size:=size_putRowK _ _ _ _ _ _;refine ⟨rfl,rfl,rfl,?_,fun q hq hne=>?_⟩
 · show w.heap.size<=(grow _ os).heap.size;rw[size_grow,hs];omega
 · show (grow _ os).heap[q]?=_;rw[heap_grow_old _ _ (by rw[hs];exact hq)];show ((w.heap.modify g (onCells (putCells id 0 (flatK enc k dk))))[q]?)=_;rw[Array.getElem?_modify,if_neg (fun e=>hne (by rw[e]))]
theorem L9 {ρ:Ren} (L:Go.Proofs.SlLaysF0.n6 Tryz.prog ρ) {α:Type} [Inhabited α] (T:TypeId) (sz:Nat) (h0:0<sz) (aE:∀w,(isAgg (ρ.t 24)).run Tryz.prog w=.ok true w) (zE:∀w,(Go.sizeOf (ρ.t 24)).run Tryz.prog w=.ok sz w)
   (enc:α->List Value) (hk:∀x,(enc x).length=sz) (h1:∀x,∀v∈enc x,v.oneCell'=true) (hni:∀x,FD (enc x)) (cf:α->α->Int) (hcf:Dq cf) (f:Nat) (cb:Array Value) (base g n c:Nat) (ps:List α) (w:World)
   (eg:∀args w,(callFunc f args).run Tryz.prog w=.ok (.enter f args) w)
   (hcmp:∀W,AA g w W->∀x y,Calls Tryz.prog f (#[.agg (enc x).toArray,.agg (enc y).toArray]++cb) W (fun e w'=>e=.returned (.int .i64 (cf x y))/\Below W.heap.size W w'))
   (h:LN T sz w base (.slice (some ⟨g,0,none⟩) n c) n ((ps.map enc).flatten)) (hn:n<4611686018427387904) :
   Calls Tryz.prog (ρ.f 6) #[.slice (some ⟨g,0,none⟩) n c,.func (.func f) #[] cb] w (fun e w'=>e=.returned (.tuple #[])/\∃qs:List α,qs.Perm ps/\LN T sz w' base (.slice (some ⟨g,0,none⟩) n c) n ((qs.map enc).flatten)/\(qs.Pairwise fun a b=>cf a b<=0)/\AA g w w'):=by
 obtain ⟨hl,hv⟩:=h;rcases hv with ⟨hv,-⟩|⟨g',cap,cur,hv,hbase,hh,b1,b2,b3,b4,b5,b6⟩
 · cases hv
 injection hv with e1 e2 e3
 injection e1 with e1
 injection e1 with e1
 subst e1 e3;have hpn:ps.length=n:=by rw[I9 enc sz hk]at hl;exact Nat.eq_of_mul_eq_mul_right h0 hl
 have hds:ps.toArray.size=n:=by simpa using hpn
 have hlt:g<w.heap.size:=(Array.getElem?_eq_some_iff.1 hh).1;have hH:HoldsK enc sz w g 0 ps.toArray:=by
   intro j hj;rw[size_flatK,hds]at hj;have hjs:j<(flatK enc sz ps.toArray).size:=(by rw[size_flatK,hds];exact hj);have e1:(flatK enc sz ps.toArray)[j]! = (flatK enc sz ps.toArray)[j]:=getElem!_pos _ j hjs;have e2:((ps.map enc).flatten)[j]?=some ((flatK enc sz ps.toArray)[j]):=by have:=Hy enc sz hk h0 ps.toArray;rw[show ps.toArray.toList=ps from rfl]at this;rw[<-this,Array.getElem?_toList,Array.getElem?_eq_getElem hjs]
   rw[e1,Nat.zero_add];refine ⟨?_,by simp[World.frozen?,hh]⟩;rw[cell_of_row w g j _ _ _ hh];rw[<-b4,List.getElem?_take_of_lt hj]at e2;simpa using e2
 have hC:CmpLays Tryz.prog f cb enc sz cf g 0 ps.toArray.size w:=by intro m os dk hs x y;refine (Dr.calls_drawn (hcmp _ (Ga enc sz w g m dk os) x y)).mono ?_;rintro e w' ⟨⟨rfl,hb⟩,hd⟩;exact ⟨rfl,Ks hb (hd _ rfl)⟩
 have hcon:=AnyQ.slices_SortFunc L sz aE zE enc hk h1 cf hcf.swo f cb g 0 c ps.toArray w eg hC hH hlt (by rw[hds];exact hn);rw[hds]at hcon;refine Calls.mono hcon ?_;rintro e w' ⟨rfl,d',m,os,hp,hs,rfl⟩;have hds':d'.size=n:=by rw[hp.1,hds]
 refine ⟨rfl,d'.toList,?_,⟨by rw[I9 enc sz hk];simp[hds'],.inr ⟨g,c,putCells id 0 (flatK enc sz d') cur,rfl,hbase,?_,b1,b2,?_,?_,?_,?_⟩⟩,?_,Ga enc sz w g m d' os⟩
 · have:=hp.2.2;rw[show d'.extract 0 n=d' by rw[<-hds'];simp,show ps.toArray.extract 0 n=ps.toArray by rw[<-hds];simp]at this;exact this
 · show (grow _ os).heap[g]?=_;rw[heap_grow_old _ _ (by rw[show (putRowK enc sz (Sort.ahead w m) g 0 d').heap.size=w.heap.size from size_putRowK _ _ _ _ _ _];exact hlt)];show ((w.heap.modify g (onCells (putCells id 0 (flatK enc sz d'))))[g]?)=_;rw[Array.getElem?_modify,if_pos rfl,hh];rfl
 · simpa[putCells] using b3
 · have hcs:n*sz<=cur.size:=(by rw[b3];exact Nat.mul_le_mul_right _ b1);rw[<-Hy enc sz hk h0 d'];apply List.ext_getElem?;intro t;by_cases ht:t<n*sz
   · have hts:t<(flatK enc sz d').size:=(by rw[size_flatK,hds'];exact ht);rw[List.getElem?_take_of_lt ht,Array.getElem?_toList,Array.getElem?_toList,Array.getElem?_eq_getElem hts];unfold putCells;rw[Array.getElem?_mapIdx,Array.getElem?_eq_getElem (by omega),Option.map_some,if_pos ⟨Nat.zero_le _,by omega⟩,Nat.sub_zero,getElem!_pos _ t hts];rfl
   · rw[List.getElem?_eq_none (by simp;omega),List.getElem?_eq_none (by simp[size_flatK,hds'];omega)]
 · intro u hu;unfold putCells at hu;rw[Array.toList_mapIdx]at hu;obtain ⟨i,hi,rfl⟩:=List.mem_mapIdx.1 hu;split
   · rename_i hr
     have hts:i-0<(flatK enc sz d').size:=(by omega);rw[getElem!_pos (flatK enc sz d') (i-0) hts];have hm:(flatK enc sz d')[i-0]∈(d'.toList.map enc).flatten:=(by rw[<-Hy enc sz hk h0];simp);obtain ⟨l,hl,hm⟩:=List.mem_flatten.1 hm;obtain ⟨x,-,rfl⟩:=List.mem_map.1 hl;exact (hni x).nls _ hm
   · exact b5 _ (List.getElem_mem hi)
 · intro u hu;unfold putCells at hu;rw[Array.toList_mapIdx]at hu;obtain ⟨i,hi,rfl⟩:=List.mem_mapIdx.1 hu;split
   · rename_i hr
     have hts:i-0<(flatK enc sz d').size:=(by omega);rw[getElem!_pos (flatK enc sz d') (i-0) hts];have hm:(flatK enc sz d')[i-0]∈(d'.toList.map enc).flatten:=(by rw[<-Hy enc sz hk h0];simp);obtain ⟨l,hl,hm⟩:=List.mem_flatten.1 hm;obtain ⟨x,-,rfl⟩:=List.mem_map.1 hl;exact hni x _ hm
   · exact b6 _ (List.getElem_mem hi)
 · rw[List.pairwise_iff_getElem];intro i j hi hj hij;have h6:=hs i j (Nat.zero_le _) hij (by simp at hj;omega);unfold ltOf at h6;simp only[decide_eq_false_iff_not]at h6;simp at hi hj;rw[getElem!_pos d' i hi,getElem!_pos d' j hj]at h6;have:=hcf.neg d'[i] d'[j];simp only[Array.getElem_toList];omega
end
section
open Go.Shelf
def Tryz.lays125_ren:Go.Shelf.Ren:=⟨fun|125=>77|128=>129|129=>130|n=>n,fun|46=>106|3=>3|51=>122|53=>126|4=>4|5=>5|9=>9|n=>n,fun|n=>n⟩
theorem Tryz.lays125:Go.Proofs.Lays.n125 Tryz.prog Tryz.lays125_ren:={
 mixed:=by kernel_rfl
 f125:=Tryz.func77.trans (congrArg some (by kernel_rfl))
 f128:=Tryz.func129.trans (congrArg some (by kernel_rfl))
 f129:=Tryz.func130.trans (congrArg some (by kernel_rfl))
 t3:=Tryz.underlying3
 a3:=Tryz.isAgg3
 z3:=Tryz.sizeOf3
 v3:=Tryz.zeroValue3
 t4:=Tryz.underlying4
 a4:=Tryz.isAgg4
 z4:=Tryz.sizeOf4
 v4:=Tryz.zeroValue4
 t5:=Tryz.underlying5
 a5:=Tryz.isAgg5
 z5:=Tryz.sizeOf5
 v5:=Tryz.zeroValue5
 t9:=Tryz.underlying9
 a9:=Tryz.isAgg9
 z9:=Tryz.sizeOf9
 v9:=Tryz.zeroValue9
 t46:=Tryz.underlying106
 a46:=Tryz.isAgg106
 z46:=Tryz.sizeOf106
 v46:=Tryz.zeroValue106
 t51:=Tryz.underlying122
 a51:=Tryz.isAgg122
 z51:=Tryz.sizeOf122
 v51:=Tryz.zeroValue122
 t53:=Tryz.underlying126
 a53:=Tryz.isAgg126
 z53:=Tryz.sizeOf126
 v53:=Tryz.zeroValue126 }
theorem Tryz.bits_Len (x:Int) (w:World) (h0:0<=x) (h1:x<=18446744073709551615) :
 Calls Tryz.prog 77 #[.int .u64 x] w fun e w'=>e=.returned (.int .i64 (Lib.bitLen x.toNat))/\w'=w:=Any.bits_Len Tryz.lays125 x w h0 h1
def Tryz.lays129_ren:Go.Shelf.Ren:=⟨fun|129=>130|n=>n,fun|53=>126|3=>3|4=>4|46=>106|5=>5|9=>9|n=>n,fun|n=>n⟩
end
end Go.Proofs.YtmedjkhmadfjlaaGreat
