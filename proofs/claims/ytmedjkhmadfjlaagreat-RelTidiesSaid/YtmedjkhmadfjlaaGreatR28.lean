/- Texts of one seat, put together: RBoth RAdd RScale LSame LOf Summing. -/
import Derived.Test.YtmedjkhmadfjlaaGreatR27
import Derived.Test.YtmedjkhmadfjlaaGreatR20
import Derived.Test.YtmedjkhmadfjlaaGreatR25
import Derived.Test.YtmedjkhmadfjlaaGreatR18
set_option linter.unusedVariables false
set_option linter.unusedSimpArgs false
set_option maxRecDepth 100000
set_option maxHeartbeats 16000000
namespace Go.Proofs.YtmedjkhmadfjlaaGreat
section
open Go.RowKit
open Tm
def Gn (w0:World) (os:List PV) (s:Value) (wr:World):Prop:=AF 47 3 wr w0.heap.size s os.length (flat os)/\Below w0.heap.size w0 wr
theorem S1 (A B:Option Addr) (n c m d k:Nat) (ps qs:List PV) (w0:World) (hp:AJ w0 A n ps k) (hq:AJ w0 B m qs k) (hn:n<=500000) (hm:m<=500000) :
  Calls Tryz.prog 97 #[.slice A n c,.slice B m d] w0 (JS ps qs k w0):=by
 have hpl:=Ac hp.1;have hql:=Ac hq.1;have HPP:=Ac hp;have HQQ:=Ac hq;have hpn:ps.length=n:=hp.1;have hqn':qs.length=m:=hq.1;obtain ⟨y0,y1,-⟩:=Bh 47 w0 #[];have HS:=Ac (show Gn w0 (ps.take 0) (.slice (some ⟨w0.heap.size,0,none⟩) 0 0) (w0.alloc (.cells #[] 47)) from ⟨AF.made #[] 0 (Nat.le_refl _) (by unfold maxLen;omega) rfl (fun u hu=>by simp at hu),y1⟩);clear y0 y1 hp hq;go_enter Tryz.func97,Tryz.ntmps97;go_wp2_with fail
 go_loopw [5,6] (fun s i wr=>∃q:Nat,q<=n/\i=.int .i64 q/\Hid (Gn w0 (ps.take q) s wr)) (fun _ i _=>n-(intOf i).toNat)
 case atStart=>exact ⟨0,Nat.zero_le _,rfl,HS⟩
 case round=>
  obtain ⟨q,hq,rfl,HR⟩:=hrel;obtain ⟨lr,hB⟩:=HR.out;have HL:=Ac lr;have HB:=Ac hB;have hsz:=hB.size;have hle:(ps.take q).length+1<=1099511627776:=by simp;omega
  by_cases hqn:q<n
  · obtain ⟨bb,o,p,rfl,hlt,hu,c0,c1,c2,hz⟩:=(HPP.out.below hB).at3 hqn;have HE:=Ac (show ∀v' w',AF 47 3 w' w0.heap.size v' (ps.take q++[p]).length (flat (ps.take q++[p]))->Below w0.heap.size w0 w'->Gn w0 (ps.take (q+1)) v' w' from fun v' w' h1 h2=>by
     have e:ps.take (q+1)=ps.take q++[p]:=(by rw[List.take_add_one,hu];simp);rw[e];exact ⟨h1,h2⟩)
    clear hz hu HR lr hB;go_wp2_with (at_builtin;refine Bv rfl _ _ rfl w0.heap.size _ (ps.take q) rfl (HL.out.below (Af _ _)) _ 0 1 1 [p] rfl rfl (Fw _ p _ rfl) hle (by simp;omega) ?_;intro v' w1 l1 g1);have HE1:=Ac (HE.out v' w1 l1 ((HL.out.below (Af wr (.cells #[.int .i64 p.v,.bool p.s,.slice p.B p.m p.d] 47))).old (HB.out.trans ((Af wr (.cells #[.int .i64 p.v,.bool p.s,.slice p.B p.m p.d] 47)).mono hsz)) g1 (Nat.le_refl _) (Nat.le_refl _)));clear l1 g1 c0 c1 c2
    go_wp2_with fail;go_roundw
    case rel=>exact ⟨q+1,by omega,by go_num,HE1⟩
    case measure=>simp[intOf]<;>omega
  · obtain rfl:q=n:=(by omega);have HS1:=Ac (show Gn w0 (ps++qs.take 0) _ wr from by have h:=HR.out;rw[List.take_of_length_le (by omega)]at h;simpa using h);clear HR lr hB HL HB hle hsz HS;go_wp2_with fail;go_loopw [5,7] (fun s i wr=>∃q:Nat,q<=m/\i=.int .i64 q/\Hid (Gn w0 (ps++qs.take q) s wr)) (fun _ i _=>m-(intOf i).toNat)
    case atStart=>exact ⟨0,Nat.zero_le _,rfl,HS1⟩
    case round=>
     obtain ⟨q,hq,rfl,HR⟩:=hrel;obtain ⟨lr,hB⟩:=HR.out;have HL:=Ac lr;have HB:=Ac hB;have hsz:=hB.size;have hle:(ps++qs.take q).length+1<=1099511627776:=(by simp;omega);by_cases hqn:q<m
     · obtain ⟨bb,o,p,rfl,hlt,hu,c0,c1,c2,hz⟩:=(HQQ.out.below hB).at3 hqn;have HE:=Ac (show ∀v' w',AF 47 3 w' w0.heap.size v' (ps++qs.take q++[p]).length (flat (ps++qs.take q++[p]))->Below w0.heap.size w0 w'->Gn w0 (ps++qs.take (q+1)) v' w' from fun v' w' h1 h2=>by
        have e:ps++qs.take (q+1)=ps++qs.take q++[p]:=(by rw[List.take_add_one,hu];simp);rw[e];exact ⟨h1,h2⟩)
       clear hz hu HR lr hB;go_wp2_with (at_builtin;refine Bv rfl _ _ rfl w0.heap.size _ (ps++qs.take q) rfl (HL.out.below (Af _ _)) _ 0 1 1 [p] rfl rfl (Fw _ p _ rfl) hle (by simp;omega) ?_;intro v' w1 l1 g1);have HE1:=Ac (HE.out v' w1 l1 ((HL.out.below (Af wr (.cells #[.int .i64 p.v,.bool p.s,.slice p.B p.m p.d] 47))).old (HB.out.trans ((Af wr (.cells #[.int .i64 p.v,.bool p.s,.slice p.B p.m p.d] 47)).mono hsz)) g1 (Nat.le_refl _) (Nat.le_refl _)))
       clear l1 g1 c0 c1 c2;go_wp2_with fail;go_roundw
       case rel=>exact ⟨q+1,by omega,by go_num,HE1⟩
       case measure=>simp[intOf]<;>omega
     · obtain rfl:q=m:=(by omega);have HE:=Ac (show AF 47 3 wr w0.heap.size _ (ps++qs).length (flat (ps++qs)) from by have h:=HL.out;rwa [List.take_of_length_le (by omega)]at h);obtain ⟨A9,c9,hv9,h91,h92,-⟩:=HE.out.len;subst hv9;have HP9:=Ac (HE.out.parts (k:=k) rfl (fun p hp=>by
        rcases List.mem_append.1 hp with h|h
        · exact (HPP.out.2.2 p h).below HB.out
        · exact (HQQ.out.2.2 p h).below HB.out))
       clear HR lr hB HL hle hsz;go_wp2_with fail;go_ret
       exact ⟨A9,_,c9,rfl,HP9.out,h91,h92,HB.out⟩
end
section
open Go.RowKit
open Tm
theorem Qv (v u:Value) (L M:List (Int×Int)) (K KM:Int) (k:Nat) (w0:World) (hv:D9 w0 v L K k) (hu:D9 w0 u M KM k) (hl:L.length<=500000) (hm:M.length<=500000) (hk:k<=109951162) :
   Calls Tryz.prog 51 #[v,u] w0 (BG (norm (L++M)) (K+KM) (k+1+(L.length+M.length)) w0):=by
 obtain ⟨A,n,c,s,B,m,d,rfl,⟨ps,hps,rfl⟩,hc1,hc2,hK⟩:=hv;obtain ⟨A2,n2,c2,s2,B2,m2,d2,rfl,⟨qs,hqs,rfl⟩,hc3,hc4,hK2⟩:=hu;have hn:n<=500000:=by have:=hps.1;unfold Cl at hl;rw[List.length_map]at hl;omega
 have hn2:n2<=500000:=by have:=hqs.1;unfold Cl at hm;rw[List.length_map]at hm;omega
 have HLL:=Ac (show (Cl ps).length=ps.length/\(Cl qs).length=qs.length from ⟨by simp[Cl],by simp[Cl]⟩);obtain ⟨z0,z1,z2,z3,z4⟩:=Cc 40 40 40 w0 #[.slice A n c,.bool s,.slice B m d] #[.slice A2 n2 c2,.bool s2,.slice B2 m2 d2] #[.slice none 0 0,.bool false,.slice none 0 0];go_enter Tryz.func51,Tryz.ntmps51;go_wp2_with fail
 generalize hW0:(((w0.alloc (.cells #[.slice A n c,.bool s,.slice B m d] 40)).alloc (.cells #[.slice A2 n2 c2,.bool s2,.slice B2 m2 d2] 40)).alloc (.cells #[.slice none 0 0,.bool false,.slice none 0 0] 40))=W0 at *;clear hW0;have HPA:=Ac (hps.below z3);have HPB:=Ac (hqs.below z3);have HKA:=Ac (hK.below z3);have HKB:=Ac (hK2.below z3);have R0:=Ac z2;have T0:=Ac z3
 have HPL:=Ac (fun W v (h:D9 W v (Cl (ps++qs)) (K+KM) (k+1))=>(show Calls Tryz.prog 48 #[v] W (BG (norm (Cl (ps++qs))) (K+KM) (k+1+(ps.length+qs.length)) W) from by have h1:=DN v _ _ (k+1) W h (by rw[Bu,List.length_append,HLL.out.1,HLL.out.2];have:=hps.1;have:=hqs.1;omega) (by omega);rw[Bu,List.length_append,HLL.out.1,HLL.out.2]at h1;rw[Bu];exact h1))
 unfold BG at HPL
 have SOF:=Ac (show ∀W,Below W0.heap.size W0 W->(W.cell? ⟨w0.heap.size,0,none⟩=some (.slice A n c)/\W.cell? ⟨w0.heap.size,1,none⟩=some (.bool s)/\W.cell? ⟨w0.heap.size,2,none⟩=some (.slice B m d)/\W.cell? ⟨w0.heap.size+1,0,none⟩=some (.slice A2 n2 c2)/\W.cell? ⟨w0.heap.size+1,1,none⟩=some (.bool s2)/\W.cell? ⟨w0.heap.size+1,2,none⟩=some (.slice B2 m2 d2)) from fun W h=>⟨(z0.next h).c0,(z0.next h).c1,(z0.next h).c2,(z1.next h).c0,(z1.next h).c1,(z1.next h).c2⟩)
 clear z0 z1 z2 z3 z4 hps hqs hK hK2
 refine AW (by kernel_rfl) (by kernel_rfl) (by kernel_rfl) (by kernel_rfl) (fun w w'=>Below w.heap.size w w') (fun j v w=>match j with|0=>v=.pointer (some ⟨w0.heap.size,0,none⟩)|1=>v=.slice A n c|2=>v=.pointer (some ⟨w0.heap.size+1,0,none⟩)|3=>v=.slice A2 n2 c2|4=>∃A n c,v=.slice A n c/\AJ w A n (ps++qs) k/\n<=c/\c<=9223372036854775807|5=>v=.pointer (some ⟨w0.heap.size,1,none⟩)|6=>v=.agg #[.bool s,.slice B m d]|7=>v=.pointer (some ⟨w0.heap.size+1,1,none⟩)|8=>v=.agg #[.bool s2,.slice B2 m2 d2]|9=>∃s B m d,v=.agg #[.bool s,.slice B m d]/\Au w (.agg #[.bool s,.slice B m d]) (K+KM) (k+1)|10=>D9 w v (Cl (ps++qs)) (K+KM) (k+1)|11=>Aw w v (norm (Cl (ps++qs))) (K+KM) (k+1+(ps.length+qs.length))|_=>True) (fun _ _ w=>Below W0.heap.size W0 w) ?_ (fun _=>Ap W0 1) ?_ ?_
 · intro j v w w' hT h;match j,h with
   |0,h=>exact h
   |1,h=>exact h
   |2,h=>exact h
   |3,h=>exact h
   |4,h=>exact (by obtain ⟨A,n,c,e,h1,h2,h3⟩:=h;exact ⟨A,n,c,e,h1.below hT,h2,h3⟩)
   |5,h=>exact h
   |6,h=>exact h
   |7,h=>exact h
   |8,h=>exact h
   |9,h=>exact (by obtain ⟨s,B,m,d,e,z⟩:=h;exact ⟨s,B,m,d,e,z.below hT⟩)
   |10,h=>exact h.below hT
   |11,h=>exact h.below hT
   |j+12,h=>trivial
 · refine ⟨?_,?_,?_,?_,?_,?_,?_,?_,?_,?_,?_,?_,trivial⟩
   · intro l9 σ w a hin hout hl hla hs hc hp hG hF;refine Ad.none rfl ?_;have e2:a.tmps.getD 2 undef=.pointer (some ⟨w0.heap.size,0,none⟩):=hout 2 (Ae (by kernel_rfl));refine Does.val (.pointer (some ⟨w0.heap.size,0,none⟩)) (w':=w) ?_ ⟨Below.refl _ _,rfl,hG⟩;simp only[Array.getD_eq_getD_getElem?]at e2;go_simp
   · intro l9 σ w a hin hout hl hla hs hc hp hG hF;refine Ad.none rfl ?_;have e5:a.tmps.getD 5 undef=.pointer (some ⟨w0.heap.size,0,none⟩):=Am (hin 0 5) rfl (hp ⟨0,.data⟩ (by simp) rfl) (hF 0);have CC:=SOF.out w hG;obtain ⟨C0,C1,C2,D0,D1,D2⟩:=CC;refine Does.val (.slice A n c) (w':=w) ?_ ⟨Below.refl _ _,rfl,hG⟩;go_simp
   · intro l9 σ w a hin hout hl hla hs hc hp hG hF;refine Ad.none rfl ?_;have e3:a.tmps.getD 3 undef=.pointer (some ⟨w0.heap.size+1,0,none⟩):=hout 3 (Ae (by kernel_rfl));refine Does.val (.pointer (some ⟨w0.heap.size+1,0,none⟩)) (w':=w) ?_ ⟨Below.refl _ _,rfl,hG⟩;simp only[Array.getD_eq_getD_getElem?]at e3;go_simp
   · intro l9 σ w a hin hout hl hla hs hc hp hG hF;refine Ad.none rfl ?_;have e7:a.tmps.getD 7 undef=.pointer (some ⟨w0.heap.size+1,0,none⟩):=Am (hin 2 7) rfl (hp ⟨2,.data⟩ (by simp) rfl) (hF 2);have CC:=SOF.out w hG;obtain ⟨C0,C1,C2,D0,D1,D2⟩:=CC;refine Does.val (.slice A2 n2 c2) (w':=w) ?_ ⟨Below.refl _ _,rfl,hG⟩;go_simp
   · intro l9 σ w a hin hout hl hla hs hc hp hG hF;refine Ad.none rfl ?_;have e6:a.tmps.getD 6 undef=.slice A n c:=Am (hin 1 6) rfl (hp ⟨1,.data⟩ (by simp) rfl) (hF 1);have e8:a.tmps.getD 8 undef=.slice A2 n2 c2:=Am (hin 3 8) rfl (hp ⟨3,.data⟩ (by simp) rfl) (hF 3);refine Does.call ?_ (S1 A A2 n c n2 c2 k ps qs w (HPA.out.below hG) (HPB.out.below hG) hn hn2) ?_
     · go_simp
     · rintro e w' ⟨A,n,c,rfl,hp,h1,h2,hb⟩;exact ⟨_,rfl,hb,⟨A,n,c,rfl,hp,h1,h2⟩,hG.next hb⟩
   · intro l9 σ w a hin hout hl hla hs hc hp hG hF;refine Ad.none rfl ?_;have e2:a.tmps.getD 2 undef=.pointer (some ⟨w0.heap.size,0,none⟩):=hout 2 (Ae (by kernel_rfl));refine Does.val (.pointer (some ⟨w0.heap.size,1,none⟩)) (w':=w) ?_ ⟨Below.refl _ _,rfl,hG⟩;simp only[Array.getD_eq_getD_getElem?]at e2;go_simp
   · intro l9 σ w a hin hout hl hla hs hc hp hG hF;refine Ad.none rfl ?_;have e10:a.tmps.getD 10 undef=.pointer (some ⟨w0.heap.size,1,none⟩):=Am (hin 5 10) rfl (hp ⟨5,.data⟩ (by simp) rfl) (hF 5);have CC:=SOF.out w hG;obtain ⟨C0,C1,C2,D0,D1,D2⟩:=CC;refine Does.val (.agg #[.bool s,.slice B m d]) (w':=w) ?_ ⟨Below.refl _ _,rfl,hG⟩;go_simp
   · intro l9 σ w a hin hout hl hla hs hc hp hG hF;refine Ad.none rfl ?_;have e3:a.tmps.getD 3 undef=.pointer (some ⟨w0.heap.size+1,0,none⟩):=hout 3 (Ae (by kernel_rfl));refine Does.val (.pointer (some ⟨w0.heap.size+1,1,none⟩)) (w':=w) ?_ ⟨Below.refl _ _,rfl,hG⟩;simp only[Array.getD_eq_getD_getElem?]at e3;go_simp
   · intro l9 σ w a hin hout hl hla hs hc hp hG hF;refine Ad.none rfl ?_;have e12:a.tmps.getD 12 undef=.pointer (some ⟨w0.heap.size+1,1,none⟩):=Am (hin 7 12) rfl (hp ⟨7,.data⟩ (by simp) rfl) (hF 7);have CC:=SOF.out w hG;obtain ⟨C0,C1,C2,D0,D1,D2⟩:=CC;refine Does.val (.agg #[.bool s2,.slice B2 m2 d2]) (w':=w) ?_ ⟨Below.refl _ _,rfl,hG⟩;go_simp
   · intro l9 σ w a hin hout hl hla hs hc hp hG hF;refine Ad.none rfl ?_;have e11:a.tmps.getD 11 undef=.agg #[.bool s,.slice B m d]:=Am (hin 6 11) rfl (hp ⟨6,.data⟩ (by simp) rfl) (hF 6);have e13:a.tmps.getD 13 undef=.agg #[.bool s2,.slice B2 m2 d2]:=Am (hin 8 13) rfl (hp ⟨8,.data⟩ (by simp) rfl) (hF 8);refine Does.call ?_ (Jb (.agg #[.bool s,.slice B m d]) (.agg #[.bool s2,.slice B2 m2 d2]) K KM k w (HKA.out.below hG) (HKB.out.below hG) (by omega)) ?_
     · go_simp
     · rintro e w' ⟨v,rfl,z,hb⟩;exact ⟨_,rfl,hb,(by obtain ⟨s,B,m,d,rfl⟩:=z.form;exact ⟨s,B,m,d,rfl,z⟩),hG.next hb⟩
   · intro l9 σ w a hin hout hl hla hs hc hp hG hF;refine Ad.none rfl ?_;have e9:=hin 4 9 rfl (hp ⟨4,.data⟩ (by simp) rfl);obtain ⟨A5,n5,c5,ev4,p5,q5,r5⟩:=hF 4 (hp ⟨4,.data⟩ (by simp) rfl);rw[ev4]at e9;have e14:=hin 9 14 rfl (hp ⟨9,.data⟩ (by simp) rfl);obtain ⟨s10,B10,m10,d10,ev9,z10⟩:=hF 9 (hp ⟨9,.data⟩ (by simp) rfl);rw[ev9]at e14
     refine Does.val (.agg #[.slice A5 n5 c5,.bool s10,.slice B10 m10 d10]) (w':=w) ?_ ⟨Below.refl _ _,⟨A5,n5,c5,s10,B10,m10,d10,rfl,⟨_,p5.mono (by omega),rfl⟩,q5,r5,z10.in_⟩,hG⟩;simp only[Array.getD_eq_getD_getElem?]at e9 e14;go_simp
   · intro l9 σ w a hin hout hl hla hs hc hp hG hF;refine Ad.none rfl ?_;have e15:=hin 10 15 rfl (hp ⟨10,.data⟩ (by simp) rfl);have z10:=hF 10 (hp ⟨10,.data⟩ (by simp) rfl);refine Does.call ?_ (HPL.out w _ z10) ?_
     · go_simp
     · rintro e w' ⟨v,rfl,z,hb⟩;exact ⟨_,rfl,hb,z,hG.next hb⟩
 · intro o ho;injection ho with ho;subst ho
   intro l9 σ w a hall hin hout hG hF;refine Ad.none rfl ?_;have e4:a.tmps.getD 4 undef=.pointer (some ⟨w0.heap.size+1+1,0,none⟩):=hout 4 (KH (by kernel_rfl));have e16:=hin 11 16 rfl (by decide);have z11:=hF 11 (by decide);have z11:=hF 11 (by decide);obtain ⟨A8,n8,c8,s8,B8,m8,d8,ev8⟩:=Aw.form z11;rw[ev8]at e16 z11;have HR8:=Ac (R0.out.next hG);have HT8:=Ac (T0.out.next hG)
   refine Does.store_box (T:=40) (cells:=#[.slice A8 n8 c8,.bool s8,.slice B8 m8 d8]) rfl e4 e16 HR8.out (by kernel_rfl) rfl (by simp[Value.oneCell']) (fun w2 x9 o9=>?_)
   rw[show fin _ σ undef _=(Act.put (Act.put (Act.put (Act.put (Act.put (Act.put (Act.put (Act.put (Act.put (Act.put (Act.put (Act.put (Act.put _ (some 5) (σ 0)) (some 6) (σ 1)) (some 7) (σ 2)) (some 8) (σ 3)) (some 9) (σ 4)) (some 10) (σ 5)) (some 11) (σ 6)) (some 12) (σ 7)) (some 13) (σ 8)) (some 14) (σ 9)) (some 15) (σ 10)) (some 16) (σ 11)) none undef) from (Bt hall).trans rfl];simp only[Act.put,List.setIfInBounds_toArray,List.set_cons_zero,List.set_cons_succ]
   have HZ8:=Ac (z11.only HR8.out o9);have HO:=Ac o9;generalize σ 0=tt0 at *;generalize σ 1=tt1 at *;generalize σ 2=tt2 at *;generalize σ 3=tt3 at *;generalize σ 4=tt4 at *;generalize σ 5=tt5 at *;generalize σ 6=tt6 at *;generalize σ 7=tt7 at *;generalize σ 8=tt8 at *;generalize σ 9=tt9 at *;generalize σ 10=tt10 at *;generalize σ 11=tt11 at *;clear hF hG hall hin hout SOF z11 o9 e4 e16 ev8;go_wp2_with fail;refine BJ rfl rfl x9 rfl ?_
   exact BG.eq (BG.mono ⟨_,rfl,HZ8.out,AE HT8.out (by omega) HO.out⟩ (by have:=HLL.out;omega)) (by rw[Bu]) rfl
end
section
open Go.RowKit
open Tm
theorem EI (v u:Value) (L:List (Int×Int)) (K N:Int) (k kn:Nat) (w0:World) (hv:D9 w0 v L K k) (hu:BO w0 u N kn) (hl:L.length<=1099511) (hk:k<=109951162) (hj:kn<=109951162):Calls Tryz.prog 52 #[v,u] w0 (BG (norm (L.map fun p=>(p.1,p.2*N))) (K*N) (k+kn+L.length) w0):=by
 have hu0:=hu;obtain ⟨A,n,c,s,B,m,d,rfl,hp,hc1,hc2,hK⟩:=hv;obtain ⟨s2,B2,m2,d2,ys,rfl,-⟩:=hu;have hln:L.length=n:=hp.len;obtain ⟨z0,z1,z2,z3,z4⟩:=Cc 40 38 40 w0 #[.slice A n c,.bool s,.slice B m d] #[.bool s2,.slice B2 m2 d2] #[.slice none 0 0,.bool false,.slice none 0 0];have x1:=z0.c1;have x2:=z0.c2;have y1':=z1.cell 0 _ rfl;have y2':=z1.cell 1 _ rfl
 have hcl:=Mb (.agg #[.bool s,.slice B m d]) (.agg #[.bool s2,.slice B2 m2 d2]) K N k kn _ (hK.below z3) (hu0.below z3) (by omega) (by omega);go_enter Tryz.func52,Tryz.ntmps52;go_wp2_with fail;refine hcl.mono ?_;rintro e w1 ⟨v1,rfl,r1,b1⟩;obtain ⟨s1,A1,n1,c1,rfl⟩:=r1.form;have t1:=z3.next b1;have q0:=z0.next b1;have q1:=z1.next b1;have q2:=z2.next b1;have hz3:=Ac (show w0.heap.size+3<=w1.heap.size by have:=b1.size;simp at this;omega)
 obtain ⟨y0,y1,y2⟩:=Bh 40 w1 #[.slice none 0 0,.bool s1,.slice A1 n1 c1];have HR1:=Ac (r1.below y1);have XB:=Ac y0;have XP:=Ac (q0.next y1);have XN:=Ac (q1.next y1);have XR:=Ac (q2.next y1);have HW1:=Ac (t1.next y1);have HPP:=Ac hp;have HU:=Ac hu0;have HLN:=Ac hln;clear hcl r1 t1 q0 q1 q2 y0 y1 y2 x1 x2 y1' y2' z0 z1 z2 z3 z4 b1 hp hK hu0 hln;go_wp2_with fail;generalize hW1:w1.alloc (.cells #[.slice none 0 0,.bool s1,.slice A1 n1 c1] 40)=W1 at *;clear hW1
 have HG8:=Ac (show w0.heap.size+2<w1.heap.size by have:=hz3.out;omega);have HE:=Ac (show BM W1 w1.heap.size L K (fun z=>z*N) (k+kn) 0 W1 from
  ⟨[],none,0,s1,A1,n1,c1,XB.out,AF.nil _ _ _ _,rfl,rfl,fun p hp=>by simp at hp,HR1.out,AA.refl _ _,Kp.refl _⟩)
 go_loopw [6] (fun i wr=>∃q:Nat,q<=n/\i=.int .i64 q/\Hid (BM W1 w1.heap.size L K (fun z=>z*N) (k+kn) q wr)) (fun i _=>n-(intOf i).toNat)
 case atStart=>exact ⟨0,Nat.zero_le _,rfl,HE⟩
 case round=>
  obtain ⟨q,hq,rfl,HR⟩:=hrel;obtain ⟨rs,A4,c4,s4,B4,m4,d4,xg,lr,hrl,hlin,hrz,zK,oW,kW⟩:=HR.out;have hT:Below w0.heap.size w0 wr:=HW1.out.trans (oW.below HW1.out.size (by have:=HG8.out;omega));have za:=(XP.out.other oW (by have:=HG8.out;omega)).c0;have hn1:n<=1099511:=by have:=HLN.out;omega
  by_cases hqn:q<n
  · obtain ⟨bb,o,p,rfl,hlt,hLp,c0,c1,c2,hz⟩:=(HPP.out.below hT).at_ hqn;have HLp:=Ac hLp;have HXG:=Ac xg;have HL:=Ac lr;have HRL:=Ac hrl;have HLI:=Ac hlin;have HRZ:=Ac hrz;have HZK:=Ac zK;have HOW:=Ac oW;have HKW:=Ac kW;have HWS:=Ac oW.size;have HTT:=Ac hT;have HRW:=Ac (show ∀gs,(Value.slice A4 q c4).ownBlock=some gs->gs<wr.heap.size from fun gs e=>(lr.lt gs e).2)
    have HF6:=Ac (fun W (h:Below wr.heap.size wr W)=>Mb (.agg #[.bool p.s,.slice p.B p.m p.d]) (.agg #[.bool s2,.slice B2 m2 d2]) p.Z N k kn W (hz.below h) (HU.out.below (HTT.out.next h)) (by omega) (by omega));have zt:=XP.out.other oW (by have:=HG8.out;omega);have zn:=XN.out.other oW (by have:=HG8.out;omega)
    have SOF:=Ac (show ∀W,Below wr.heap.size wr W->(W.cell? ⟨w1.heap.size,0,none⟩=some (.slice A4 q c4)/\W.cell? ⟨w0.heap.size+1,0,none⟩=some (.bool s2)/\W.cell? ⟨w0.heap.size+1,1,none⟩=some (.slice B2 m2 d2)/\W.cell? ⟨bb,o+q*3,none⟩=some (.int .i64 p.v)/\W.cell? ⟨bb,o+q*3+1,none⟩=some (.bool p.s)/\W.cell? ⟨bb,o+q*3+2,none⟩=some (.slice p.B p.m p.d)/\W.cell? ⟨w0.heap.size,0,none⟩=some (.slice (some ⟨bb,o,none⟩) n c)) from fun W h=>⟨(HXG.out.next h).c0,(zn.next h).cell 0 _ rfl,(zn.next h).cell 1 _ rfl,(h.cell (p:=⟨bb,o+q*3,none⟩) hlt).trans c0,(h.cell (p:=⟨bb,o+q*3+1,none⟩) hlt).trans c1,(h.cell (p:=⟨bb,o+q*3+2,none⟩) hlt).trans c2,(zt.next h).c0⟩)
    clear xg lr hrl hlin hrz zK oW kW hT hLp c0 c1 c2 hz zt zn HR;go_wp2_with fail;clear za
    refine AW (by kernel_rfl) (by kernel_rfl) (by kernel_rfl) (by kernel_rfl) (Tg (Value.slice A4 q c4).ownBlock) (fun j v w=>match j with|0=>v=.pointer (some ⟨w1.heap.size,0,none⟩)|1=>v=.slice A4 q c4|2=>v=.pointer (some ⟨w0.heap.size,0,none⟩)|3=>v=.slice (some ⟨bb,o,none⟩) n c|4=>v=.int .i64 (q:Int)|5=>v=.pointer (some ⟨bb,o+q*3,none⟩)|6=>v=.pointer (some ⟨bb,o+q*3,none⟩)|7=>v=.int .i64 p.v|8=>v=.pointer (some ⟨w0.heap.size,0,none⟩)|9=>v=.slice (some ⟨bb,o,none⟩) n c|10=>v=.int .i64 (q:Int)|11=>v=.pointer (some ⟨bb,o+q*3,none⟩)|12=>v=.pointer (some ⟨bb,o+q*3+1,none⟩)|13=>v=.agg #[.bool p.s,.slice p.B p.m p.d]|14=>v=.agg #[.bool s2,.slice B2 m2 d2]|15=>∃s B m d,v=.agg #[.bool s,.slice B m d]/\Au w (.agg #[.bool s,.slice B m d]) (p.Z*N) (k+kn)|16=>∃s B m d,v=.agg #[.int .i64 p.v,.bool s,.slice B m d]/\Au w (.agg #[.bool s,.slice B m d]) (p.Z*N) (k+kn)|17=>∃gs s B m d,v=.slice (some ⟨gs,0,none⟩) 1 1/\wr.heap.size<=gs/\AK 47 w gs #[.int .i64 p.v,.bool s,.slice B m d]/\Au w (.agg #[.bool s,.slice B m d]) (p.Z*N) (k+kn)|18=>True|19=>v=.pointer (some ⟨w1.heap.size,0,none⟩)|_=>True) (GA 18 wr (fun v w=>∃p2:PV,p2.v=p.v/\p2.Z=(p.Z*N)/\AF 47 3 w W1.heap.size v (rs++[p2]).length (flat (rs++[p2]))/\Au w p2.num p2.Z (k+kn)/\Tg (Value.slice A4 q c4).ownBlock wr w)) ?_ (fun _=>GA.start _ (Ap wr 1)) ?_ ?_
    · intro j v w w' hT h;match j,h with
      |0,h=>exact h
      |1,h=>exact h
      |2,h=>exact h
      |3,h=>exact h
      |4,h=>exact h
      |5,h=>exact h
      |6,h=>exact h
      |7,h=>exact h
      |8,h=>exact h
      |9,h=>exact h
      |10,h=>exact h
      |11,h=>exact h
      |12,h=>exact h
      |13,h=>exact h
      |14,h=>exact h
      |15,h=>exact (by obtain ⟨s,B,m,d,e,z⟩:=h;exact ⟨s,B,m,d,e,z.kp hT.2⟩)
      |16,h=>exact (by obtain ⟨s,B,m,d,e,z⟩:=h;exact ⟨s,B,m,d,e,z.kp hT.2⟩)
      |17,h=>exact (by obtain ⟨gs,s,B,m,d,e,h1,h2,h3⟩:=h;exact ⟨gs,s,B,m,d,e,h1,h2.grown hT.1 (fun e=>by have:=HRW.out gs e.symm;omega),h3.kp hT.2⟩)
      |18,h=>exact trivial
      |19,h=>exact h
      |j+20,h=>trivial
    · refine ⟨?_,?_,?_,?_,?_,?_,?_,?_,?_,?_,?_,?_,?_,?_,?_,?_,?_,?_,?_,?_,trivial⟩
      · intro l9 σ w a hin hout hl hla hs hc hp hG hF;refine Ad.none rfl ?_;have e5:a.tmps.getD 5 undef=.pointer (some ⟨w1.heap.size,0,none⟩):=hout 5 (Ae (by kernel_rfl));refine Does.val (.pointer (some ⟨w1.heap.size,0,none⟩)) (w':=w) ?_ ⟨Tg.refl _ _,rfl,hG.same (by decide)⟩;simp only[Array.getD_eq_getD_getElem?]at e5;go_simp
      · intro l9 σ w a hin hout hl hla hs hc hp hG hF;refine Ad.none rfl ?_;have e19:a.tmps.getD 19 undef=.pointer (some ⟨w1.heap.size,0,none⟩):=Am (hin 0 19) rfl (hp ⟨0,.data⟩ (by simp) rfl) (hF 0);have CC:=SOF.out w (hG.1 (Ai (k:=18) hc hl (by kernel_rfl)));obtain ⟨C0,D0,D1,E0,E1,E2,F0⟩:=CC;refine Does.val (.slice A4 q c4) (w':=w) ?_ ⟨Tg.refl _ _,rfl,hG.same (by decide)⟩;go_simp
      · intro l9 σ w a hin hout hl hla hs hc hp hG hF;refine Ad.none rfl ?_;have e2:a.tmps.getD 2 undef=.pointer (some ⟨w0.heap.size,0,none⟩):=hout 2 (Ae (by kernel_rfl));refine Does.val (.pointer (some ⟨w0.heap.size,0,none⟩)) (w':=w) ?_ ⟨Tg.refl _ _,rfl,hG.same (by decide)⟩;simp only[Array.getD_eq_getD_getElem?]at e2;go_simp
      · intro l9 σ w a hin hout hl hla hs hc hp hG hF;refine Ad.none rfl ?_;have e21:a.tmps.getD 21 undef=.pointer (some ⟨w0.heap.size,0,none⟩):=Am (hin 2 21) rfl (hp ⟨2,.data⟩ (by simp) rfl) (hF 2);have CC:=SOF.out w (hG.1 (Ai (k:=18) hc (Ai (k:=17) hc (Ai (k:=16) hc (Ai (k:=7) hc (Ai (k:=6) hc (Ai (k:=5) hc hl (by kernel_rfl)) (by kernel_rfl)) (by kernel_rfl)) (by kernel_rfl)) (by kernel_rfl)) (by kernel_rfl)));obtain ⟨C0,D0,D1,E0,E1,E2,F0⟩:=CC
        refine Does.val (.slice (some ⟨bb,o,none⟩) n c) (w':=w) ?_ ⟨Tg.refl _ _,rfl,hG.same (by decide)⟩;go_simp
      · intro l9 σ w a hin hout hl hla hs hc hp hG hF;refine Ad.none rfl ?_;have e6:a.tmps.getD 6 undef=.int .i64 (q:Int):=hout 6 (Ae (by kernel_rfl));refine Does.val (.int .i64 (q:Int)) (w':=w) ?_ ⟨Tg.refl _ _,rfl,hG.same (by decide)⟩;simp only[Array.getD_eq_getD_getElem?]at e6;go_simp
      · intro l9 σ w a hin hout hl hla hs hc hp hG hF;refine Ad.none rfl ?_;have e22:a.tmps.getD 22 undef=.slice (some ⟨bb,o,none⟩) n c:=Am (hin 3 22) rfl (hp ⟨3,.data⟩ (by simp) rfl) (hF 3);have e23:a.tmps.getD 23 undef=.int .i64 (q:Int):=Am (hin 4 23) rfl (hp ⟨4,.data⟩ (by simp) rfl) (hF 4);refine Does.val (.pointer (some ⟨bb,o+q*3,none⟩)) (w':=w) ?_ ⟨Tg.refl _ _,rfl,hG.same (by decide)⟩;simp only[Array.getD_eq_getD_getElem?]at e22 e23;go_simp
        (try (intro hh;exfalso;omega))
      · intro l9 σ w a hin hout hl hla hs hc hp hG hF;refine Ad.none rfl ?_;have e24:a.tmps.getD 24 undef=.pointer (some ⟨bb,o+q*3,none⟩):=Am (hin 5 24) rfl (hp ⟨5,.data⟩ (by simp) rfl) (hF 5);refine Does.val (.pointer (some ⟨bb,o+q*3,none⟩)) (w':=w) ?_ ⟨Tg.refl _ _,rfl,hG.same (by decide)⟩;simp only[Array.getD_eq_getD_getElem?]at e24;go_simp
      · intro l9 σ w a hin hout hl hla hs hc hp hG hF;refine Ad.none rfl ?_;have e25:a.tmps.getD 25 undef=.pointer (some ⟨bb,o+q*3,none⟩):=Am (hin 6 25) rfl (hp ⟨6,.data⟩ (by simp) rfl) (hF 6);have CC:=SOF.out w (hG.1 (Ai (k:=18) hc (Ai (k:=17) hc (Ai (k:=16) hc hl (by kernel_rfl)) (by kernel_rfl)) (by kernel_rfl)));obtain ⟨C0,D0,D1,E0,E1,E2,F0⟩:=CC;refine Does.val (.int .i64 p.v) (w':=w) ?_ ⟨Tg.refl _ _,rfl,hG.same (by decide)⟩;go_simp
      · intro l9 σ w a hin hout hl hla hs hc hp hG hF;refine Ad.none rfl ?_;have e2:a.tmps.getD 2 undef=.pointer (some ⟨w0.heap.size,0,none⟩):=hout 2 (Ae (by kernel_rfl));refine Does.val (.pointer (some ⟨w0.heap.size,0,none⟩)) (w':=w) ?_ ⟨Tg.refl _ _,rfl,hG.same (by decide)⟩;simp only[Array.getD_eq_getD_getElem?]at e2;go_simp
      · intro l9 σ w a hin hout hl hla hs hc hp hG hF;refine Ad.none rfl ?_;have e27:a.tmps.getD 27 undef=.pointer (some ⟨w0.heap.size,0,none⟩):=Am (hin 8 27) rfl (hp ⟨8,.data⟩ (by simp) rfl) (hF 8);have CC:=SOF.out w (hG.1 (Ai (k:=18) hc (Ai (k:=15) hc (Ai (k:=13) hc (Ai (k:=12) hc (Ai (k:=11) hc hl (by kernel_rfl)) (by kernel_rfl)) (by kernel_rfl)) (by kernel_rfl)) (by kernel_rfl)));obtain ⟨C0,D0,D1,E0,E1,E2,F0⟩:=CC
        refine Does.val (.slice (some ⟨bb,o,none⟩) n c) (w':=w) ?_ ⟨Tg.refl _ _,rfl,hG.same (by decide)⟩;go_simp
      · intro l9 σ w a hin hout hl hla hs hc hp hG hF;refine Ad.none rfl ?_;have e6:a.tmps.getD 6 undef=.int .i64 (q:Int):=hout 6 (Ae (by kernel_rfl));refine Does.val (.int .i64 (q:Int)) (w':=w) ?_ ⟨Tg.refl _ _,rfl,hG.same (by decide)⟩;simp only[Array.getD_eq_getD_getElem?]at e6;go_simp
      · intro l9 σ w a hin hout hl hla hs hc hp hG hF;refine Ad.none rfl ?_;have e28:a.tmps.getD 28 undef=.slice (some ⟨bb,o,none⟩) n c:=Am (hin 9 28) rfl (hp ⟨9,.data⟩ (by simp) rfl) (hF 9);have e29:a.tmps.getD 29 undef=.int .i64 (q:Int):=Am (hin 10 29) rfl (hp ⟨10,.data⟩ (by simp) rfl) (hF 10);refine Does.val (.pointer (some ⟨bb,o+q*3,none⟩)) (w':=w) ?_ ⟨Tg.refl _ _,rfl,hG.same (by decide)⟩;simp only[Array.getD_eq_getD_getElem?]at e28 e29;go_simp
        (try (intro hh;exfalso;omega))
      · intro l9 σ w a hin hout hl hla hs hc hp hG hF;refine Ad.none rfl ?_;have e30:a.tmps.getD 30 undef=.pointer (some ⟨bb,o+q*3,none⟩):=Am (hin 11 30) rfl (hp ⟨11,.data⟩ (by simp) rfl) (hF 11);refine Does.val (.pointer (some ⟨bb,o+q*3+1,none⟩)) (w':=w) ?_ ⟨Tg.refl _ _,rfl,hG.same (by decide)⟩;simp only[Array.getD_eq_getD_getElem?]at e30;go_simp
      · intro l9 σ w a hin hout hl hla hs hc hp hG hF;refine Ad.none rfl ?_;have e31:a.tmps.getD 31 undef=.pointer (some ⟨bb,o+q*3+1,none⟩):=Am (hin 12 31) rfl (hp ⟨12,.data⟩ (by simp) rfl) (hF 12);have CC:=SOF.out w (hG.1 (Ai (k:=18) hc (Ai (k:=15) hc hl (by kernel_rfl)) (by kernel_rfl)));obtain ⟨C0,D0,D1,E0,E1,E2,F0⟩:=CC;refine Does.val (.agg #[.bool p.s,.slice p.B p.m p.d]) (w':=w) ?_ ⟨Tg.refl _ _,rfl,hG.same (by decide)⟩;go_simp
      · intro l9 σ w a hin hout hl hla hs hc hp hG hF;refine Ad.none rfl ?_;have e3:a.tmps.getD 3 undef=.pointer (some ⟨w0.heap.size+1,0,none⟩):=hout 3 (Ae (by kernel_rfl));have CC:=SOF.out w (hG.1 (Ai (k:=18) hc (Ai (k:=15) hc hl (by kernel_rfl)) (by kernel_rfl)));obtain ⟨C0,D0,D1,E0,E1,E2,F0⟩:=CC;refine Does.val (.agg #[.bool s2,.slice B2 m2 d2]) (w':=w) ?_ ⟨Tg.refl _ _,rfl,hG.same (by decide)⟩;go_simp
      · intro l9 σ w a hin hout hl hla hs hc hp hG hF;refine Ad.none rfl ?_;have e32:a.tmps.getD 32 undef=.agg #[.bool p.s,.slice p.B p.m p.d]:=Am (hin 13 32) rfl (hp ⟨13,.data⟩ (by simp) rfl) (hF 13);have e33:a.tmps.getD 33 undef=.agg #[.bool s2,.slice B2 m2 d2]:=Am (hin 14 33) rfl (hp ⟨14,.data⟩ (by simp) rfl) (hF 14);refine Does.call ?_ (HF6.out w (hG.1 (Ai (k:=18) hc hl (by kernel_rfl)))) ?_
        · go_simp;(try exact eg _ _)
        · rintro e w' ⟨v,rfl,z,hb⟩;exact ⟨_,rfl,Tg.of_below hb,(by obtain ⟨s,B,m,d,rfl⟩:=z.form;exact ⟨s,B,m,d,rfl,z⟩),hG.call (by decide) (Ai (k:=18) hc hl (by kernel_rfl)) hb⟩
      · intro l9 σ w a hin hout hl hla hs hc hp hG hF;refine Ad.none rfl ?_;have e26:a.tmps.getD 26 undef=.int .i64 p.v:=Am (hin 7 26) rfl (hp ⟨7,.data⟩ (by simp) rfl) (hF 7);have e34:=hin 15 34 rfl (hp ⟨15,.data⟩ (by simp) rfl);obtain ⟨s15,B15,m15,d15,ev15,z15⟩:=hF 15 (hp ⟨15,.data⟩ (by simp) rfl);rw[ev15]at e34;refine Does.val (.agg #[.int .i64 p.v,.bool s15,.slice B15 m15 d15]) (w':=w) ?_ ⟨Tg.refl _ _,⟨s15,B15,m15,d15,rfl,z15⟩,hG.same (by decide)⟩
        simp only[Array.getD_eq_getD_getElem?]at e26 e34;go_simp
      · intro l9 σ w a hin hout hl hla hs hc hp hG hF;refine Ad.none rfl ?_;have e35:=hin 16 35 rfl (hp ⟨16,.data⟩ (by simp) rfl);obtain ⟨s16,B16,m16,d16,ev16,z16⟩:=hF 16 (hp ⟨16,.data⟩ (by simp) rfl);rw[ev16]at e35
        refine Does.val (.slice (some ⟨w.heap.size,0,none⟩) 1 1) (w':=w.alloc (.cells #[.int .i64 p.v,.bool s16,.slice B16 m16 d16] 47)) ?_ ⟨Tg.of_below (Af w _),⟨w.heap.size,s16,B16,m16,d16,rfl,(hG.1 (Ai (k:=18) hc hl (by kernel_rfl))).size,AK.new _ _ _,z16.alloc _⟩,hG.call (by decide) (Ai (k:=18) hc hl (by kernel_rfl)) (Af w _)⟩;simp only[Array.getD_eq_getD_getElem?]at e35;go_simp
      · intro l9 σ w a hin hout hl hla hs hc hp hG hF;refine Ad.none rfl ?_;have e20:a.tmps.getD 20 undef=.slice A4 q c4:=Am (hin 1 20) rfl (hp ⟨1,.data⟩ (by simp) rfl) (hF 1);have e36:=hin 17 36 rfl (hp ⟨17,.data⟩ (by simp) rfl);obtain ⟨g17,s17,B17,m17,d17,ev17,hg17,x17,z17⟩:=hF 17 (hp ⟨17,.data⟩ (by simp) rfl);rw[ev17]at e36;have hl0:=hl;have hB:=hG.1 hl;have hl:=HL.out.below hB;obtain ⟨i0,hi0,hz0,hz1,hz2⟩:=info_parts CR
        obtain ⟨v',w',hr,h2,h3⟩:=Cg (P:=Tryz.prog) w W1.heap.size 34 34 47 i0 _ 3 40 Tryz.underlying34 hi0 hz0 hz1 hz2 rfl (by decide) BK (.slice A4 q c4) q (flat rs) hl ⟨g17,0,none⟩ 1 1 (flat [⟨p.v,s17,B17,m17,d17,(p.Z*N)⟩]) rfl (fun jj u hu=>by rw[addr_add,Nat.zero_add];exact x17.cell jj u (by simpa[flat,PV.cells] using hu)) (Fc _) (Ew _) (by unfold maxLen;omega) (by omega) (Nat.le_trans HWS.out hB.size);have hk:=hl.kp h3
        refine Does.val v' (w':=w') ?_ ⟨⟨h3,hk⟩,trivial,GA.on_ hl0 (by rw[hs];decide) ⟨⟨p.v,s17,B17,m17,d17,(p.Z*N)⟩,rfl,rfl,?_,z17.kp hk,⟨World.grownBy.trans2 hB h3,(Kp.of_below hB).trans hk⟩⟩⟩
        · exact Bn rfl e20 e36 hr
        · rw[Do,List.length_append,HRL.out];exact h2
      · intro l9 σ w a hin hout hl hla hs hc hp hG hF;refine Ad.none rfl ?_;have e5:a.tmps.getD 5 undef=.pointer (some ⟨w1.heap.size,0,none⟩):=hout 5 (Ae (by kernel_rfl));refine Does.val (.pointer (some ⟨w1.heap.size,0,none⟩)) (w':=w) ?_ ⟨Tg.refl _ _,rfl,hG.same (by decide)⟩;simp only[Array.getD_eq_getD_getElem?]at e5;go_simp
    · intro o ho;injection ho with ho;subst ho
      intro l9 σ w a hall hin hout hG hF;refine Ad.none rfl ?_;have e38:a.tmps.getD 38 undef=.pointer (some ⟨w1.heap.size,0,none⟩):=(hin 19 38 rfl (by decide)).trans (hF 19 (by decide));have e37:=hin 18 37 rfl (by decide);have z18:=hF 18 (by decide);obtain ⟨p2,e1,e2,l2,z2,tg⟩:=hG.2 (hall 18 (by decide));have hlr:=HL.out;have x9:=HXG.out.grown tg.1 (fun e=>hlr.offTerm HXG.out e.symm);obtain ⟨A2,c2,hv2,-,-,-⟩:=l2.len;have hlen2:(rs++[p2]).length=q+1:=(by simp[HRL.out])
      rw[hlen2]at hv2;rw[hv2]at e37 l2;have u0:=x9.c0;have u1:=x9.fr 0;refine Does.skip (w':=w.setCell ⟨w1.heap.size,0,none⟩ (.slice A2 (q+1) c2)) (by go_simp) ?_;have HE2:=Ac (BM.step (f:=fun z=>z*N) HXG.out hlr HRL.out HLI.out HRZ.out HZK.out HOW.out HKW.out HLp.out e1 e2 l2 z2 tg)
      rw[show fin _ σ undef _=(Act.put (Act.put (Act.put (Act.put (Act.put (Act.put (Act.put (Act.put (Act.put (Act.put (Act.put (Act.put (Act.put (Act.put (Act.put (Act.put (Act.put (Act.put (Act.put (Act.put (Act.put _ (some 19) (σ 0)) (some 20) (σ 1)) (some 21) (σ 2)) (some 22) (σ 3)) (some 23) (σ 4)) (some 24) (σ 5)) (some 25) (σ 6)) (some 26) (σ 7)) (some 27) (σ 8)) (some 28) (σ 9)) (some 29) (σ 10)) (some 30) (σ 11)) (some 31) (σ 12)) (some 32) (σ 13)) (some 33) (σ 14)) (some 34) (σ 15)) (some 35) (σ 16)) (some 36) (σ 17)) (some 37) (σ 18)) (some 38) (σ 19)) none undef) from (Bt hall).trans rfl]
      simp only[Act.put,List.setIfInBounds_toArray,List.set_cons_zero,List.set_cons_succ]
      generalize σ 0=tt0;generalize σ 1=tt1;generalize σ 2=tt2;generalize σ 3=tt3;generalize σ 4=tt4;generalize σ 5=tt5;generalize σ 6=tt6;generalize σ 7=tt7;generalize σ 8=tt8;generalize σ 9=tt9;generalize σ 10=tt10;generalize σ 11=tt11;generalize σ 12=tt12;generalize σ 13=tt13;generalize σ 14=tt14;generalize σ 15=tt15;generalize σ 16=tt16;generalize σ 17=tt17;generalize σ 18=tt18 at *;generalize σ 19=tt19;clear hF hG hall hin hout SOF HF6 HRW l2 z2 tg x9 u0 u1 hlen2
      generalize w.setCell ⟨w1.heap.size,0,none⟩ (.slice A2 (q+1) c2)=w8 at *;go_wp2_with fail;go_roundw
      case rel=>exact ⟨q+1,by omega,by go_num,HE2⟩
      case measure=>simp[intOf]<;>omega
  · obtain rfl:q=n:=(by omega);have hL2:=Ac (show Cl rs=L.map (fun p=>(p.1,p.2*N)) by
      rw[hlin,List.take_of_length_le (by have:=HLN.out;omega)])
    have hR:=XR.out.other oW (by have:=HG8.out;omega);obtain ⟨A',c',hv',hc1',hc2',-⟩:=lr.len;injection hv' with e1' e2' e3'
    subst e1' e3';have HT:=Ac (show D9 wr (.agg #[.slice A4 q c4,.bool s4,.slice B4 m4 d4]) (L.map fun p=>(p.1,p.2*N)) (K*N) (k+kn) from ⟨A4,q,c4,s4,B4,m4,d4,rfl,by rw[<-hL2.out];exact ⟨rs,lr.parts hrl (fun p hp=>(hrz p hp).in_),rfl⟩,hc1',hc2',zK.in_⟩);have hpl:=DN _ _ _ _ _ HT.out (by rw[List.length_map];exact hl) (by omega);rw[List.length_map]at hpl;have HB:=Ac hT;have x0:=xg.c0;have x1:=xg.c1;have x2:=xg.c2;clear lr hrl hlin hrz zK oW kW HR xg hT;go_wp2_with fail
    refine hpl.mono ?_;rintro e w5 ⟨v5,rfl,r5,b5⟩;obtain ⟨A5,n5,c5,s5,B5,m5,d5,rfl⟩:=r5.form;have hR5:=hR.next b5;go_wp2_with (with_reducible refine Be rfl _ _ rfl (w0.heap.size+1+1) _ _ _ _ _ _ _ rfl rfl _ _ _ hR5 ?_;intro w7 k7 ho7);refine BJ rfl rfl k7 rfl ?_;exact ⟨_,rfl,r5.only hR5 ho7,AE (HB.out.next b5) (by omega) ho7⟩
end
section
open Go.RowKit
open Tm
end
section
open Go.RowKit
open Tm
theorem AK.ints {T:TypeId} {w:World} {g:Nat} {xs:List Int} (h:AK T w g (ints xs).toArray):GW w (some ⟨g,0,none⟩) xs.length xs:=
 ⟨rfl,fun _=>⟨g,0,rfl,fun j u hu=>by rw[Nat.zero_add];exact h.cell j u (by simpa using hu)⟩⟩
theorem GW.none (w:World):GW w none 0 []:=⟨rfl,fun h=>absurd h (by omega)⟩
def O1 (L:List (Int×Int)) (n:Nat) (K:Int) (k:Nat) (w:World) (e:Ending) (w':World):Prop:=
 ∃A c s B m d,e=.returned (.agg #[.slice A n c,.bool s,.slice B m d])/\Hq w' w.heap.size (.slice A n c) n L k/\n<=c/\c<=9223372036854775807/\Au w' (.agg #[.bool s,.slice B m d]) K k/\Below w.heap.size w w'
theorem Hq.res {w:World} {base n c k:Nat} {A:Option Addr} {L:List (Int×Int)} (h:Hq w base (.slice A n c) n L k):CY w A n L k:=by obtain ⟨rs,h1,h2,h3,h4⟩:=h;exact ⟨rs,h1.parts h2 (fun p hp=>(h4 p hp).in_),h3,h4⟩
theorem O1.res {L:List (Int×Int)} {n k:Nat} {K:Int} {w:World} {e:Ending} {w':World} (h:O1 L n K k w e w'):BG L K k w e w':=by obtain ⟨A,c,s,B,m,d,rfl,h1,h2,h3,h4,h5⟩:=h;exact ⟨_,rfl,⟨A,n,c,s,B,m,d,rfl,h1.res,h2,h3,h4⟩,h5⟩
def F7 (xs:List Int):List (Int×Int):=xs.mapIdx fun i x=>((i:Int),x)
theorem TS (xs:List Int) (q:Nat) (x:Int) (h:xs[q]?=some x):(F7 xs)[q]?=some ((q:Int),x):=by simp[F7,h]
theorem O2 (xs:List Int):(F7 xs).length=xs.length:=by simp[F7]
end
section
open Go.RowKit
open Tm
theorem Aw.ofEq {w:World} {v:Value} {L M:List (Int×Int)} {K J:Int} {k:Nat} (h:Aw w v L K k) (e:L=M) (f:K=J):Aw w v M J k:=e▸f▸h
end
end Go.Proofs.YtmedjkhmadfjlaaGreat
