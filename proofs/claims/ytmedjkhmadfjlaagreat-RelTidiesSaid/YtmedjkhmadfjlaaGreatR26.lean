/- Texts of one seat, put together: DecMath Scale Text DecB TextN RefMath RefText TextZ TText RelText RContent First TermsIn PutAll Put. -/
import Derived.Test.YtmedjkhmadfjlaaGreatR01
import Derived.Test.YtmedjkhmadfjlaaGreatR07
import Derived.Lib.Strings
import Derived.Test.YtmedjkhmadfjlaaGreatR25
import Derived.Laws.BytesArg
import Derived.Test.YtmedjkhmadfjlaaGreatR08
import Derived.Test.YtmedjkhmadfjlaaGreatR04
import Derived.Test.YtmedjkhmadfjlaaGreatR12
import Derived.Test.YtmedjkhmadfjlaaGreatR22
import Derived.Test.YtmedjkhmadfjlaaGreatR20
import Derived.Test.YtmedjkhmadfjlaaGreatR19
import Derived.Maps.OwnSet
import Derived.Test.YtmedjkhmadfjlaaGreatR13
import Derived.Test.YtmedjkhmadfjlaaGreatR18
set_option linter.unusedVariables false
set_option linter.unusedSimpArgs false
set_option maxRecDepth 100000
set_option maxHeartbeats 16000000
namespace Go.Proofs.YtmedjkhmadfjlaaGreat.Dec
section
def low (N:Nat):Nat->List Nat
 |0=>[]
 |k+1=>(48+N/10^k%10)::low N k
def Wt (N k:Nat):Prop:=1<=k/\N<10^k/\(k=1\/10^(k-1)<=N)
def upto (d:Nat->Nat):Nat->Nat
 |0=>0
 |i+1=>upto d i*10+d i
theorem E8 (d:Nat->Nat) (i:Nat) (h:∀j,j<i->d j<=9):upto d i<10^i:=by
 induction i with
 |zero=>simp[upto]
 |succ i ih=> have h1:=ih (fun j hj=>h j (by omega));have h2:=h i (by omega);rw[upto,Nat.pow_succ];omega
end
end Go.Proofs.YtmedjkhmadfjlaaGreat.Dec
namespace Go.Proofs.YtmedjkhmadfjlaaGreat
section
open Go.RowKit
open Limb (limb AQ upto upto_succ Az AC)
def Wu (g f p:Nat) (zs:List Nat) (w:World) (k c:Nat) (wr:World):Prop:=
 ∃cur:List Nat,cur.length=zs.length/\Limb.Ok cur/\Row wr g cur/\AA g w wr/\(∀t,k<=t->limb cur t=limb zs t)/\upto cur k+4294967296^k*c=upto zs k*f+p
def Wm (g f p:Nat) (zs:List Nat) (w:World) (e:Ending) (w':World):Prop:=
 ∃(cur:List Nat) (cy:Nat),e=.returned (.tuple #[])/\cur.length=zs.length/\Limb.Ok cur/\Row w' g cur/\AA g w w'/\Hid (Limb.val cur+4294967296^zs.length*cy=Limb.val zs*f+p)
def Sz (s:ByteArray) (i:Nat):Nat:=if h:i<s.size then (s[i]'h).toNat else 0
def Wn (s:ByteArray):Prop:=∀i,i<s.size->48<=Sz s i/\Sz s i<=57
end
section
open Go.RowKit
open Limb (limb AQ upto upto_succ Az AC)
def Wv (gT T N d:Nat) (wr:World):Prop:=∃bs:List Nat,bs.length=T/\d<=T/\Wl wr gT bs/\bs.drop (T-d)=Dec.low N d
end
end Go.Proofs.YtmedjkhmadfjlaaGreat
namespace Go.Proofs.YtmedjkhmadfjlaaGreat.Dec
section
def dlen (N:Nat):Nat:=if h:N<10 then 1 else dlen (N/10)+1
termination_by N
decreasing_by omega
def str (xs:List Nat):ByteArray:=strOfNums (xs.map fun (x:Nat)=>(x:Int))
def text (N:Nat):ByteArray:=str (low N (dlen N))
end
end Go.Proofs.YtmedjkhmadfjlaaGreat.Dec
namespace Go.Proofs.YtmedjkhmadfjlaaGreat
section
open Go.RowKit
open Limb (limb AQ upto upto_succ Az AC)
def VE (N:Nat) (w:World) (e:Ending) (w':World):Prop:=e=.returned (.string (Dec.text N))/\Below w.heap.size w w'
end
section

end
section
open Go.RowKit
open Limb (limb AQ upto upto_succ Az AC)
def Ww (X m base:Nat) (v:Value) (w:World) (k z:Nat) (wr:World):Prop:=
 ∃cur:List Nat,cur.length=m/\KE wr base v cur/\Below base w wr/\z<10/\Limb.val ((Limb.canon X).drop k)=10*Limb.val (cur.drop k)+z
def WN (N:Nat) (w:World) (i k:Nat) (va vb:Value) (wr:World):Prop:=
 ∃(X m c:Nat) (B:Option Addr),va=.slice B m c/\vb=.string (Dec.str (Dec.low N i))/\X=N/10^i/\k=X+(if i=0 then 1 else 0)/\i<=Dec.dlen N/\Av wr B m (Limb.canon X)/\m<=c/\c<=9223372036854775807/\m<=1099511627776/\Below w.heap.size w wr
end
section
open Go.RowKit
def VF (Z:Int):ByteArray:=if Z<0 then ⟨#[45]⟩++Dec.text Z.natAbs else Dec.text Z.natAbs
def Vs (Z:Int) (w:World) (e:Ending) (w':World):Prop:=e=.returned (.string (VF Z))/\Below w.heap.size w w'
end
section
open Go.Shelf Go.RowKit
open Tm
def dg (n:Nat):List UInt8:=(Dec.text n).data.toList
def WK (c:Int):List UInt8:=if dg c.natAbs=[49] then [] else dg c.natAbs++[42]
def S0 (nm:Int->List UInt8) (out:List UInt8) (p:Int×Int):List UInt8:=out++U5 (decide (0<out.length)) (decide (p.2<0))++WK p.2++nm p.1
def Oz (nm:Int->List UInt8) (L:List (Int×Int)):List UInt8:=L.foldl (S0 nm) []
def Wx (nm:Int->List UInt8) (L:List (Int×Int)) (K:Int):List UInt8:=if K≠0\/L.length=0 then Oz nm L++U5 (decide (0<(Oz nm L).length)) (decide (K<0))++dg K.natAbs else Oz nm L
end
section
open Go.RowKit
open Tm
def Wo (e:Bool):ByteArray:=if e then ⟨#[32,61,32,48]⟩ else ⟨#[32,62,61,32,48]⟩
theorem Kf (v u:Value) (L:List (Int×Int)) (K:Int) (e:Bool) (k ku:Nat) (w0:World) (hv:DC w0 v L K e k) (hu:DC w0 u L K e ku) (hl:L.length<=1099511):Calls Tryz.prog 18 #[v,u] w0 (Ek w0):=by
 obtain ⟨A,n,c,s,B,m,d,rfl,ht⟩:=hv;obtain ⟨A2,n2,c2,s2,B2,m2,d2,rfl,hu1⟩:=hu;obtain ⟨z0,z1,z2,-⟩:=Bi 42 42 w0 #[.slice A n c,.bool s,.slice B m d,.bool e] #[.slice A2 n2 c2,.bool s2,.slice B2 m2 d2,.bool e];have hc:=GO _ _ L K k ku _ (ht.below z2) (hu1.below z2) hl;have x0:=z0.r0;have x1:=z0.r1;have x2:=z0.r2;have x3:=z0.r3;have y0:=z1.r0;have y1:=z1.r1;have y2:=z1.r2;have y3:=z1.r3;have he:(e==e)=true:=by simp
 go_enter Tryz.func18,Tryz.ntmps18;go_wp2_with fail;refine hc.mono ?_;rintro en w1 ⟨rfl,b1⟩;go_wp2_with fail;go_ret
 exact ⟨rfl,z2.next b1⟩
end
section
open Go.RowKit
open Tm
theorem GW.keepI {w w':World} {A:Option Addr} {n g q d:Nat} {xs:List Int} {C:Option Addr} {s:Bool} (h:GW w A n xs) (hb:AH w g #[.bool s,.slice C q d]) (ho:AA g w w'):GW w' A n xs:=by
 refine ⟨h.1,fun hn=>?_⟩;obtain ⟨b,o,e,hc⟩:=h.2 hn;refine ⟨b,o,e,fun j u hu=>?_⟩;have h1:=hc j u hu;refine ho.gb.cell h1 (fun hh=>?_);injection hh with hh
 have hh':b=g:=hh;subst hh';have hu2:∃x,u=.int .i64 x:=by obtain ⟨x,-,hx⟩:=List.mem_map.1 (List.mem_of_getElem? hu);exact ⟨x,hx.symm⟩
 obtain ⟨x,rfl⟩:=hu2;rw[cell_of_row w b _ _ _ _ hb]at h1;match o+j,h1 with
 |0,h1=>simp at h1
 |1,h1=>simp at h1
 |i+2,h1=>simp at h1
theorem Ht (v:Value) (L:List (Int×Int)) (K:Int) (k:Nat) (w0:World) (hv:D9 w0 v L K k) (hl:L.length<=1099511) (hk:k<=109951162):Calls Tryz.prog 81 #[v] w0 (Cn (Ak L) (k+L.length) w0):=by
 have hv0:=hv;obtain ⟨A,n,c,s,B,m,d,rfl,-⟩:=hv;obtain ⟨z0,z1,z2,z3,z4⟩:=Cc 40 38 38 w0 #[.slice A n c,.bool s,.slice B m d] #[.bool false,.slice none 0 0] #[.bool false,.slice none 0 0];have hva:=Ih _ L K k _ (hv0.below z3) hl (by omega);have x0:=z0.c0;have x1:=z0.c1;have x2:=z0.c2;go_enter Tryz.func81,Tryz.ntmps81;go_wp2_with fail;refine hva.mono ?_;rintro e W1 ⟨AV,cV,rfl,iv,hv1,hv2,b1⟩;have IV:=Ac iv;have HT1:=Ac (z3.next b1)
 have hW1:w0.heap.size+1+1+1<=W1.heap.size:=by have:=b1.size;omega
 have Q0:=Ac (z0.next b1);have HR1:=Ac (z1.next b1);have HG:=Ac (z2.next b1);have HV0:=Ac hv0;have HS:=Ac (show Gl (w0.heap.size+1+1) W1 (norm L) (k+L.length) 0 W1 from ⟨false,none,0,0,z2.next b1,Au.zero _ _,AA.refl _ _⟩);have hm1:(vars L).length<=1099511:=by have:=FT L;omega
 clear x0 x1 x2 hva z0 z1 z2 z3 z4 b1 iv hv0;generalize hm:(vars L).length=m1 at *;have HM1:=Ac hm;clear hm;go_wp2_with fail;go_loopw [5] (fun i wr=>∃q:Nat,q<=m1/\i=.int .i64 q/\Hid (Gl (w0.heap.size+1+1) W1 (norm L) (k+L.length) q wr)) (fun i _=>m1-(intOf i).toNat)
 case atStart=>exact ⟨0,Nat.zero_le _,rfl,HS⟩
 case round=>
  obtain ⟨q,hq,rfl,HR⟩:=hrel;obtain ⟨s5,A5,n5,c5,b5,zz5,hB⟩:=HR.out;have hT:Below w0.heap.size w0 wr:=HT1.out.trans (hB.below (by omega) (by omega));by_cases hqn:q<m1
  · obtain ⟨bb,o,x,rfl,hlt,hx,c0⟩:=(IV.out.keepI HG.out hB).at_ hqn;have hLp:=JX L q x hx;have HC:=Ac (show Mh (CS 0 ((norm L).take q):Nat) (AB L x)=(CS 0 ((norm L).take (q+1)):Nat) by unfold Mh;rw[FU 0 _ q _ _ hLp,Int.natAbs_natCast]);have HB5:=Ac b5;have HZ5:=Ac zz5;have HTT:=Ac hT;have HOB:=Ac hB;have zt:=AK.other Q0.out hB (by omega);generalize ((CS 0 ((norm L).take q):Nat):Int)=Y at *
    have HM:=Ac (fun W (h:Below wr.heap.size wr W)=>Gk _ L K x k W (HV0.out.below (HTT.out.next h)) hl (by omega))
    have SOF:=Ac (show ∀W,Below wr.heap.size wr W->(W.cell? ⟨w0.heap.size+1+1,0,none⟩=some (.bool s5)/\W.cell? ⟨w0.heap.size+1+1,1,none⟩=some (.slice A5 n5 c5)/\W.cell? ⟨w0.heap.size,0,none⟩=some (.slice A n c)/\W.cell? ⟨w0.heap.size,1,none⟩=some (.bool s)/\W.cell? ⟨w0.heap.size,2,none⟩=some (.slice B m d)/\W.cell? ⟨bb,o+q,none⟩=some (.int .i64 x)) from fun W h=>⟨(AH.next HB5.out h).c0,(AH.next HB5.out h).c1,(zt.next h).c0,(zt.next h).c1,(zt.next h).c2,(h.cell (p:=⟨bb,o+q,none⟩) hlt).trans c0⟩)
    clear b5 zz5 hT hB zt HR hx hLp c0;go_wp2_with fail
    refine AW (by kernel_rfl) (by kernel_rfl) (by kernel_rfl) (by kernel_rfl) (fun w w'=>Below w.heap.size w w') (fun j v w=>match j with|0=>v=.agg #[.bool s5,.slice A5 n5 c5]|1=>v=.agg #[.slice A n c,.bool s,.slice B m d]|2=>v=.slice (some ⟨bb,o,none⟩) m1 cV|3=>v=.int .i64 (q:Int)|4=>v=.pointer (some ⟨bb,o+q,none⟩)|5=>v=.int .i64 x|6=>Au w v (AB L x) (k+L.length)|7=>Au w v (Mh Y (AB L x)) (k+L.length)|_=>True) (fun _ _ w=>Below wr.heap.size wr w) ?_ (fun _=>Ap wr 1) ?_ ?_
    · intro j v w w' hT h;match j,h with
      |0,h=>exact h
      |1,h=>exact h
      |2,h=>exact h
      |3,h=>exact h
      |4,h=>exact h
      |5,h=>exact h
      |6,h=>exact h.below hT
      |7,h=>exact h.below hT
      |j+8,h=>trivial
    · refine ⟨?_,?_,?_,?_,?_,?_,?_,?_,trivial⟩
      · intro l9 σ w a hin hout hl hla hs hc hp hG hF;refine Ad.none rfl ?_;have e3:a.tmps.getD 3 undef=.pointer (some ⟨w0.heap.size+1+1,0,none⟩):=hout 3 (Ae (by kernel_rfl));have CC:=SOF.out w hG;obtain ⟨C0,C1,D0,D1,D2,E0⟩:=CC;refine Does.val (.agg #[.bool s5,.slice A5 n5 c5]) (w':=w) ?_ ⟨Below.refl _ _,rfl,hG⟩;go_simp
      · intro l9 σ w a hin hout hl hla hs hc hp hG hF;refine Ad.none rfl ?_;have e1:a.tmps.getD 1 undef=.pointer (some ⟨w0.heap.size,0,none⟩):=hout 1 (Ae (by kernel_rfl));have CC:=SOF.out w hG;obtain ⟨C0,C1,D0,D1,D2,E0⟩:=CC;refine Does.val (.agg #[.slice A n c,.bool s,.slice B m d]) (w':=w) ?_ ⟨Below.refl _ _,rfl,hG⟩;go_simp
      · intro l9 σ w a hin hout hl hla hs hc hp hG hF;refine Ad.none rfl ?_;have e4:a.tmps.getD 4 undef=.slice (some ⟨bb,o,none⟩) m1 cV:=hout 4 (Ae (by kernel_rfl));refine Does.val (.slice (some ⟨bb,o,none⟩) m1 cV) (w':=w) ?_ ⟨Below.refl _ _,rfl,hG⟩;simp only[Array.getD_eq_getD_getElem?]at e4;go_simp
      · intro l9 σ w a hin hout hl hla hs hc hp hG hF;refine Ad.none rfl ?_;have e5:a.tmps.getD 5 undef=.int .i64 (q:Int):=hout 5 (Ae (by kernel_rfl));refine Does.val (.int .i64 (q:Int)) (w':=w) ?_ ⟨Below.refl _ _,rfl,hG⟩;simp only[Array.getD_eq_getD_getElem?]at e5;go_simp
      · intro l9 σ w a hin hout hl hla hs hc hp hG hF;refine Ad.none rfl ?_;have e17:a.tmps.getD 17 undef=.slice (some ⟨bb,o,none⟩) m1 cV:=Am (hin 2 17) rfl (hp ⟨2,.data⟩ (by simp) rfl) (hF 2);have e18:a.tmps.getD 18 undef=.int .i64 (q:Int):=Am (hin 3 18) rfl (hp ⟨3,.data⟩ (by simp) rfl) (hF 3);refine Does.val (.pointer (some ⟨bb,o+q,none⟩)) (w':=w) ?_ ⟨Below.refl _ _,rfl,hG⟩;simp only[Array.getD_eq_getD_getElem?]at e17 e18;go_simp;(try (intro hh;exfalso;omega))
      · intro l9 σ w a hin hout hl hla hs hc hp hG hF;refine Ad.none rfl ?_;have e19:a.tmps.getD 19 undef=.pointer (some ⟨bb,o+q,none⟩):=Am (hin 4 19) rfl (hp ⟨4,.data⟩ (by simp) rfl) (hF 4);have CC:=SOF.out w hG;obtain ⟨C0,C1,D0,D1,D2,E0⟩:=CC;refine Does.val (.int .i64 x) (w':=w) ?_ ⟨Below.refl _ _,rfl,hG⟩;go_simp
      · intro l9 σ w a hin hout hl hla hs hc hp hG hF;refine Ad.none rfl ?_;have e16:a.tmps.getD 16 undef=.agg #[.slice A n c,.bool s,.slice B m d]:=Am (hin 1 16) rfl (hp ⟨1,.data⟩ (by simp) rfl) (hF 1);have e20:a.tmps.getD 20 undef=.int .i64 x:=Am (hin 5 20) rfl (hp ⟨5,.data⟩ (by simp) rfl) (hF 5);refine Does.call ?_ (HM.out w hG) ?_
        · go_simp
        · rintro e w' ⟨v,rfl,z,hb⟩;exact ⟨_,rfl,hb,z,hG.next hb⟩
      · intro l9 σ w a hin hout hl hla hs hc hp hG hF;refine Ad.none rfl ?_;have e15:a.tmps.getD 15 undef=.agg #[.bool s5,.slice A5 n5 c5]:=Am (hin 0 15) rfl (hp ⟨0,.data⟩ (by simp) rfl) (hF 0);have e21:=hin 6 21 rfl (hp ⟨6,.data⟩ (by simp) rfl);have z6:=hF 6 (hp ⟨6,.data⟩ (by simp) rfl);refine Does.call ?_ (Vd _ _ Y (AB L x) (k+L.length) w (HZ5.out.in_.below hG) z6.in_ (by omega)) ?_
        · go_simp
        · rintro e w' ⟨v,rfl,z,hb⟩;exact ⟨_,rfl,hb,z,hG.next hb⟩
    · intro o ho;injection ho with ho;subst ho
      intro l9 σ w a hall hin hout hG hF;refine Ad.none rfl ?_;have e3:a.tmps.getD 3 undef=.pointer (some ⟨w0.heap.size+1+1,0,none⟩):=hout 3 (KH (by kernel_rfl));have e22:=hin 7 22 rfl (by decide);have z7:=hF 7 (by decide);have z7:=hF 7 (by decide);obtain ⟨s8,A8,n8,c8,ev8⟩:=Au.form z7;rw[ev8]at e22 z7;have HX:=Ac (AH.next HB5.out hG)
      refine Does.store_box (T:=38) (cells:=#[.bool s8,.slice A8 n8 c8]) rfl e3 e22 (AH.box HX.out) (by kernel_rfl) rfl (by simp[Value.oneCell']) (fun w2 x9 o9=>?_);rw[show fin _ σ undef _=(Act.put (Act.put (Act.put (Act.put (Act.put (Act.put (Act.put (Act.put (Act.put _ (some 15) (σ 0)) (some 16) (σ 1)) (some 17) (σ 2)) (some 18) (σ 3)) (some 19) (σ 4)) (some 20) (σ 5)) (some 21) (σ 6)) (some 22) (σ 7)) none undef) from (Bt hall).trans rfl]
      simp only[Act.put,List.setIfInBounds_toArray,List.set_cons_zero,List.set_cons_succ];have HE:=Ac (show Gl (w0.heap.size+1+1) W1 (norm L) (k+L.length) (q+1) w2 from ⟨s8,A8,n8,c8,x9,by rw[<-HC.out];exact z7.only HX.out o9,(HOB.out.next hG).trans o9⟩);generalize σ 0=tt0 at *;generalize σ 1=tt1 at *;generalize σ 2=tt2 at *;generalize σ 3=tt3 at *;generalize σ 4=tt4 at *;generalize σ 5=tt5 at *;generalize σ 6=tt6 at *;generalize σ 7=tt7 at *
      clear hF hG hall hin hout SOF HM z7 x9 o9 e3 e22 ev8;go_wp2_with fail;go_roundw
      case rel=>exact ⟨q+1,by omega,by go_num,HE⟩
      case measure=>simp[intOf]<;>omega
  · obtain rfl:q=m1:=(by omega);have HL:=Ac (show ((CS 0 ((norm L).take q):Nat):Int)=Ak L by unfold Ak;rw[List.take_of_length_le (by rw[<-HM1.out];unfold vars;rw[List.length_map];exact Nat.le_refl _)]);have b50:=b5.c0;have b51:=b5.c1;have k1:AH wr (w0.heap.size+1) #[.bool false,.slice none 0 0]:=AK.other HR1.out hB (by omega);have HZ5:=Ac zz5;have HT:=Ac hT;clear zz5 b5 HR hB hT
    go_wp2_with (with_reducible refine An rfl _ _ rfl (w0.heap.size+1) _ _ _ _ rfl rfl _ _ k1 ?_;intro w3 k3 ho3);refine Ay rfl rfl k3 rfl ?_;refine ⟨_,rfl,?_,AE HT.out (by omega) ho3⟩;rw[<-HL.out];exact HZ5.out.only k1 ho3
end
section
open Go.RowKit Go.Maps
open Tm
def VG (w:World) (b n:Nat) (f:Int->Option Nat):Prop:=
 ∃D:DataW Unit,w.ownsMap Tryz.prog 3 (plainElem Tryz.prog 3) b n D/\IsMap D/\∀x,Maps.has D (.int .i64 x)=(f x).isSome/\∀i z,f x=some i->D.atKey (.int .i64 x) z=.lit (.int .i64 i)
def Vt (vs:List Int) (w:World) (e:Ending) (w':World):Prop:=∃b,e=.returned (.map (some b))/\VG w' b vs.length (fun x=>Jd x vs)/\Below w.heap.size w w'
def VH (w0:World) (vs:List Int) (q:Nat) (wr:World):Prop:=VG wr w0.heap.size q (fun x=>Jd x (vs.take q))/\Below w0.heap.size w0 wr
end
section
open Go.RowKit
structure TV where
 A:Option Addr
 n:Nat
 c:Nat
 s:Bool
 B:Option Addr
 m:Nat
 d:Nat
 L:List (Int×Int)
 K:Int
def TV.cells (t:TV):List Value:=[.slice t.A t.n t.c,.bool t.s,.slice t.B t.m t.d]
def TV.agg (t:TV):Value:=.agg #[.slice t.A t.n t.c,.bool t.s,.slice t.B t.m t.d]
def VI (ts:List TV):List Value:=(ts.map TV.cells).flatten
def VQ (w:World) (A:Option Addr) (n:Nat) (ts:List TV) (k:Nat):Prop:=
 ts.length=n/\(0<n->∃b o,A=some ⟨b,o,none⟩/\∀j u,(VI ts)[j]?=some u->w.cell? ⟨b,o+j,none⟩=some u)/\∀t∈ts,D9 w t.agg t.L t.K k
theorem BO.cut {w:World} {s:Bool} {A:Option Addr} {n c k j:Nat} {Z:Int} (h:BO w (.agg #[.bool s,.slice A n c]) Z k) (hn:n<=j):BO w (.agg #[.bool s,.slice A n c]) Z j:=by
 obtain ⟨s',A',n',c',xs,e,h1,h2,h3,h4,h5⟩:=h;injection e with e
 have e1:s'=s/\A'=A/\n'=n/\c'=c:=by simpa[eq_comm] using e
 obtain ⟨rfl,rfl,rfl,rfl⟩:=e1;exact ⟨_,_,_,_,xs,rfl,h1,h2,h3,hn,h5⟩
theorem BO.bounds {w:World} {s:Bool} {A:Option Addr} {n c k:Nat} {Z:Int} (h:BO w (.agg #[.bool s,.slice A n c]) Z k):n<=9223372036854775807:=by
 obtain ⟨s',A',n',c',xs,e,h1,h2,h3,h4,h5⟩:=h;injection e with e
 have e1:s'=s/\A'=A/\n'=n/\c'=c:=by simpa[eq_comm] using e
 obtain ⟨rfl,rfl,rfl,rfl⟩:=e1;omega
def Wp (w:World) (t:TV):Prop:=t.n<=30/\D9 w t.agg t.L t.K 20
def VR (ts:List TV) (w:World) (e:Ending) (w':World):Prop:=∃r,e=.returned (.bool r)/\(r=true->∀t∈ts,Wp w t)/\Below w.heap.size w w'
end
section
open Go.RowKit Go.Maps
open Tm
def Wy (ts:List TV):List (List (Int×Int)×Int):=ts.map fun t=>(t.L,t.K)
def Wq (W2:World) (g:Nat) (R:List (Int×Int)) (K:Int) (kk q:Nat) (wr:World):Prop:=
 ∃(rs:List PV) (A:Option Addr) (c:Nat) (s:Bool) (B:Option Addr) (m d:Nat),AK 40 wr g #[.slice A rs.length c,.bool s,.slice B m d]/\AF 47 3 wr W2.heap.size (.slice A rs.length c) rs.length (flat rs) /\
  (∀v,AB (Cl rs) v=AB R v)/\(∀p∈rs,BO wr p.num p.Z kk)/\BO wr (.agg #[.bool s,.slice B m d]) K (kk+q)/\AA g W2 wr/\rs.length<=1000*q
theorem AK.set_12 {T:TypeId} {w:World} {g:Nat} {x y z:Value} (h:AK T w g #[x,y,z]) (y' z':Value):AK T ((w.setCell ⟨g,1,none⟩ y').setCell ⟨g,2,none⟩ z') g #[x,y',z']:=by unfold AK at h ⊢;simp[World.setCell,Array.getElem?_modify,h]
theorem O0 (w:World) (g:Nat) (y z:Value):AA g w ((w.setCell ⟨g,1,none⟩ y).setCell ⟨g,2,none⟩ z):=((AA.refl g w).setCell 1 y).setCell 2 z
end
section
open Go.RowKit Go.Maps
open Tm
def VS (L:List (Int×Int)) (x:Int):List (Int×Int):=L.filter fun p=>decide (p.1≠x)
end
end Go.Proofs.YtmedjkhmadfjlaaGreat
