/- Texts of one seat, put together: TText RelText. -/
import Derived.Test.YtemfjdedjcjegaaGreatDoorL24
import Derived.Test.YtemfjdedjcjegaaGreatDoorL17
import Derived.Test.YtemfjdedjcjegaaGreatDoorL16
set_option linter.unusedVariables false
set_option linter.unusedSimpArgs false
set_option maxRecDepth 100000
set_option maxHeartbeats 16000000
namespace Go.Proofs.YtemfjdedjcjegaaGreatDoor
section
open Go.Shelf Go.RowKit
open Tm
def dg (n:Nat):List UInt8:=(Dec.text n).data.toList
def T8 (c:Int):List UInt8:=if dg c.natAbs=[49] then [] else dg c.natAbs++[42]
def Ea (nm:Int->List UInt8) (out:List UInt8) (p:Int×Int):List UInt8:=out++ES (decide (0<out.length)) (decide (p.2<0))++T8 p.2++nm p.1
def BG (nm:Int->List UInt8) (L:List (Int×Int)):List UInt8:=L.foldl (Ea nm) []
def Dz (nm:Int->List UInt8) (L:List (Int×Int)) (K:Int):List UInt8:=if K≠0\/L.length=0 then BG nm L++ES (decide (0<(BG nm L).length)) (decide (K<0))++dg K.natAbs else BG nm L
theorem GJ (nm:Int->List UInt8) (L:List (Int×Int)) (q:Nat) (u c:Int) (h:L[q]?=some (u,c)):BG nm (L.take (q+1))=Ea nm (BG nm (L.take q)) (u,c):=by unfold BG;rw[List.take_add_one,h,List.foldl_append];rfl
theorem Mk (nm:Int->List UInt8) (L:List (Int×Int)):∀out:List UInt8,out.length<=(L.foldl (Ea nm) out).length:=by
 induction L with
 |nil=>intro out;exact Nat.le_refl _
 |cons p ps ih=> intro out;rw[List.foldl_cons];refine Nat.le_trans ?_ (ih _);unfold Ea;simp only[List.length_append];omega
theorem Pu (nm:Int->List UInt8) (L:List (Int×Int)) (q:Nat):(BG nm (L.take q)).length<=(BG nm L).length:=by have h:=Mk nm (L.drop q) (BG nm (L.take q));unfold BG at h ⊢;rw[<-List.foldl_append,List.take_append_drop]at h;exact h
theorem G5 (nm:Int->List UInt8) (L:List (Int×Int)) (K:Int):(BG nm L).length<=(Dz nm L K).length:=by
 unfold Dz;split
 · simp only[List.length_append];omega
 · exact Nat.le_refl _
theorem byteCells_append (a b:List UInt8):Lib.byteCells (a++b)=Lib.byteCells a++Lib.byteCells b:=by simp[Lib.byteCells]
theorem byteCells_length (a:List UInt8):(Lib.byteCells a).length=a.length:=by simp[Lib.byteCells]
theorem sized (x:ByteArray):x.size=x.data.toList.length:=by rw[Array.length_toList];rfl
theorem EP.onlyBld {w w':World} {A:Option Addr} {n k b:Nat} {L:List (Int×Int)} (h:EP w A n L k) (hb:Aw 118 w b #[.pointer none,.slice none 0 0]):0<n->Apart A b:=by
 obtain ⟨ps,h,-⟩:=h;intro hn ad had he;obtain ⟨b',o,e,hc⟩:=h.2.1 hn;have hl:0<ps.length:=by rw[h.1];exact hn
 obtain ⟨g0,-,-⟩:=flat_get ps 0 ps[0] (List.getElem?_eq_getElem hl);have h0:=hc 0 _ g0;rw[had]at e;injection e with e
 subst e;have he':b'=b:=he;subst he';rw[cell_of_row w b' _ _ _ _ hb]at h0;match o,h0 with
 |0,h0=>simp at h0
 |1,h0=>simp at h0
 |o+2,h0=>simp at h0
theorem S6 {w w':World} {b:Nat} (hb:Aw 118 w b #[.pointer none,.slice none 0 0]) (ho:Ao b w w'):Kp w w':=Aw.kp hb (U9 (fun _ h=>by cases h) (NL.slice _ _ _)) ho
def Hy (W2:World) (b:Nat) (nm:Int->List UInt8) (L:List (Int×Int)) (wr:World):Prop:=Pn wr W2.heap.size b (Lib.byteCells (BG nm L))/\BW W2.heap.size b W2 wr
theorem IX (Z:Int):Kf ((Z.natAbs:Nat):Int)=Dec.text Z.natAbs:=by rw[Kg (by omega),Int.natAbs_natCast]
theorem Pv (v:Value) (L:List (Int×Int)) (K:Int) (k:Nat) (NA:Option Addr) (nn nc:Nat) (nm:Int->List UInt8) (w0:World) (hv:Dw w0 v L K k) (hl:L.length<=1099511) (hk:k<=1099511627)
  (hnm:∀p∈norm L,∀W,Below w0.heap.size w0 W->Calls Tryz.prog 80 #[.int .i64 p.1,.slice NA nn nc] W (Fw ⟨(nm p.1).toArray⟩ W)) (hT:(Dz nm (norm L) K).length+3<=140737488355328) :
  Calls Tryz.prog 42 #[v,.slice NA nn nc] w0 (fun e w'=>e=.returned (.string ⟨(Dz nm (norm L) K).toArray⟩)/\Below w0.heap.size w0 w'):=by
 obtain ⟨A,n,c,s,B,m,d,rfl,hp,hc1,hc2,hK⟩:=hv;have hn:=hp.len;obtain ⟨z0,z1,z2,z3⟩:=Bh 33 118 w0 #[.slice A n c,.bool s,.slice B m d] #[.pointer none,.slice none 0 0];have hpl:=CL A n c L k _ (hp.below z2) hc1 hc2 (by omega) hk;have x0:=z0.c0;have HNL:=Ad (AR L);have HNM:=Ad hnm;have HT:=Ad hT;rw[hn]at hl;have HN:=Ad hn;clear hn hnm hT;go_enter Tryz.func42,Tryz.ntmps42;go_wp2_with fail;refine hpl.mono ?_;rintro e W2 ⟨A1,n1,c1,rfl,p1,h11,h12,b1⟩;have HT1:=Ad (z2.next b1)
 have hW2:w0.heap.size+1+1<=W2.heap.size:=by have:=b1.size;omega
 have hn1:n1<=1099511:=by have:=p1.len;have:=HNL.out;have:=HN.out;omega
 have HP1:=Ad p1;have HBB:=Ad (z1.next b1);have HTB:=Ad (z0.next b1);have HK:=Ad (hK.below HT1.out);have HS:=Ad (show Hy W2 (w0.heap.size+1) nm ((norm L).take 0) W2 from ⟨Pn.fresh HBB.out,BW.refl _ _ _⟩);have HLE:=Ad (fun q=>Nat.le_trans (Nat.add_le_add_right (Nat.le_trans (Pu nm (norm L) q) (G5 nm (norm L) K)) 3) HT.out);clear x0 hpl z0 z1 z2 z3 b1 p1 hp hK;go_wp2_with fail
 go_loopw [15] (fun i wr=>∃q:Nat,q<=n1/\i=.int .i64 q/\Hid (Hy W2 (w0.heap.size+1) nm ((norm L).take q) wr)) (fun i _=>n1-(intOf i).toNat)
 case atStart=>exact ⟨0,Nat.zero_le _,rfl,HS⟩
 case round=>
  obtain ⟨q,hq,rfl,HR⟩:=hrel;obtain ⟨hbl,hbw⟩:=HR.out;have ho:=hbw.only;by_cases hqn:q<n1
  · obtain ⟨bb,o,p,rfl,hlt,hLp,c0',c1',c2',hz⟩:=HP1.out.at_ hqn;have hbne:bb≠w0.heap.size+1:=HP1.out.onlyBld (w':=W2) HBB.out (by omega) _ rfl;have hgb:some bb≠some (w0.heap.size+1):=fun e=>hbne (by injection e)
    have c0:=ho.gb.cell c0' hgb;have c1:=ho.gb.cell c1' hgb;have c2:=ho.gb.cell c2' hgb;have HLL:=Ad (GJ nm (norm L) q _ _ hLp);have HTOT:=Ad (HLE.out (q+1));have HNMP:=Ad (HNM.out _ (List.mem_of_getElem? hLp));have y1:=Ae wr (.cells #[.int .i64 p.v,.bool p.s,.slice p.B p.m p.d] 59);have y0:=Aw.new 59 wr #[.int .i64 p.v,.bool p.s,.slice p.B p.m p.d];have HBW6:=Ad (hbw.trans (BW.of_below y1))
    have HZ:=Ad (fun W (h:BW W2.heap.size (w0.heap.size+1) W2 W)=>(show BF W (.agg #[.bool p.s,.slice p.B p.m p.d]) p.Z (k+n) from hz.kp (S6 HBB.out h.only)));have hwrb:wr.heap.size≠w0.heap.size+1:=(by have:=hbw.size;omega);generalize hout:BG nm ((norm L).take q)=out at *;have HO:=Ad (show BG nm ((norm L).take (q+1))=Ea nm out (p.v,p.Z) from HLL.out);have hto:=HTOT.out;rw[HO.out]at hto;have HTS:=Ad hto
    have hle1:out.length+(ES (decide (0<out.length)) (decide (p.Z<0))).length+(T8 p.Z).length+(nm p.v).length+3<=140737488355328:=by have h2:=HTS.out;unfold Ea at h2;simp only[List.length_append]at h2;exact h2
    have hws:=Ev W2.heap.size (w0.heap.size+1) (Lib.byteCells out) (.agg #[.bool p.s,.slice p.B p.m p.d]) p.Z (k+n) _ (hbl.below y1) (HZ.out _ HBW6.out) (by omega) (by rw[byteCells_length];omega) (HBW6.out.size);unfold Co at hws;rw[byteCells_length,<-byteCells_append]at hws;have HST:=Ad (show Ea nm out (p.v,p.Z)=out++ES (decide (0<out.length)) (decide (p.Z<0))++T8 p.Z++nm p.v from rfl);generalize ES (decide (0<out.length)) (decide (p.Z<0))=sg at *;have HL1:=Ad hle1
    have HY0:=Ad y0;clear hz hLp c0' c1' c2' HR hbl hbw ho y1 y0 hto hle1 hout;go_wp2_with fail;refine hws.mono ?_;rintro e w3 ⟨rfl,h3,b3⟩;have HW3:=Ad (HBW6.out.trans b3);have y3:=b3.box _ _ _ (by decide) hwrb HY0.out;have x1:=y3.c1;have x2:=y3.c2;have ha:=Qw (.agg #[.bool p.s,.slice p.B p.m p.d]) p.Z (k+n) w3 (HZ.out w3 HW3.out) (by omega);have H3:=Ad h3;clear hws h3 b3 c0 c1 c2;go_wp2_with fail;refine ha.mono ?_;rintro e w4 ⟨v4,rfl,r4,b4⟩
    have ht:=KS v4 _ (k+n) w4 r4.in_ (by omega);unfold F6 at ht;rw[IX]at ht;have HDG:=Ad (show T8 p.Z=if (Dec.text p.Z.natAbs).data.toList=[49] then [] else (Dec.text p.Z.natAbs).data.toList++[42] from rfl);generalize Dec.text p.Z.natAbs=x at *;clear ha r4;go_wp2_with fail;refine ht.mono ?_;rintro e w5 ⟨rfl,b5⟩;have y5:=(y3.next b4).next b5;have x0:=y5.c0;have H5:=Ad ((H3.out.below b4).below b5);have HW5:=Ad ((HW3.out.trans (BW.of_below b4)).trans (BW.of_below b5))
    have hb5:W2.heap.size<=w5.heap.size:=HW5.out.size;clear ht b4 b5 x1 x2 H3;by_cases h1:x.data.toList=[49]
    · have HC:=Ad (show T8 p.Z=[] by rw[HDG.out,if_pos h1]);have hx:x=⟨#[49]⟩:=(by cases x with|mk d=>cases d;simp at h1;rw[h1]);subst hx;clear h1;have hnc:=HNMP.out w5 (HT1.out.trans (HW5.out.below (by omega) (by omega) (by omega)));unfold Fw at hnc;go_wp2_with fail;refine hnc.mono ?_;rintro e w6 ⟨rfl,b6⟩
      have hwr:=Bc W2.heap.size (w0.heap.size+1) (Lib.byteCells (out++sg)) ⟨(nm p.v).toArray⟩ w6 (H5.out.below b6) (by rw[byteCells_length,List.length_append];have:=HL1.out;show _+(nm p.v).toArray.size<=_;simp;omega) (Nat.le_trans hb5 b6.size);unfold Co at hwr;clear hnc x0 y3 y5;go_wp2_with fail;refine hwr.mono ?_;rintro e w7 ⟨rfl,h7,b7⟩
      have HE:=Ad (show Hy W2 (w0.heap.size+1) nm ((norm L).take (q+1)) w7 from ⟨by rw[HO.out,HST.out,HC.out,List.append_nil,byteCells_append];exact h7,(HW5.out.trans (BW.of_below b6)).trans b7⟩);clear hwr h7 b7;go_wp2_with fail;go_roundw
      case rel=>exact ⟨q+1,by omega,by go_num,HE⟩
      case measure=>simp[intOf]<;>omega
    · have HC:=Ad (show T8 p.Z=x.data.toList++[42] by rw[HDG.out,if_neg h1]);have hxl:x.size+(⟨#[42]⟩:ByteArray).size<=9223372036854775807:=by
        have h2:=HL1.out;rw[HC.out,List.length_append,<-sized]at h2;show x.size+1<=_;simp at h2;omega
      have hwr:=Bc W2.heap.size (w0.heap.size+1) (Lib.byteCells (out++sg)) (x++⟨#[42]⟩) w5 H5.out (by rw[byteCells_length,List.length_append];have h2:=HL1.out;rw[HC.out,List.length_append,<-sized]at h2;rw[ByteArray.size_append];show _+(_+1)<=_;simp at h2;omega) hb5;unfold Co at hwr;have HSC:=Ad (show Lib.strCells (x++⟨#[42]⟩)=Lib.byteCells (x.data.toList++[42]) by rw[Lib.strCells_eq];simp);have hx2:(x.toList==[49])=false:=(by rw[Lib.toList_data];simpa using h1);clear h1
      go_wp2_with fail;refine hwr.mono ?_;rintro e w8 ⟨rfl,h8,b8⟩;have HW8:=Ad (HW5.out.trans b8);have y8:=b8.box _ _ _ (by decide) hwrb y5;have x8:=y8.c0;have hnc:=HNMP.out w8 (HT1.out.trans (HW8.out.below (by omega) (by omega) (by omega)));unfold Fw at hnc;rw[HSC.out,<-byteCells_append]at h8;have H8:=Ad h8;clear hwr h8 b8 x0 y5 y3 hx2 hxl;go_wp2_with fail;refine hnc.mono ?_;rintro e w6 ⟨rfl,b6⟩
      have hwr:=Bc W2.heap.size (w0.heap.size+1) (Lib.byteCells (out++sg++(x.data.toList++[42]))) ⟨(nm p.v).toArray⟩ w6 (H8.out.below b6) (by rw[byteCells_length];have h2:=HL1.out;rw[HC.out]at h2;simp only[List.length_append]at h2 ⊢;show _+(nm p.v).toArray.size<=_;simp only[List.size_toArray];omega) (Nat.le_trans HW8.out.size b6.size);unfold Co at hwr;clear hnc x8 y8;go_wp2_with fail;refine hwr.mono ?_;rintro e w7 ⟨rfl,h7,b7⟩
      have HE:=Ad (show Hy W2 (w0.heap.size+1) nm ((norm L).take (q+1)) w7 from ⟨by rw[HO.out,HST.out,HC.out,byteCells_append];exact h7,(HW8.out.trans (BW.of_below b6)).trans b7⟩);clear hwr h7 b7;go_wp2_with fail;go_roundw
      case rel=>exact ⟨q+1,by omega,by go_num,HE⟩
      case measure=>simp[intOf]<;>omega
  · obtain rfl:q=n1:=(by omega);have hall:=List.take_of_length_le (l:=norm L) (i:=q) (by rw[HP1.out.len];exact Nat.le_refl _);rw[hall]at hbl;have HBL:=Ad hbl;have HBW:=Ad hbw;have hwr0:W2.heap.size<=wr.heap.size:=hbw.size;have t0:=hbw.box _ _ _ (by decide) (show w0.heap.size≠w0.heap.size+1 by omega) HTB.out;have t1:=t0.c1;have t2:=t0.c2;have HNL2:=Ad (show (norm L).length=q from HP1.out.len)
    have HTL:=Ad (show (BG nm (norm L)).length+3<=140737488355328 from Nat.le_trans (Nat.add_le_add_right (G5 nm (norm L) K) 3) HT.out);have HK2:=Ad (fun W (h:BW W2.heap.size (w0.heap.size+1) W2 W)=>(show BF W (.agg #[.bool s,.slice B m d]) K k from HK.out.kp (S6 HBB.out h.only)));have HT0:=Ad t0;clear hall hbl hbw ho HR hqn t0;have hs:=Cs (.agg #[.bool s,.slice B m d]) K k wr (HK2.out wr HBW.out) (by omega);unfold BA at hs;by_cases hK0:K=0
    · by_cases hq0:q=0
      · have HTX:=Ad (show Dz nm (norm L) K=BG nm (norm L)++ES (decide (0<(BG nm (norm L)).length)) (decide (K<0))++dg K.natAbs by unfold Dz;rw[if_pos (Or.inr (by rw[HNL2.out,hq0]))]);rw[hK0,show Int.sign 0=0 from rfl]at hs;have hq2:((q:Int)==0)=true:=(by simp[hq0]);have HQ0:=Ad hq0;clear hK0 hq0;go_wp2_with fail;refine hs.mono ?_;rintro e w1 ⟨rfl,b1⟩;have H1:=Ad (HBL.out.below b1);have HW1:=Ad (HBW.out.trans (BW.of_below b1));have t3:=HT0.out.next b1;have t31:=t3.c1
        have t32:=t3.c2;have hws:=Ev W2.heap.size (w0.heap.size+1) (Lib.byteCells (BG nm (norm L))) (.agg #[.bool s,.slice B m d]) K k w1 H1.out (HK2.out w1 HW1.out) (by omega) (by rw[byteCells_length];exact HTL.out) HW1.out.size;unfold Co at hws;rw[byteCells_length,<-byteCells_append]at hws;clear hs b1 t1 t2;go_wp2_with fail;refine hws.mono ?_;rintro e w3 ⟨rfl,h3,b3⟩;have HW3:=Ad (HW1.out.trans b3)
        have t4:=b3.box _ _ _ (by decide) (show w0.heap.size≠w0.heap.size+1 by omega) t3;have t41:=t4.c1;have t42:=t4.c2;have ha:=Qw (.agg #[.bool s,.slice B m d]) K k w3 (HK2.out w3 HW3.out) (by omega);have H3:=Ad h3;clear hws h3 b3 t3 t31 t32;go_wp2_with fail;refine ha.mono ?_;rintro e w4 ⟨v4,rfl,r4,b4⟩;have ht:=KS v4 _ k w4 r4.in_ (by omega);unfold F6 at ht;rw[IX]at ht;clear ha r4;go_wp2_with fail;refine ht.mono ?_;rintro e w5 ⟨rfl,b5⟩
        have H5:=Ad ((H3.out.below b4).below b5);have HW5:=Ad ((HW3.out.trans (BW.of_below b4)).trans (BW.of_below b5));have hwr:=Bc W2.heap.size (w0.heap.size+1) _ (Dec.text K.natAbs) w5 H5.out (by rw[byteCells_length,List.length_append];have h2:=HT.out;rw[HTX.out,List.length_append,List.length_append]at h2;have h3:(dg K.natAbs).length=(Dec.text K.natAbs).size:=(sized _).symm;omega) HW5.out.size;unfold Co at hwr;generalize hx:Dec.text K.natAbs=x at *
        have HX:=Ad (show dg K.natAbs=x.data.toList by unfold dg;rw[hx]);clear ht b4 b5 t4 t41 t42 hx;go_wp2_with fail;refine hwr.mono ?_;rintro e w6 ⟨rfl,h6,b6⟩;have HW6:=Ad (HW5.out.trans b6);rw[Lib.strCells_eq,<-HX.out,<-byteCells_append,<-HTX.out]at h6;have hst:=Dc W2.heap.size w0.heap.size (w0.heap.size+1) _ w6 h6 (by omega) (by omega) (Nat.le_trans (by omega) HW6.out.size);clear hwr h6 b6;go_wp2_with fail;refine hst.mono ?_;rintro e w7 ⟨rfl,b7⟩;go_wp2_with fail
        go_ret
        exact ⟨rfl,(HT1.out.trans (HW6.out.below (by omega) (by omega) (by omega))).trans b7⟩
      · have HTX:=Ad (show Dz nm (norm L) K=BG nm (norm L) by unfold Dz;rw[if_neg (by rw[HNL2.out];rintro (h|h);exact h hK0;exact hq0 h)]);rw[hK0,show Int.sign 0=0 from rfl]at hs;have hq2:((q:Int)==0)=false:=by
         have:(q:Int)≠0:=by omega
         simpa using hq0
        clear hK0 hq0;go_wp2_with fail;refine hs.mono ?_;rintro e w1 ⟨rfl,b1⟩;have H1:=HBL.out.below b1;have HW1:=Ad (HBW.out.trans (BW.of_below b1));rw[<-HTX.out]at H1;have hst:=Dc W2.heap.size w0.heap.size (w0.heap.size+1) _ w1 H1 (by omega) (by omega) (Nat.le_trans (by omega) HW1.out.size);clear hs b1 t1 t2 H1;go_wp2_with fail;refine hst.mono ?_;rintro e w7 ⟨rfl,b7⟩;go_wp2_with fail;go_ret
        exact ⟨rfl,(HT1.out.trans (HW1.out.below (by omega) (by omega) (by omega))).trans b7⟩
    · have HTX:=Ad (show Dz nm (norm L) K=BG nm (norm L)++ES (decide (0<(BG nm (norm L)).length)) (decide (K<0))++dg K.natAbs by unfold Dz;rw[if_pos (Or.inl hK0)]);have hsn:(K.sign != 0)=true:=by
        have h:=I3 hK0;simp only[bne,h,Bool.not_false]
      generalize K.sign=sn at *;clear hK0;go_wp2_with fail;refine hs.mono ?_;rintro e w1 ⟨rfl,b1⟩;have H1:=Ad (HBL.out.below b1);have HW1:=Ad (HBW.out.trans (BW.of_below b1));have t3:=HT0.out.next b1;have t31:=t3.c1;have t32:=t3.c2;have hws:=Ev W2.heap.size (w0.heap.size+1) (Lib.byteCells (BG nm (norm L))) (.agg #[.bool s,.slice B m d]) K k w1 H1.out (HK2.out w1 HW1.out) (by omega) (by rw[byteCells_length];exact HTL.out) HW1.out.size;unfold Co at hws
      rw[byteCells_length,<-byteCells_append]at hws;clear hs b1 t1 t2;go_wp2_with fail;refine hws.mono ?_;rintro e w3 ⟨rfl,h3,b3⟩;have HW3:=Ad (HW1.out.trans b3);have t4:=b3.box _ _ _ (by decide) (show w0.heap.size≠w0.heap.size+1 by omega) t3;have t41:=t4.c1;have t42:=t4.c2;have ha:=Qw (.agg #[.bool s,.slice B m d]) K k w3 (HK2.out w3 HW3.out) (by omega);have H3:=Ad h3;clear hws h3 b3 t3 t31 t32;go_wp2_with fail;refine ha.mono ?_;rintro e w4 ⟨v4,rfl,r4,b4⟩
      have ht:=KS v4 _ k w4 r4.in_ (by omega);unfold F6 at ht;rw[IX]at ht;clear ha r4;go_wp2_with fail;refine ht.mono ?_;rintro e w5 ⟨rfl,b5⟩;have H5:=Ad ((H3.out.below b4).below b5);have HW5:=Ad ((HW3.out.trans (BW.of_below b4)).trans (BW.of_below b5))
      have hwr:=Bc W2.heap.size (w0.heap.size+1) _ (Dec.text K.natAbs) w5 H5.out (by rw[byteCells_length,List.length_append];have h2:=HT.out;rw[HTX.out,List.length_append,List.length_append]at h2;have h3:(dg K.natAbs).length=(Dec.text K.natAbs).size:=(sized _).symm;omega) HW5.out.size;unfold Co at hwr;generalize hx:Dec.text K.natAbs=x at *;have HX:=Ad (show dg K.natAbs=x.data.toList by unfold dg;rw[hx]);clear ht b4 b5 t4 t41 t42 hx;go_wp2_with fail;refine hwr.mono ?_
      rintro e w6 ⟨rfl,h6,b6⟩;have HW6:=Ad (HW5.out.trans b6);rw[Lib.strCells_eq,<-HX.out,<-byteCells_append,<-HTX.out]at h6;have hst:=Dc W2.heap.size w0.heap.size (w0.heap.size+1) _ w6 h6 (by omega) (by omega) (Nat.le_trans (by omega) HW6.out.size);clear hwr h6 b6;go_wp2_with fail;refine hst.mono ?_;rintro e w7 ⟨rfl,b7⟩;go_wp2_with fail;go_ret
      exact ⟨rfl,(HT1.out.trans (HW6.out.below (by omega) (by omega) (by omega))).trans b7⟩
end
section
open Go.RowKit
open Tm
def To (e:Bool):ByteArray:=if e then ⟨#[32,61,32,48]⟩ else ⟨#[32,62,61,32,48]⟩
theorem Ml (v:Value) (L:List (Int×Int)) (K:Int) (e:Bool) (k:Nat) (NA:Option Addr) (nn nc:Nat) (nm:Int->List UInt8) (w0:World) (hv:JW w0 v L K e k) (hl:L.length<=1099511) (hk:k<=1099511627)
  (hnm:∀p∈norm L,∀W,Below w0.heap.size w0 W->Calls Tryz.prog 80 #[.int .i64 p.1,.slice NA nn nc] W (Fw ⟨(nm p.1).toArray⟩ W)) (hT:(Dz nm (norm L) K).length+10<=140737488355328) :
  Calls Tryz.prog 20 #[v,.slice NA nn nc] w0 (fun en w'=>en=.returned (.string (⟨(Dz nm (norm L) K).toArray⟩++To e))/\Below w0.heap.size w0 w'):=by
 obtain ⟨A,n,c,s,B,m,d,rfl,ht⟩:=hv;obtain ⟨z0,z1,-⟩:=AV 35 w0 #[.slice A n c,.bool s,.slice B m d,.bool e];have x0:=z0.r0;have x1:=z0.r1;have x2:=z0.r2;have x3:=z0.r3;have htx:=Pv _ L K k NA nn nc nm _ (ht.below z1) hl hk (fun p hp W h=>hnm p hp W (z1.next h)) (by omega);have hsz:(⟨(Dz nm (norm L) K).toArray⟩:ByteArray).size<=140737488355318:=by show (Dz nm (norm L) K).toArray.size<=_;simp;omega
 generalize (⟨(Dz nm (norm L) K).toArray⟩:ByteArray)=T at htx hsz ⊢;clear hnm hT ht;have hs4:T.size+(⟨#[32,61,32,48]⟩:ByteArray).size<=9223372036854775807:=by rw[show (⟨#[32,61,32,48]⟩:ByteArray).size=4 from rfl];omega
 have hs5:T.size+(⟨#[32,62,61,32,48]⟩:ByteArray).size<=9223372036854775807:=by rw[show (⟨#[32,62,61,32,48]⟩:ByteArray).size=5 from rfl];omega
 cases e with
 |false=>
  go_enter Tryz.func20,Tryz.ntmps20;go_wp2_with fail;refine htx.mono ?_;rintro en w1 ⟨rfl,b1⟩;go_wp2_with fail;go_ret
  exact ⟨rfl,z1.next b1⟩
 |true=>
  go_enter Tryz.func20,Tryz.ntmps20;go_wp2_with fail;refine htx.mono ?_;rintro en w1 ⟨rfl,b1⟩;go_wp2_with fail;go_ret
  exact ⟨rfl,z1.next b1⟩
theorem Di (v u:Value) (L:List (Int×Int)) (K:Int) (e:Bool) (k ku:Nat) (w0:World) (hv:BO w0 v L K e k) (hu:BO w0 u L K e ku) (hl:L.length<=1099511):Calls Tryz.prog 13 #[v,u] w0 (Ef w0):=by
 obtain ⟨A,n,c,s,B,m,d,rfl,ht⟩:=hv;obtain ⟨A2,n2,c2,s2,B2,m2,d2,rfl,hu1⟩:=hu;obtain ⟨z0,z1,z2,-⟩:=Bh 35 35 w0 #[.slice A n c,.bool s,.slice B m d,.bool e] #[.slice A2 n2 c2,.bool s2,.slice B2 m2 d2,.bool e];have hc:=Nf _ _ L K k ku _ (ht.below z2) (hu1.below z2) hl;have x0:=z0.r0;have x1:=z0.r1;have x2:=z0.r2;have x3:=z0.r3;have y0:=z1.r0;have y1:=z1.r1;have y2:=z1.r2;have y3:=z1.r3;have he:(e==e)=true:=by simp
 go_enter Tryz.func13,Tryz.ntmps13;go_wp2_with fail;refine hc.mono ?_;rintro en w1 ⟨rfl,b1⟩;go_wp2_with fail;go_ret
 exact ⟨rfl,z2.next b1⟩
end
end Go.Proofs.YtemfjdedjcjegaaGreatDoor
