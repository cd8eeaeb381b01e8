/- Texts of one seat, put together: ExprWs ExprWt ExprWu. -/
import Derived.Test.YtgohmojcopajoaaGreatDoorH26
import Derived.Test.YtgohmojcopajoaaGreatDoorH24
set_option linter.unusedVariables false
set_option linter.unusedSimpArgs false
set_option maxRecDepth 100000
set_option maxHeartbeats 16000000
namespace Go.Proofs.YtgohmojcopajoaaGreatDoor
section
open Go.RowKit
open Lx Ex
def Lw (B b:Nat) (k:Nat):Prop:=k<B/\k≠b
theorem FB {B b g:Nat} {T:TypeId} {w w':World} {cs:Array Value} (h:Nu.BW B b w w') (hT:T≠5) (hg:g≠b) (x:Am T w g cs):Am T w' g cs:=h.box T g cs hT hg x
theorem Mo {B b:Nat} {w w':World} (h:Nu.BW B b w w'):AJ (Lw B b) w w':=⟨h.size,fun k hk hlt=>h.low k hlt hk.1 hk.2⟩
theorem FC {B b:Nat} {w:World} {bs:List Value} (h:Nu.Lv w B b bs):b<w.heap.size:=by obtain ⟨p,v,-,x,-⟩:=h;exact Nu.Am.lt x
def DY (B b:Nat) (out:List UInt8) (w:World) (e:Ending) (w':World):Prop:=e=.returned (.tuple #[])/\Nu.Lv w' B b (Lib.byteCells out)/\Nu.BW B b w w'
theorem WR (a b:List UInt8):Lib.byteCells (a++b)=Lib.byteCells a++Lib.byteCells b:=by simp[Lib.byteCells]
theorem WS (a:List UInt8):(Lib.byteCells a).length=a.length:=by simp[Lib.byteCells]
theorem DD (B b:Nat) (out:List UInt8) (s:ByteArray) (w:World) (h:Nu.Lv w B b (Lib.byteCells out)) (hlen:out.length+(ub s).length<=140737488355328) (hB:B<=w.heap.size):Calls Tryz.prog 64 #[.pointer (some ⟨b,0,none⟩),.string s] w (fun e w'=>e=.returned (.tuple #[.int .i64 s.size,.nilIface])/\Nu.Lv w' B b (Lib.byteCells (out++ub s))/\Nu.BW B b w w'):=by
 have h1:s.size=(ub s).length:=by unfold ub;rw[Array.length_toList];rfl
 have:=Nu.IM B b (Lib.byteCells out) s w h (by rw[WS];omega) hB;rw[Lib.strCells_eq,<-WR]at this;exact this
def WT (s:List UInt8) (w:World) (e:Ending) (w':World):Prop:=e=.returned (.string ⟨s.toArray⟩)/\Below w.heap.size w w'
theorem Pe (m:Mn) (f:Bool) (w0:World):Calls Tryz.prog 65 #[.agg #[.bool m.neg,.string m.num,.string m.var],.bool f] w0 (WT (Uk f m.neg) w0):=by
 obtain ⟨x1,hb,-⟩:=Ap 88 w0 #[.bool m.neg,.string m.num,.string m.var];have HB:=Aa hb;have c0:=x1.cell 0 _ rfl;clear hb x1;cases hm:m.neg<;>cases f
 · rw[hm]at c0 HB;clear hm;go_enter Tryz.func65,Tryz.ntmps65;go_wp2_with fail;go_ret
   exact ⟨rfl,HB.out⟩
 · rw[hm]at c0 HB;clear hm;go_enter Tryz.func65,Tryz.ntmps65;go_wp2_with fail;go_ret
   exact ⟨rfl,HB.out⟩
 · rw[hm]at c0 HB;clear hm;go_enter Tryz.func65,Tryz.ntmps65;go_wp2_with fail;go_ret
   exact ⟨rfl,HB.out⟩
 · rw[hm]at c0 HB;clear hm;go_enter Tryz.func65,Tryz.ntmps65;go_wp2_with fail;go_ret
   exact ⟨rfl,HB.out⟩
theorem FD (B b:Nat) (bs:List UInt8) (A:Option Addr) (n c:Nat) (l:List Mn) (w0:World) (h:Du (Lw B b) w0 A n l) (hb:Nu.Lv w0 B b (Lib.byteCells bs)) (hB:B<=w0.heap.size) (hc:n<=c) (hc2:c<=9223372036854775807) (hT:bs.length+(Cb true l).length<=140737488355328):Calls Tryz.prog 36 #[.pointer (some ⟨b,0,none⟩),.slice A n c] w0 (DY B b (bs++Cb true l) w0):=by
 have HS:=Aa h;have HN:=Aa h.1;have HBL:=Aa hb;have HTT:=Aa hT;have HSZ:=Aa hB;have HE:=Aa (show bs++Cb true l=bs++Cb (((0:Nat):Int)==0) (l.drop 0) from rfl);clear h hb hT;go_enter Tryz.func36,Tryz.ntmps36;go_wp2_with fail;go_loopw [8] (fun i wr=>∃x:Nat,x<=n/\i=.int .i64 x/\Hid (∃out,Nu.Lv wr B b (Lib.byteCells out)/\bs++Cb true l=out++Cb ((x:Int)==0) (l.drop x))/\Hid (Nu.BW B b w0 wr)) (fun i _=>n-(intOf i).toNat)
 case atStart=>exact ⟨0,Nat.zero_le _,rfl,Aa ⟨bs,HBL.out,HE.out⟩,Aa (Nu.BW.refl _ _ _)⟩
 case round=>
  obtain ⟨x,hx,rfl,HER,HR⟩:=hrel;obtain ⟨out,hbl,he⟩:=HER.out;by_cases hxn:x<n
  · obtain ⟨bb,oo,m,hA,hlt,hm,d0,d1,d2⟩:=(HS.out.keep (Mo HR.out)).at_ hxn;subst hA;obtain ⟨neg,num,var,hme⟩:∃neg num var,m=⟨num,var,neg⟩:=⟨m.neg,m.num,m.var,by cases m;rfl⟩;subst hme;have hd:l.drop x=⟨num,var,neg⟩::l.drop (x+1):=by
      have hl:x<l.length:=(by have:=HN.out;omega);rw[List.drop_eq_getElem_cons hl];congr 1
      rw[List.getElem?_eq_getElem hl]at hm;injection hm
    rw[hd]at he;obtain ⟨f,hf⟩:∃f,((x:Int)==0)=f:=⟨_,rfl⟩;rw[hf,Cb]at he;have HQ:=Aa he;have hle:=HTT.out;rw[<-List.length_append,he]at hle;simp only[List.length_append,Uj]at hle;have HLE:=Aa hle;have HSG:=Aa (fun W=>Pe ⟨num,var,neg⟩ f W);have hbn:=FC hbl;have z1:Am 88 (wr.alloc (.cells #[.bool false,.string ⟨#[]⟩,.string ⟨#[]⟩] 88)) wr.heap.size #[.bool false,.string ⟨#[]⟩,.string ⟨#[]⟩]:=Am.new _ _ _;have HBLr:=Aa hbl;have hgb:wr.heap.size≠b:=(by omega)
    have HSZr:=Aa (show B<=wr.heap.size from Nat.le_trans HSZ.out HR.out.size);have d0:wr.cell? ⟨bb,oo+x*3,none⟩=some (.bool neg):=d0;have d1:wr.cell? ⟨bb,oo+x*3+1,none⟩=some (.string num):=d1;have d2:wr.cell? ⟨bb,oo+x*3+2,none⟩=some (.string var):=d2;clear he hm hle hd hbl HER;generalize Uk f neg=sg at *
    go_wp2_with (with_reducible refine Ab rfl 88 _ _ rfl wr.heap.size #[.bool neg,.string num,.string var] rfl rfl _ z1 (by kernel_rfl) rfl (by simp[Value.oneCell']) ?_;intro wy ky oy;have HBy:=Aa (show Below wr.heap.size wr wy from (Ae wr _).trans (oy.below (Ae wr _).size (Nat.le_refl _)));have XY:=Aa ky;have y0:=ky.cell 0 _ rfl;have y1:=ky.cell 1 _ rfl;have y2:=ky.cell 2 _ rfl;clear oy ky d0 d1 d2 z1);refine (HSG.out _).mono ?_;rintro e w4 ⟨rfl,b4⟩
    have HW4:=Aa (show Nu.BW B b wr w4 from Nu.BW.of_below (HBy.out.trans (b4.mono HBy.out.size)));have HL4:=Aa (HBLr.out.below (HBy.out.trans (b4.mono HBy.out.size)));have XY4:=Aa (XY.out.next b4);have HSZ4:=Aa (Nat.le_trans HSZr.out HW4.out.size);have HWR:=Aa (DD B b out ⟨sg.toArray⟩ w4 HL4.out (by rw[VZ];have:=HLE.out;omega) HSZ4.out);rw[VZ]at HWR;clear b4 y0 y1 y2 HSG XY;go_wp2_with fail;refine HWR.out.mono ?_;rintro e w5 ⟨rfl,h5,v5⟩;have HW5:=Aa (HW4.out.trans v5)
    have XY5:=Aa (FB v5 (by decide) hgb XY4.out);have HSZ5:=Aa (Nat.le_trans HSZr.out HW5.out.size);have HWR:=Aa (DD B b _ num w5 h5 (by rw[List.length_append];have:=HLE.out;omega) HSZ5.out);have y0:=XY5.out.cell 0 _ rfl;have y1:=XY5.out.cell 1 _ rfl;have y2:=XY5.out.cell 2 _ rfl;clear h5 v5 XY4;go_wp2_with fail;refine HWR.out.mono ?_;rintro e w6 ⟨rfl,h6,v6⟩;have HW6:=Aa (HW5.out.trans v6);have HL6:=Aa h6;have XY6:=Aa (FB v6 (by decide) hgb XY5.out)
    have HSZ6:=Aa (Nat.le_trans HSZr.out HW6.out.size);clear h6 v6 XY5 y0 y1 y2 HWR;have y1:=XY6.out.cell 1 _ rfl;have y2:=XY6.out.cell 2 _ rfl;by_cases hn:num=eS
    · have g1:=Dw hn;have g1b:(num.toList != ([]:List UInt8))=false:=(by simp[bne,g1]);have HC:=Aa (show ¬(num≠eS/\var≠eS) from fun hh=>hh.1 hn);clear hn;have HW7:=HW6;have HWR:=Aa (DD B b _ var w6 HL6.out (by simp only[List.length_append];have:=HLE.out;omega) HSZ6.out);go_wp2_with fail;refine HWR.out.mono ?_;rintro e w8 ⟨rfl,h8,v8⟩;have HF:=Aa (show bs++Cb true l=((out++sg)++ub num)++ub var++Cb (((x+1:Nat):Int)==0) (l.drop (x+1)) from by
        rw[HQ.out,show (((x+1:Nat):Int)==0)=false from by simp;omega,Uj,if_neg HC.out];simp[ub])
      go_wp2_with fail;go_roundw
      case rel=>exact ⟨x+1,by omega,by go_num,Aa ⟨_,h8,HF.out⟩,Aa (HR.out.trans (HW7.out.trans v8))⟩
      case measure=>simp[intOf];omega
    · have g1:=Cr hn;have g1b:(num.toList != ([]:List UInt8))=true:=(by simp[bne,g1]);by_cases hv:var=eS
      · have g2:=Dw hv;have g2b:(var.toList != ([]:List UInt8))=false:=(by simp[bne,g2]);have HC:=Aa (show ¬(num≠eS/\var≠eS) from fun hh=>hh.2 hv);clear hn hv;have HW7:=HW6;have HWR:=Aa (DD B b _ var w6 HL6.out (by simp only[List.length_append];have:=HLE.out;omega) HSZ6.out);go_wp2_with fail;refine HWR.out.mono ?_;rintro e w8 ⟨rfl,h8,v8⟩;have HF:=Aa (show bs++Cb true l=((out++sg)++ub num)++ub var++Cb (((x+1:Nat):Int)==0) (l.drop (x+1)) from by
         rw[HQ.out,show (((x+1:Nat):Int)==0)=false from by simp;omega,Uj,if_neg HC.out];simp[ub])
        go_wp2_with fail;go_roundw
        case rel=>exact ⟨x+1,by omega,by go_num,Aa ⟨_,h8,HF.out⟩,Aa (HR.out.trans (HW7.out.trans v8))⟩
        case measure=>simp[intOf];omega
      · have g2:=Cr hv;have g2b:(var.toList != ([]:List UInt8))=true:=(by simp[bne,g2]);have HC:=Aa (show (num≠eS/\var≠eS) from ⟨hn,hv⟩);clear hn hv;have HWR:=Aa (DD B b _ ⟨#[42]⟩ w6 HL6.out (by simp only[List.length_append];rw[if_pos HC.out]at HLE;have:=HLE.out;simp only[List.length_cons,List.length_nil]at this;show _+1<=_;omega) HSZ6.out);go_wp2_with fail;refine HWR.out.mono ?_;rintro e w7 ⟨rfl,h7,v7⟩;have HW7:=Aa (HW6.out.trans v7)
        have XY7:=Aa (FB v7 (by decide) hgb XY6.out);have HSZ7:=Aa (Nat.le_trans HSZr.out HW7.out.size);have HWR:=Aa (DD B b _ var w7 h7 (by simp only[List.length_append];rw[if_pos HC.out]at HLE;have:=HLE.out;simp only[List.length_cons,List.length_nil]at this;show _+1+_<=_;omega) HSZ7.out);clear h7 v7 y1 y2 XY6;have y2:=XY7.out.cell 2 _ rfl;go_wp2_with fail;refine HWR.out.mono ?_;rintro e w8 ⟨rfl,h8,v8⟩
        have HF:=Aa (show bs++Cb true l=(((out++sg)++ub num)++ub ⟨#[42]⟩)++ub var++Cb (((x+1:Nat):Int)==0) (l.drop (x+1)) from by rw[HQ.out,show (((x+1:Nat):Int)==0)=false from by simp;omega,Uj,if_pos HC.out];simp[ub])
        go_wp2_with fail;go_roundw
        case rel=>exact ⟨x+1,by omega,by go_num,Aa ⟨_,h8,HF.out⟩,Aa (HR.out.trans (HW7.out.trans v8))⟩
        case measure=>simp[intOf];omega
  · obtain rfl:x=n:=(by omega);have HP:=Aa (show DY B b (bs++Cb true l) w0 (.returned (.tuple #[])) wr from ⟨rfl,by rw[he,List.drop_of_length_le (by have:=HN.out;omega),Cb,List.append_nil];exact hbl,HR.out⟩);clear hbl he;go_wp2_with fail;go_end0
    exact HP.out
end
section
open Go.RowKit
open Lx Ex
def Ix (B b:Nat) (w:World) (f:Nat) (rest:Array Value) (tx:List UInt8):Prop:=
 ∀(out:List UInt8) (W:World),Nu.BW B b w W->Nu.Lv W B b (Lib.byteCells out)->out.length+tx.length<=140737488355328->Calls Tryz.prog f (#[.pointer (some ⟨b,0,none⟩)]++rest) W (DY B b (out++tx) W)
def XL (B b:Nat) (w:World) (A:Option Addr) (i:Nat) (u0 u1 u2 u3 u4 u5 u6:Value):Prop:=
 ∃ba oa,A=some ⟨ba,oa,none⟩/\Lw B b ba/\ba<w.heap.size/\w.cell? ⟨ba,oa+i*7,none⟩=some u0/\w.cell? ⟨ba,oa+i*7+1,none⟩=some u1/\w.cell? ⟨ba,oa+i*7+2,none⟩=some u2/\w.cell? ⟨ba,oa+i*7+3,none⟩=some u3/\w.cell? ⟨ba,oa+i*7+4,none⟩=some u4/\w.cell? ⟨ba,oa+i*7+5,none⟩=some u5/\w.cell? ⟨ba,oa+i*7+6,none⟩=some u6
theorem EI {B b k j:Nat} {w w':World} {v:Value} (h:Nu.BW B b w w') (hk:Lw B b k) (hlt:k<w.heap.size) (hc:w.cell? ⟨k,j,none⟩=some v):w'.cell? ⟨k,j,none⟩=some v:=(World.cell?_of_block (w:=w) (a:=⟨k,j,none⟩) (h.low k hlt hk.1 hk.2)).trans hc
theorem Ds (B b:Nat) (kd:Int) (Al:Option Addr) (nl cl:Nat) (Ar:Option Addr) (nr cr:Nat) (op:Int) (p q:ByteArray) (A:Option Addr) (n c:Nat) (k2:Int) (Al2:Option Addr) (BO cl2:Nat) (Ar2:Option Addr) (nr2 cr2:Nat) (op2:Int) (p2 q2:ByteArray) (A2:Option Addr) (n2 c2:Nat) (i:Nat) (tx:List UInt8) (w1:World) (hBs:B<=w1.heap.size) (hi:i<n) (hn:n<=c) (hc:c<=9223372036854775807) (hk:XL B b w1 A i (.int .i64 k2) (.slice Al2 BO cl2) (.slice Ar2 nr2 cr2) (.int .i64 op2) (.string p2) (.string q2) (.slice A2 n2 c2))
   (hw:Ix B b w1 42 #[.agg #[.int .i64 k2,.slice Al2 BO cl2,.slice Ar2 nr2 cr2,.int .i64 op2,.string p2,.string q2,.slice A2 n2 c2]] tx):Ix B b w1 71 #[.agg #[.int .i64 kd,.slice Al nl cl,.slice Ar nr cr,.int .i64 op,.string p,.string q,.slice A n c],.int .i64 (i:Int)] (Dr (Bh kd k2 i) tx):=by
 intro out w0 hbw hbl hT;obtain ⟨ba,oa,rfl,hba,hlt,e0,e1,e2,e3,e4,e5,e6⟩:=hk;have e0:=EI hbw hba hlt e0;have e1:=EI hbw hba hlt e1;have e2:=EI hbw hba hlt e2;have e3:=EI hbw hba hlt e3;have e4:=EI hbw hba hlt e4;have e5:=EI hbw hba hlt e5;have e6:=EI hbw hba hlt e6;have hlt0:ba<w0.heap.size:=Nat.lt_of_lt_of_le hlt hbw.size;have HSZ:=Aa (Nat.le_trans hBs hbw.size);have HWR:=Aa (fun (out:List UInt8) W (h:Nu.BW B b w0 W) hb hl=>hw out W (hbw.trans h) hb hl)
 obtain ⟨x1,hb,hsz⟩:=Ap 33 w0 #[.int .i64 kd,.slice Al nl cl,.slice Ar nr cr,.int .i64 op,.string p,.string q,.slice (some ⟨ba,oa,none⟩) n c];have HB:=Aa hb;have HBL0:=Aa (fun W (h:Below w0.heap.size w0 W)=>hbl.below h);have hbn:=FC hbl;have X1:=Aa x1;have HEL:=Aa (fun W=>F8 kd k2 i W);have HLT:=Aa hT;have e0:=(Af hb hlt0).trans e0;have e1:=(Af hb hlt0).trans e1;have e2:=(Af hb hlt0).trans e2;have e3:=(Af hb hlt0).trans e3;have e4:=(Af hb hlt0).trans e4
 have e5:=(Af hb hlt0).trans e5;have e6:=(Af hb hlt0).trans e6;have c6:=x1.cell 6 _ rfl
 have z1:Am 33 ((w0.alloc (.cells #[.int .i64 kd,.slice Al nl cl,.slice Ar nr cr,.int .i64 op,.string p,.string q,.slice (some ⟨ba,oa,none⟩) n c] 33)).alloc (.cells #[.int .i64 0,.slice none 0 0,.slice none 0 0,.int .i64 0,.string ⟨#[]⟩,.string ⟨#[]⟩,.slice none 0 0] 33)) (w0.heap.size+1) #[.int .i64 0,.slice none 0 0,.slice none 0 0,.int .i64 0,.string ⟨#[]⟩,.string ⟨#[]⟩,.slice none 0 0]:=by have:=Am.new 33 (w0.alloc (.cells #[.int .i64 kd,.slice Al nl cl,.slice Ar nr cr,.int .i64 op,.string p,.string q,.slice (some ⟨ba,oa,none⟩) n c] 33)) #[.int .i64 0,.slice none 0 0,.slice none 0 0,.int .i64 0,.string ⟨#[]⟩,.string ⟨#[]⟩,.slice none 0 0];rw[hsz]at this;exact this
 have hgi:(i:Int)<(n:Int):=by omega
 have hgb:w0.heap.size+1≠b:=by omega
 have hgb0:w0.heap.size≠b:=by omega
 have HW2:=Aa (show ∀W',Below (w0.heap.size) w0 W'->Nu.BW B b w0 W' from fun W' h=>Nu.BW.of_below h);clear hw hbl hT hbw hlt x1;go_enter Tryz.func71,Tryz.ntmps71
 go_wp2_with (with_reducible refine Ab rfl 33 _ _ rfl (w0.heap.size+1) #[.int .i64 k2,.slice Al2 BO cl2,.slice Ar2 nr2 cr2,.int .i64 op2,.string p2,.string q2,.slice A2 n2 c2] rfl rfl _ z1 (by kernel_rfl) rfl (by simp[Value.oneCell']) ?_;intro wy ky oy;have HBy:=Aa (show Below w0.heap.size w0 wy from (HB.out.trans ((Ae _ _).mono HB.out.size)).trans (oy.below (Nat.le_trans HB.out.size (Ae _ _).size) (by omega)));have XT:=Aa ((X1.out.alloc (.cells #[.int .i64 0,.slice none 0 0,.slice none 0 0,.int .i64 0,.string ⟨#[]⟩,.string ⟨#[]⟩,.slice none 0 0] 33)).other oy (by omega));have XY:=Aa ky;have c0:=XT.out.cell 0 _ rfl;have y0:=ky.cell 0 _ rfl;clear oy ky e0 e1 e2 e3 e4 e5 e6 c6 z1)
 refine (HEL.out _).mono ?_;rintro e w4 ⟨rfl,b4⟩;have HB4:=Aa (show Below w0.heap.size w0 w4 from HBy.out.trans (b4.mono HBy.out.size));have XY4:=Aa (XY.out.next b4);clear b4 c0 y0;have y0:=XY4.out.cell 0 _ rfl;have y1:=XY4.out.cell 1 _ rfl;have y2:=XY4.out.cell 2 _ rfl;have y3:=XY4.out.cell 3 _ rfl;have y4:=XY4.out.cell 4 _ rfl;have y5:=XY4.out.cell 5 _ rfl;have y6:=XY4.out.cell 6 _ rfl;have HV4:=Aa (HW2.out w4 HB4.out);generalize Bh kd k2 i=bl at *;cases bl
 · have HL4:=Aa (HBL0.out w4 HB4.out);go_wp2_with fail;refine (HWR.out out w4 HV4.out HL4.out (by have:=HLT.out;exact this)).mono ?_;rintro e w6 ⟨rfl,h6,v6⟩;have HP:=Aa (show DY B b (out++Dr false tx) w0 (.returned (.tuple #[])) w6 from ⟨rfl,h6,HV4.out.trans v6⟩);clear h6 v6;go_wp2_with fail;go_end0
   exact HP.out
 · have HLN:=Aa (show out.length+(tx.length+2)<=140737488355328 from by have:=HLT.out;unfold Dr at this;rw[if_pos rfl]at this;simp only[List.length_cons,List.length_append,List.length_nil]at this;omega);have HW1:=Aa (DD B b out ⟨#[40]⟩ w4 (HBL0.out w4 HB4.out) (by have:=HLN.out;show _+1<=_;omega) (Nat.le_trans HSZ.out HB4.out.size));go_wp2_with fail;refine HW1.out.mono ?_;rintro e w5 ⟨rfl,h5,v5⟩;have HV5:=Aa (HV4.out.trans v5);have XY5:=Aa (FB v5 (by decide) hgb XY4.out)
   have HL5:=Aa h5;clear h5 v5 y0 y1 y2 y3 y4 y5 y6;have y0:=XY5.out.cell 0 _ rfl;have y1:=XY5.out.cell 1 _ rfl;have y2:=XY5.out.cell 2 _ rfl;have y3:=XY5.out.cell 3 _ rfl;have y4:=XY5.out.cell 4 _ rfl;have y5:=XY5.out.cell 5 _ rfl;have y6:=XY5.out.cell 6 _ rfl;go_wp2_with fail;refine (HWR.out _ w5 HV5.out HL5.out (by have:=HLN.out;simp only[List.length_append];show _+1+_<=_;omega)).mono ?_;rintro e w6 ⟨rfl,h6,v6⟩;have HV6:=Aa (HV5.out.trans v6)
   have HW2:=Aa (DD B b _ ⟨#[41]⟩ w6 h6 (by have:=HLN.out;simp only[List.length_append];show _+1+_+1<=_;omega) (Nat.le_trans HSZ.out HV6.out.size));clear h6 v6 y0 y1 y2 y3 y4 y5 y6;go_wp2_with fail;refine HW2.out.mono ?_;rintro e w7 ⟨rfl,h7,v7⟩;have HP:=Aa (show DY B b (out++Dr true tx) w0 (.returned (.tuple #[])) w7 from ⟨rfl,by
    have e1:out++Dr true tx=out++ub ⟨#[40]⟩++tx++ub ⟨#[41]⟩:=(by unfold Dr;rw[if_pos rfl];simp[ub]);rw[e1];exact h7,HV6.out.trans v7⟩)
   clear h7 v7;go_wp2_with fail;go_end0
   exact HP.out
theorem GC (B b:Nat) (kd:Int) (Al:Option Addr) (nl cl:Nat) (Ar:Option Addr) (nr cr:Nat) (op:Int) (p q:ByteArray) (A:Option Addr) (n c:Nat) (s:ByteArray) (ta tb:List UInt8) (w1:World) (hBs:B<=w1.heap.size)
  (ha:Ix B b w1 71 #[.agg #[.int .i64 kd,.slice Al nl cl,.slice Ar nr cr,.int .i64 op,.string p,.string q,.slice A n c],.int .i64 0] ta) (hb:Ix B b w1 71 #[.agg #[.int .i64 kd,.slice Al nl cl,.slice Ar nr cr,.int .i64 op,.string p,.string q,.slice A n c],.int .i64 1] tb):Ix B b w1 72 #[.agg #[.int .i64 kd,.slice Al nl cl,.slice Ar nr cr,.int .i64 op,.string p,.string q,.slice A n c],.string s] (ta++(ub s++tb)):=by
 intro out w0 hbw hbl hT;have HSZ:=Aa (Nat.le_trans hBs hbw.size);have HA:=Aa (fun (out:List UInt8) W (h:Nu.BW B b w0 W) hb hl=>ha out W (hbw.trans h) hb hl);have HBB:=Aa (fun (out:List UInt8) W (h:Nu.BW B b w0 W) hbb hl=>hb out W (hbw.trans h) hbb hl);obtain ⟨x1,hb,hsz⟩:=Ap 33 w0 #[.int .i64 kd,.slice Al nl cl,.slice Ar nr cr,.int .i64 op,.string p,.string q,.slice A n c];have HL1:=Aa (hbl.below hb);have HV1:=Aa (Nu.BW.of_below (B:=B) (b:=b) hb);have hbn:=FC hbl
 have hgb0:w0.heap.size≠b:=by omega
 have X1:=Aa x1;have HLT:=Aa (show out.length+(ta.length+((ub s).length+tb.length))<=140737488355328 from by simp only[List.length_append]at hT;omega);have c0:=x1.cell 0 _ rfl;have c1:=x1.cell 1 _ rfl;have c2:=x1.cell 2 _ rfl;have c3:=x1.cell 3 _ rfl;have c4:=x1.cell 4 _ rfl;have c5:=x1.cell 5 _ rfl;have c6:=x1.cell 6 _ rfl;clear ha hb hbl hT hbw x1;go_enter Tryz.func72,Tryz.ntmps72;go_wp2_with fail;refine (HA.out out _ HV1.out HL1.out (by have:=HLT.out;omega)).mono ?_
 rintro e w3 ⟨rfl,h3,v3⟩;have HV3:=Aa (HV1.out.trans v3);have X3:=Aa (FB v3 (by decide) hgb0 X1.out);have HW1:=Aa (DD B b _ s w3 h3 (by have:=HLT.out;simp only[List.length_append];omega) (Nat.le_trans HSZ.out HV3.out.size));clear h3 v3 c0 c1 c2 c3 c4 c5 c6 X1;go_wp2_with fail;refine HW1.out.mono ?_;rintro e w5 ⟨rfl,h5,v5⟩;have HV5:=Aa (HV3.out.trans v5);have HL5:=Aa h5;have X5:=Aa (FB v5 (by decide) hgb0 X3.out);clear h5 v5 X3;have c0:=X5.out.cell 0 _ rfl
 have c1:=X5.out.cell 1 _ rfl;have c2:=X5.out.cell 2 _ rfl;have c3:=X5.out.cell 3 _ rfl;have c4:=X5.out.cell 4 _ rfl;have c5:=X5.out.cell 5 _ rfl;have c6:=X5.out.cell 6 _ rfl;go_wp2_with fail;refine (HBB.out _ w5 HV5.out HL5.out (by have:=HLT.out;simp only[List.length_append];omega)).mono ?_;rintro e w6 ⟨rfl,h6,v6⟩
 have HP:=Aa (show DY B b (out++(ta++(ub s++tb))) w0 (.returned (.tuple #[])) w6 from ⟨rfl,by rw[<-List.append_assoc,<-List.append_assoc];exact h6,HV5.out.trans v6⟩);clear h6 v6;go_wp2_with fail;go_end0
 exact HP.out
end
section
open Go.RowKit
open Lx Ex
theorem AW.kindOf {S:Nat->Prop} {w:World} {t:GT} {kd:Int} {Al:Option Addr} {nl cl:Nat} {Ar:Option Addr} {nr cr:Nat} {op:Int} {p q:ByteArray} {A:Option Addr} {n c:Nat} (h:AW S w t [.int .i64 kd,.slice Al nl cl,.slice Ar nr cr,.int .i64 op,.string p,.string q,.slice A n c]):t.kind=kd:=by obtain ⟨l,r,ks,rfl,-⟩:=h.parts;rfl
theorem ND (o:Nat):(Ff o).size<=2:=by unfold Ff;split<;>decide
theorem Bc.bw {B b:Nat} {w w':World} (h:Bc w) (hg:Lw B b 0) (hb:Nu.BW B b w w'):Bc w':=fun j hj=>EI hb hg (World.block_lt_of_cell? w _ (h j hj)) (h j hj)
def IP (u:Tr):Prop:=∀(lv B b:Nat) (vs:List Value) (w1:World),right lv u->AW (Lw B b) w1 (gt u) vs->B<=w1.heap.size->Bc w1->Lw B b 0->Ix B b w1 42 #[.agg vs.toArray] (AC u)
theorem Ul:IP (.leaf false):=by
 intro lv B b vs w1 hri h hBs ho hg out w0 hbw hbl hT;obtain ⟨kd,Al,nl,cl,Ar,nr,cr,op,p,q,A,n,c,rfl⟩:=h.shape;obtain ⟨l',r',ks,e,hl,hr,hk,hl1,hl2,hr1,hr2,hn1,hn2,hkid⟩:=h.parts;have e:GT.mk 1 [] [] 0 ⟨#[]⟩ ⟨#[]⟩ []=GT.mk kd l' r' op p q ks:=e;injection e with e1 e2 e3 e4 e5 e6 e7
 subst e1 e2 e3 e4 e5 e6 e7;have HSZ:=Aa (Nat.le_trans hBs hbw.size);obtain ⟨x1,hb,hsz⟩:=Ap 33 w0 #[.int .i64 1,.slice Al nl cl,.slice Ar nr cr,.int .i64 0,.string ⟨#[]⟩,.string ⟨#[]⟩,.slice A n c];have HL1:=Aa (hbl.below hb);have HV1:=Aa (Nu.BW.of_below (B:=B) (b:=b) hb);have HB1:=Aa hb;have hbn:=FC hbl;have hgb0:w0.heap.size≠b:=by omega
 have X1:=Aa x1;have HLT:=Aa hT;have c0:=x1.cell 0 _ rfl;have c1:=x1.cell 1 _ rfl;have c2:=x1.cell 2 _ rfl;have c3:=x1.cell 3 _ rfl;have c4:=x1.cell 4 _ rfl;have c5:=x1.cell 5 _ rfl;have c6:=x1.cell 6 _ rfl;have HW:=Aa (DD B b out ⟨#[102,97,108,115,101]⟩ _ HL1.out (by have:=HLT.out;exact this) (Nat.le_trans HSZ.out HB1.out.size));clear hbl hT hbw hb x1 hl hr hk hkid h ho hg hBs;go_enter Tryz.func42,Tryz.ntmps42;go_wp2_with fail;refine HW.out.mono ?_;rintro e w3 ⟨rfl,h3,v3⟩
 have HP:=Aa (show DY B b (out++AC (.leaf false)) w0 (.returned (.tuple #[])) w3 from ⟨rfl,h3,HV1.out.trans v3⟩);clear h3 v3;go_wp2_with fail;go_end0
 exact HP.out
theorem Vx:IP (.leaf true):=by
 intro lv B b vs w1 hri h hBs ho hg out w0 hbw hbl hT;obtain ⟨kd,Al,nl,cl,Ar,nr,cr,op,p,q,A,n,c,rfl⟩:=h.shape;obtain ⟨l',r',ks,e,hl,hr,hk,hl1,hl2,hr1,hr2,hn1,hn2,hkid⟩:=h.parts;have e:GT.mk 0 [] [] 0 ⟨#[]⟩ ⟨#[]⟩ []=GT.mk kd l' r' op p q ks:=e;injection e with e1 e2 e3 e4 e5 e6 e7
 subst e1 e2 e3 e4 e5 e6 e7;have HSZ:=Aa (Nat.le_trans hBs hbw.size);obtain ⟨x1,hb,hsz⟩:=Ap 33 w0 #[.int .i64 0,.slice Al nl cl,.slice Ar nr cr,.int .i64 0,.string ⟨#[]⟩,.string ⟨#[]⟩,.slice A n c];have HL1:=Aa (hbl.below hb);have HV1:=Aa (Nu.BW.of_below (B:=B) (b:=b) hb);have HB1:=Aa hb;have hbn:=FC hbl;have hgb0:w0.heap.size≠b:=by omega
 have X1:=Aa x1;have HLT:=Aa hT;have c0:=x1.cell 0 _ rfl;have c1:=x1.cell 1 _ rfl;have c2:=x1.cell 2 _ rfl;have c3:=x1.cell 3 _ rfl;have c4:=x1.cell 4 _ rfl;have c5:=x1.cell 5 _ rfl;have c6:=x1.cell 6 _ rfl;have HW:=Aa (DD B b out ⟨#[116,114,117,101]⟩ _ HL1.out (by have:=HLT.out;exact this) (Nat.le_trans HSZ.out HB1.out.size));clear hbl hT hbw hb x1 hl hr hk hkid h ho hg hBs;go_enter Tryz.func42,Tryz.ntmps42;go_wp2_with fail;refine HW.out.mono ?_;rintro e w3 ⟨rfl,h3,v3⟩
 have HP:=Aa (show DY B b (out++AC (.leaf true)) w0 (.returned (.tuple #[])) w3 from ⟨rfl,h3,HV1.out.trans v3⟩);clear h3 v3;go_wp2_with fail;go_end0
 exact HP.out
theorem WU (l r:List Mn) (o:Nat):IP (.cmp l o r):=by
 intro lv B b vs w1 hri h hBs ho hg out w0 hbw hbl hT;obtain ⟨kd,Al,nl,cl,Ar,nr,cr,op,p,q,A,n,c,rfl⟩:=h.shape;obtain ⟨l',r',ks,e,hl,hr,hk,hl1,hl2,hr1,hr2,hn1,hn2,hkid⟩:=h.parts;have e:GT.mk 2 l r (o:Int) ⟨#[]⟩ ⟨#[]⟩ []=GT.mk kd l' r' op p q ks:=e;injection e with e1 e2 e3 e4 e5 e6 e7
 subst e1 e2 e3 e4 e5 e6 e7;have ho6:o<6:=by rw[right]at hri;exact hri.2.1
 have hgl:=World.block_lt_of_cell? _ _ (ho 0 (by omega));have hgc:=(ho.bw hg hbw) o ho6;have HOT:=Aa (show ∀W,Nu.BW B b w0 W->W.cell? ⟨0,o,none⟩=some (.string (Ff o)) from fun W hW=>((ho.bw hg hbw).bw hg hW) o ho6);have HMR:=Aa (show ∀W,Nu.BW B b w0 W->Du (Lw B b) W Ar nr r from fun W hW=>hr.keep (Mo (hbw.trans hW)));have HML:=Aa (show ∀W,Nu.BW B b w0 W->Du (Lw B b) W Al nl l from fun W hW=>hl.keep (Mo (hbw.trans hW)));have HSZ:=Aa (Nat.le_trans hBs hbw.size)
 obtain ⟨x1,hb,hsz⟩:=Ap 33 w0 #[.int .i64 2,.slice Al nl cl,.slice Ar nr cr,.int .i64 (o:Int),.string ⟨#[]⟩,.string ⟨#[]⟩,.slice A n c];have HL1:=Aa (hbl.below hb);have HV1:=Aa (Nu.BW.of_below (B:=B) (b:=b) hb);have HB1:=Aa hb;have hbn:=FC hbl;have hgb0:w0.heap.size≠b:=by omega
 have X1:=Aa x1;have HLT:=Aa hT;have c0:=x1.cell 0 _ rfl;have c1:=x1.cell 1 _ rfl;have c2:=x1.cell 2 _ rfl;have c3:=x1.cell 3 _ rfl;have c4:=x1.cell 4 _ rfl;have c5:=x1.cell 5 _ rfl;have c6:=x1.cell 6 _ rfl;have HLN:=Aa (show out.length+((Cb true l).length+((ub (Ff o)).length+2+(Cb true r).length))<=140737488355328 from by simp only[AC,List.length_append,List.length_cons]at hT;omega)
 have HWL:=Aa (FD B b out Al nl cl l _ (HML.out _ HV1.out) HL1.out (Nat.le_trans HSZ.out HB1.out.size) hl1 hl2 (by have:=HLN.out;omega));clear hbl hT hbw hb x1 hl hr hk hkid h ho hg hBs hgl hgc;go_enter Tryz.func42,Tryz.ntmps42;go_wp2_with fail;refine HWL.out.mono ?_;rintro e w3 ⟨rfl,h3,v3⟩;have HV3:=Aa (HV1.out.trans v3);have X3:=Aa (FB v3 (by decide) hgb0 X1.out);have hgc:=HOT.out w3 HV3.out
 have HWO:=Aa (DD B b _ (⟨#[32]⟩++Ff o++⟨#[32]⟩) w3 h3 (by have:=HLN.out;have e:ub (⟨#[32]⟩++Ff o++⟨#[32]⟩)=32::(ub (Ff o)++[32]):=(by simp[ub]);rw[e];simp only[List.length_append,List.length_cons,List.length_nil];omega) (Nat.le_trans HSZ.out HV3.out.size));have hos1:(⟨#[32]⟩:ByteArray).size+(Ff o).size<=9223372036854775807:=by have:=ND o;show 1+_<=_;omega
 have hos2:(⟨#[32]⟩++Ff o:ByteArray).size+(⟨#[32]⟩:ByteArray).size<=9223372036854775807:=by have:=ND o;rw[ByteArray.size_append];show 1+_+1<=_;omega
 have hoi:(0:Int)<=(o:Int):=by omega
 have hoj:(o:Int)<6:=by omega
 clear h3 v3 c0 c1 c2 c3 c4 c5 c6;have c3:=X3.out.cell 3 _ rfl;go_wp2_with fail;refine HWO.out.mono ?_;rintro e w5 ⟨rfl,h5,v5⟩;have HV5:=Aa (HV3.out.trans v5);have X5:=Aa (FB v5 (by decide) hgb0 X3.out);have HWR:=Aa (FD B b _ Ar nr cr r _ (HMR.out _ HV5.out) h5 (Nat.le_trans HSZ.out HV5.out.size) hr1 hr2 (by have:=HLN.out;have e:ub (⟨#[32]⟩++Ff o++⟨#[32]⟩)=32::(ub (Ff o)++[32]):=(by simp[ub]);rw[e];simp only[List.length_append,List.length_cons,List.length_nil];omega))
 clear h5 v5 c3 hgc;have c2:=X5.out.cell 2 _ rfl;go_wp2_with fail;refine HWR.out.mono ?_;rintro e w6 ⟨rfl,h6,v6⟩;have HP:=Aa (show DY B b (out++AC (.cmp l o r)) w0 (.returned (.tuple #[])) w6 from ⟨rfl,by
  have e:out++AC (.cmp l o r)=out++Cb true l++ub (⟨#[32]⟩++Ff o++⟨#[32]⟩)++Cb true r:=by simp[ub,AC]
  rw[e];exact h6,HV5.out.trans v6⟩)
 clear h6 v6;go_wp2_with fail;go_end0
 exact HP.out
theorem Vy (t:Tr) (ih:IP t):IP (.deny t):=by
 intro lv B b vs w1 hri h hBs ho hg out w0 hbw hbl hT;obtain ⟨kd,Al,nl,cl,Ar,nr,cr,op,p,q,A,n,c,rfl⟩:=h.shape;obtain ⟨l',r',ks,e,hl,hr,hk,hl1,hl2,hr1,hr2,hn1,hn2,hkid⟩:=h.parts;have e:GT.mk 3 [] [] 0 ⟨#[]⟩ ⟨#[]⟩ [gt t]=GT.mk kd l' r' op p q ks:=e;injection e with e1 e2 e3 e4 e5 e6 e7
 subst e1 e2 e3 e4 e5 e6 e7;obtain ⟨l2,h2⟩:∃l2,right l2 t:=by
  rw[right]at hri;split at hri
  · exact ⟨_,hri.2⟩
  · exact ⟨_,hri.2⟩
 obtain ⟨ba0,oa0,t0,k2_0,Al2_0,nl2_0,cl2_0,Ar2_0,nr2_0,cr2_0,op2_0,p2_0,q2_0,A2_0,n2_0,c2_0,hA0,hS0,hlt0,ht0,hti0,e00,e01,e02,e03,e04,e05,e06⟩:=hkid 0 (by rw[<-hk];simp);have ht0:some (gt t)=some t0:=ht0;injection ht0 with ht0
 subst ht0;have hkk0:=hti0.kindOf;have hw0:=ih l2 B b _ w1 h2 hti0 hBs ho hg;have HK0:=Aa (fun (out:List UInt8) W (hW:Nu.BW B b w0 W) hb hl=>Ds B b 3 Al nl cl Ar nr cr 0 ⟨#[]⟩ ⟨#[]⟩ A n c k2_0 Al2_0 nl2_0 cl2_0 Ar2_0 nr2_0 cr2_0 op2_0 p2_0 q2_0 A2_0 n2_0 c2_0 0 _ w1 hBs (by rw[<-hk];simp) hn1 hn2 ⟨ba0,oa0,hA0,hS0,hlt0,e00,e01,e02,e03,e04,e05,e06⟩ hw0 out W (hbw.trans hW) hb hl);rw[<-hkk0]at HK0;rw[VT]at HK0;have HSZ:=Aa (Nat.le_trans hBs hbw.size)
 obtain ⟨x1,hb,hsz⟩:=Ap 33 w0 #[.int .i64 3,.slice Al nl cl,.slice Ar nr cr,.int .i64 0,.string ⟨#[]⟩,.string ⟨#[]⟩,.slice A n c];have HL1:=Aa (hbl.below hb);have HV1:=Aa (Nu.BW.of_below (B:=B) (b:=b) hb);have HB1:=Aa hb;have hbn:=FC hbl;have hgb0:w0.heap.size≠b:=by omega
 have X1:=Aa x1;have HLT:=Aa hT;have c0:=x1.cell 0 _ rfl;have c1:=x1.cell 1 _ rfl;have c2:=x1.cell 2 _ rfl;have c3:=x1.cell 3 _ rfl;have c4:=x1.cell 4 _ rfl;have c5:=x1.cell 5 _ rfl;have c6:=x1.cell 6 _ rfl;have HLN:=Aa (show out.length+(1+(Dr (Bi t || AR t) (AC t)).length)<=140737488355328 from by simp only[AC,List.length_append,List.length_cons]at hT;omega);have HW:=Aa (DD B b out ⟨#[33]⟩ _ HL1.out (by have:=HLN.out;show _+1<=_;omega) (Nat.le_trans HSZ.out HB1.out.size))
 clear hA0 hS0 hlt0 hti0 hkk0 hw0 e00 e01 e02 e03 e04 e05 e06;clear hbl hT hbw hb x1 hl hr hk hkid h ho hg hBs ih h2;go_enter Tryz.func42,Tryz.ntmps42;go_wp2_with fail;refine HW.out.mono ?_;rintro e w3 ⟨rfl,h3,v3⟩;have HV3:=Aa (HV1.out.trans v3);have X3:=Aa (FB v3 (by decide) hgb0 X1.out);have HW3:=Aa (HK0.out _ w3 HV3.out h3 (by have:=HLN.out;simp only[List.length_append];show _+1+_<=_;omega));clear h3 v3 c0 c1 c2 c3 c4 c5 c6;have c0:=X3.out.cell 0 _ rfl
 have c1:=X3.out.cell 1 _ rfl;have c2:=X3.out.cell 2 _ rfl;have c3:=X3.out.cell 3 _ rfl;have c4:=X3.out.cell 4 _ rfl;have c5:=X3.out.cell 5 _ rfl;have c6:=X3.out.cell 6 _ rfl;go_wp2_with fail;refine HW3.out.mono ?_;rintro e w6 ⟨rfl,h6,v6⟩;have HP:=Aa (show DY B b (out++AC (.deny t)) w0 (.returned (.tuple #[])) w6 from ⟨rfl,by
  have e:out++AC (.deny t)=out++ub ⟨#[33]⟩++Dr (Bi t || AR t) (AC t):=by simp[ub,AC]
  rw[e];exact h6,HV3.out.trans v6⟩)
 clear h6 v6;go_wp2_with fail;go_end0
 exact HP.out
theorem Vz (ta tb:Tr) (iha:IP ta) (ihb:IP tb):IP (.both ta tb):=by
 intro lv B b vs w1 hri h hBs ho hg out w0 hbw hbl hT;obtain ⟨kd,Al,nl,cl,Ar,nr,cr,op,p,q,A,n,c,rfl⟩:=h.shape;obtain ⟨l',r',ks,e,hl,hr,hk,hl1,hl2,hr1,hr2,hn1,hn2,hkid⟩:=h.parts;have e:GT.mk 4 [] [] 0 ⟨#[]⟩ ⟨#[]⟩ [gt ta,gt tb]=GT.mk kd l' r' op p q ks:=e;injection e with e1 e2 e3 e4 e5 e6 e7
 subst e1 e2 e3 e4 e5 e6 e7;obtain ⟨la,ha⟩:∃l2,right l2 ta:=by
  rw[right]at hri;have:=hri.1;first
  |(
   split at this
   · exact ⟨_,this.2⟩
   · exact ⟨_,this⟩)
  |exact ⟨_,this⟩
 obtain ⟨lb,hb2⟩:∃l2,right l2 tb:=by
  rw[right]at hri;have:=hri.2;first
  |(
   split at this
   · exact ⟨_,this.2⟩
   · exact ⟨_,this⟩)
  |exact ⟨_,this⟩
 obtain ⟨ba0,oa0,t0,k2_0,Al2_0,nl2_0,cl2_0,Ar2_0,nr2_0,cr2_0,op2_0,p2_0,q2_0,A2_0,n2_0,c2_0,hA0,hS0,hlt0,ht0,hti0,e00,e01,e02,e03,e04,e05,e06⟩:=hkid 0 (by rw[<-hk];simp);have ht0:some (gt ta)=some t0:=ht0;injection ht0 with ht0
 subst ht0;have hkk0:=hti0.kindOf;have hw0:=iha la B b _ w1 ha hti0 hBs ho hg;have HK0:=Aa (fun (out:List UInt8) W (hW:Nu.BW B b w0 W) hb hl=>Ds B b 4 Al nl cl Ar nr cr 0 ⟨#[]⟩ ⟨#[]⟩ A n c k2_0 Al2_0 nl2_0 cl2_0 Ar2_0 nr2_0 cr2_0 op2_0 p2_0 q2_0 A2_0 n2_0 c2_0 0 _ w1 hBs (by rw[<-hk];simp) hn1 hn2 ⟨ba0,oa0,hA0,hS0,hlt0,e00,e01,e02,e03,e04,e05,e06⟩ hw0 out W (hbw.trans hW) hb hl);rw[<-hkk0]at HK0
 obtain ⟨ba1,oa1,t1,k2_1,Al2_1,nl2_1,cl2_1,Ar2_1,nr2_1,cr2_1,op2_1,p2_1,q2_1,A2_1,n2_1,c2_1,hA1,hS1,hlt1,ht1,hti1,e10,e11,e12,e13,e14,e15,e16⟩:=hkid 1 (by rw[<-hk];simp);have ht1:some (gt tb)=some t1:=ht1;injection ht1 with ht1
 subst ht1;have hkk1:=hti1.kindOf;have hw1:=ihb lb B b _ w1 hb2 hti1 hBs ho hg;have HK1:=Aa (fun (out:List UInt8) W (hW:Nu.BW B b w0 W) hb hl=>Ds B b 4 Al nl cl Ar nr cr 0 ⟨#[]⟩ ⟨#[]⟩ A n c k2_1 Al2_1 nl2_1 cl2_1 Ar2_1 nr2_1 cr2_1 op2_1 p2_1 q2_1 A2_1 n2_1 c2_1 1 _ w1 hBs (by rw[<-hk];simp) hn1 hn2 ⟨ba1,oa1,hA1,hS1,hlt1,e10,e11,e12,e13,e14,e15,e16⟩ hw1 out W (hbw.trans hW) hb hl);rw[<-hkk1]at HK1;rw[TR]at HK0;rw[TS]at HK1;have HSZ:=Aa (Nat.le_trans hBs hbw.size)
 obtain ⟨x1,hb,hsz⟩:=Ap 33 w0 #[.int .i64 4,.slice Al nl cl,.slice Ar nr cr,.int .i64 0,.string ⟨#[]⟩,.string ⟨#[]⟩,.slice A n c];have HL1:=Aa (hbl.below hb);have HV1:=Aa (Nu.BW.of_below (B:=B) (b:=b) hb);have HB1:=Aa hb;have hbn:=FC hbl;have hgb0:w0.heap.size≠b:=by omega
 have X1:=Aa x1;have HLT:=Aa hT;have c0:=x1.cell 0 _ rfl;have c1:=x1.cell 1 _ rfl;have c2:=x1.cell 2 _ rfl;have c3:=x1.cell 3 _ rfl;have c4:=x1.cell 4 _ rfl;have c5:=x1.cell 5 _ rfl;have c6:=x1.cell 6 _ rfl
 have HW:=Aa (GC B b 4 Al nl cl Ar nr cr 0 ⟨#[]⟩ ⟨#[]⟩ A n c ⟨#[32,38,32]⟩ (Dr (AR ta) (AC ta)) (Dr (Bi tb || AR tb) (AC tb)) w0 HSZ.out (fun o2 W hW hb hl=>HK0.out o2 W hW hb hl) (fun o2 W hW hb hl=>HK1.out o2 W hW hb hl) out _ HV1.out HL1.out (by have:=HLT.out;simp only[AC]at this;exact this));clear hA0 hS0 hlt0 hti0 hkk0 hw0 e00 e01 e02 e03 e04 e05 e06;clear hA1 hS1 hlt1 hti1 hkk1 hw1 e10 e11 e12 e13 e14 e15 e16
 clear hbl hT hbw hb x1 hl hr hk hkid h ho hg hBs iha ihb ha hb2;go_enter Tryz.func42,Tryz.ntmps42;go_wp2_with fail;refine HW.out.mono ?_;rintro e w6 ⟨rfl,h6,v6⟩;have HP:=Aa (show DY B b (out++AC (.both ta tb)) w0 (.returned (.tuple #[])) w6 from ⟨rfl,by
  have e:out++AC (.both ta tb)=out++((Dr (AR ta) (AC ta))++(ub ⟨#[32,38,32]⟩++(Dr (Bi tb || AR tb) (AC tb)))):=by simp[ub,AC]
  rw[e];exact h6,HV1.out.trans v6⟩)
 clear h6 v6;go_wp2_with fail;go_end0
 exact HP.out
theorem V0 (ta tb:Tr) (iha:IP ta) (ihb:IP tb):IP (.any ta tb):=by
 intro lv B b vs w1 hri h hBs ho hg out w0 hbw hbl hT;obtain ⟨kd,Al,nl,cl,Ar,nr,cr,op,p,q,A,n,c,rfl⟩:=h.shape;obtain ⟨l',r',ks,e,hl,hr,hk,hl1,hl2,hr1,hr2,hn1,hn2,hkid⟩:=h.parts;have e:GT.mk 5 [] [] 0 ⟨#[]⟩ ⟨#[]⟩ [gt ta,gt tb]=GT.mk kd l' r' op p q ks:=e;injection e with e1 e2 e3 e4 e5 e6 e7
 subst e1 e2 e3 e4 e5 e6 e7;obtain ⟨la,ha⟩:∃l2,right l2 ta:=by
  rw[right]at hri;have:=hri.1;first
  |(
   split at this
   · exact ⟨_,this.2⟩
   · exact ⟨_,this⟩)
  |exact ⟨_,this⟩
 obtain ⟨lb,hb2⟩:∃l2,right l2 tb:=by
  rw[right]at hri;have:=hri.2;first
  |(
   split at this
   · exact ⟨_,this.2⟩
   · exact ⟨_,this⟩)
  |exact ⟨_,this⟩
 obtain ⟨ba0,oa0,t0,k2_0,Al2_0,nl2_0,cl2_0,Ar2_0,nr2_0,cr2_0,op2_0,p2_0,q2_0,A2_0,n2_0,c2_0,hA0,hS0,hlt0,ht0,hti0,e00,e01,e02,e03,e04,e05,e06⟩:=hkid 0 (by rw[<-hk];simp);have ht0:some (gt ta)=some t0:=ht0;injection ht0 with ht0
 subst ht0;have hkk0:=hti0.kindOf;have hw0:=iha la B b _ w1 ha hti0 hBs ho hg;have HK0:=Aa (fun (out:List UInt8) W (hW:Nu.BW B b w0 W) hb hl=>Ds B b 5 Al nl cl Ar nr cr 0 ⟨#[]⟩ ⟨#[]⟩ A n c k2_0 Al2_0 nl2_0 cl2_0 Ar2_0 nr2_0 cr2_0 op2_0 p2_0 q2_0 A2_0 n2_0 c2_0 0 _ w1 hBs (by rw[<-hk];simp) hn1 hn2 ⟨ba0,oa0,hA0,hS0,hlt0,e00,e01,e02,e03,e04,e05,e06⟩ hw0 out W (hbw.trans hW) hb hl);rw[<-hkk0]at HK0
 obtain ⟨ba1,oa1,t1,k2_1,Al2_1,nl2_1,cl2_1,Ar2_1,nr2_1,cr2_1,op2_1,p2_1,q2_1,A2_1,n2_1,c2_1,hA1,hS1,hlt1,ht1,hti1,e10,e11,e12,e13,e14,e15,e16⟩:=hkid 1 (by rw[<-hk];simp);have ht1:some (gt tb)=some t1:=ht1;injection ht1 with ht1
 subst ht1;have hkk1:=hti1.kindOf;have hw1:=ihb lb B b _ w1 hb2 hti1 hBs ho hg;have HK1:=Aa (fun (out:List UInt8) W (hW:Nu.BW B b w0 W) hb hl=>Ds B b 5 Al nl cl Ar nr cr 0 ⟨#[]⟩ ⟨#[]⟩ A n c k2_1 Al2_1 nl2_1 cl2_1 Ar2_1 nr2_1 cr2_1 op2_1 p2_1 q2_1 A2_1 n2_1 c2_1 1 _ w1 hBs (by rw[<-hk];simp) hn1 hn2 ⟨ba1,oa1,hA1,hS1,hlt1,e10,e11,e12,e13,e14,e15,e16⟩ hw1 out W (hbw.trans hW) hb hl);rw[<-hkk1]at HK1;rw[TT,show Dr false (AC ta)=AC ta from rfl]at HK0;rw[TU]at HK1
 have HSZ:=Aa (Nat.le_trans hBs hbw.size);obtain ⟨x1,hb,hsz⟩:=Ap 33 w0 #[.int .i64 5,.slice Al nl cl,.slice Ar nr cr,.int .i64 0,.string ⟨#[]⟩,.string ⟨#[]⟩,.slice A n c];have HL1:=Aa (hbl.below hb);have HV1:=Aa (Nu.BW.of_below (B:=B) (b:=b) hb);have HB1:=Aa hb;have hbn:=FC hbl;have hgb0:w0.heap.size≠b:=by omega
 have X1:=Aa x1;have HLT:=Aa hT;have c0:=x1.cell 0 _ rfl;have c1:=x1.cell 1 _ rfl;have c2:=x1.cell 2 _ rfl;have c3:=x1.cell 3 _ rfl;have c4:=x1.cell 4 _ rfl;have c5:=x1.cell 5 _ rfl;have c6:=x1.cell 6 _ rfl
 have HW:=Aa (GC B b 5 Al nl cl Ar nr cr 0 ⟨#[]⟩ ⟨#[]⟩ A n c ⟨#[32,124,32]⟩ (AC ta) (Dr (AR tb) (AC tb)) w0 HSZ.out (fun o2 W hW hb hl=>HK0.out o2 W hW hb hl) (fun o2 W hW hb hl=>HK1.out o2 W hW hb hl) out _ HV1.out HL1.out (by have:=HLT.out;simp only[AC]at this;exact this));clear hA0 hS0 hlt0 hti0 hkk0 hw0 e00 e01 e02 e03 e04 e05 e06;clear hA1 hS1 hlt1 hti1 hkk1 hw1 e10 e11 e12 e13 e14 e15 e16;clear hbl hT hbw hb x1 hl hr hk hkid h ho hg hBs iha ihb ha hb2
 go_enter Tryz.func42,Tryz.ntmps42;go_wp2_with fail;refine HW.out.mono ?_;rintro e w6 ⟨rfl,h6,v6⟩;have HP:=Aa (show DY B b (out++AC (.any ta tb)) w0 (.returned (.tuple #[])) w6 from ⟨rfl,by
  have e:out++AC (.any ta tb)=out++((AC ta)++(ub ⟨#[32,124,32]⟩++(Dr (AR tb) (AC tb)))):=by simp[ub,AC]
  rw[e];exact h6,HV1.out.trans v6⟩)
 clear h6 v6;go_wp2_with fail;go_end0
 exact HP.out
theorem Rp (u:Tr):IP u:=by
 induction u with
 |leaf b=>
  cases b
  · exact Ul
  · exact Vx
 |cmp l o r=>exact WU l r o
 |deny t ih=>exact Vy t ih
 |both a b iha ihb=>exact Vz a b iha ihb
 |any a b iha ihb=>exact V0 a b iha ihb
end
end Go.Proofs.YtgohmojcopajoaaGreatDoor
