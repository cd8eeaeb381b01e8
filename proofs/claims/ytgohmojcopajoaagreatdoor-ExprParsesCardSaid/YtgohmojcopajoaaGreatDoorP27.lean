/- Texts of one seat, put together: Build ExprWs ExprWt. -/
import Derived.Test.YtgohmojcopajoaaGreatDoorP26
set_option linter.unusedVariables false
set_option linter.unusedSimpArgs false
set_option maxRecDepth 100000
set_option maxHeartbeats 16000000
namespace Go.Proofs.YtgohmojcopajoaaGreatDoor.Nu
section
open Go.Shelf Go.RowKit
theorem FF:(Tryz.prog.info? 92).map (·.size)=some 2:=by kernel_rfl
theorem H4:liesAt Tryz.prog Tryz.prog.depth 92 (2/Tryz.prog.cellsOf 92) 0 92 1=true:=by kernel_rfl
theorem JA (b:Nat) (w:World) (h0:w.cell? ⟨b,0,none⟩=some (.pointer (some ⟨b,0,none⟩))) :
  Calls Tryz.prog 107 #[.pointer (some ⟨b,0,none⟩)] w fun e w'=>e=.returned (.tuple #[])/\w'=w:=by
 obtain ⟨j,hj,-⟩:=Option.map_eq_some_iff.1 FF;have hne:=fun w=>Lib.run_neq_ptr_same (P:=Tryz.prog) w ⟨b,0,none⟩ Tryz.underlying89 hj
 clear hj;go_enter Tryz.func107,Tryz.ntmps107;go_wp2_with fail;go_end0
 exact ⟨rfl,rfl⟩
theorem IL (b:Nat) (w:World) (h0:w.cell? ⟨b,0,none⟩=some (.pointer none)) (hsh:w.shape? b=some (92,2)) (hfz:w.frozen? ⟨b,0,none⟩=false) :
  Calls Tryz.prog 107 #[.pointer (some ⟨b,0,none⟩)] w fun e w'=>e=.returned (.tuple #[])/\w'=w.setCell ⟨b,0,none⟩ (.pointer (some ⟨b,0,none⟩)):=by
 obtain ⟨j,hj,hjs⟩:=Option.map_eq_some_iff.1 FF;have hne:=fun w=>Lib.run_neq_ptr_same (P:=Tryz.prog) w ⟨b,0,none⟩ Tryz.underlying89 hj
 have hto:=Lib.run_to_unsafe (P:=Tryz.prog) w ⟨b,0,none⟩ Tryz.underlying89 Tryz.underlying193 hj (by rw[hjs];decide) hsh (Nat.zero_lt_succ 1);have hfrom:=Lib.run_from_unsafe (P:=Tryz.prog) w ⟨b,0,none⟩ Tryz.underlying193 Tryz.underlying89 hj hsh H4;have hx:=Lib.run_noEscape (P:=Tryz.prog) w (.pointer (some ⟨b,0,none⟩))
 have hcf:=fun (args:Array Value) (w:World)=>run_callFunc_extern (P:=Tryz.prog) (w:=w) (args:=args) Tryz.func142 (by kernel_rfl) (by kernel_rfl) (by kernel_rfl) (e:=Extern.AbiNoEscape.same) (by kernel_rfl)
 clear hj hjs;go_enter Tryz.func107,Tryz.ntmps107;go_wp2_with fail;go_end0
 exact ⟨rfl,rfl⟩
def KL (w:World) (B b:Nat) (bs:List Value):Prop:=∃p v,(p=.pointer none\/p=.pointer (some ⟨b,0,none⟩))/\Ao 92 w b #[p,v]/\w.ownsRow B 5 1 v bs.length bs
structure BW (B b:Nat) (w w':World):Prop where
 os:w'.os=w.os
 tape:w'.tape=w.tape
 output:w'.output=w.output
 size:w.heap.size<=w'.heap.size
 low:∀k,k<w.heap.size->k<B->k≠b->w'.heap[k]?=w.heap[k]?
 box:∀T g cs,T≠5->g≠b->Ao T w g cs->Ao T w' g cs
theorem BW.refl (B b:Nat) (w:World):BW B b w w:=⟨rfl,rfl,rfl,Nat.le_refl _,fun _ _ _ _=>rfl,fun _ _ _ _ _ h=>h⟩
theorem BW.trans {B b:Nat} {a c d:World} (h:BW B b a c) (k:BW B b c d):BW B b a d:=
 ⟨k.os.trans h.os,k.tape.trans h.tape,k.output.trans h.output,Nat.le_trans h.size k.size,fun i h0 h1 h2=>(k.low i (Nat.lt_of_lt_of_le h0 h.size) h1 h2).trans (h.low i h0 h1 h2),fun T g cs h1 h2 x=>k.box T g cs h1 h2 (h.box T g cs h1 h2 x)⟩
theorem BW.of_below {B b:Nat} {w w':World} (h:Below w.heap.size w w'):BW B b w w':=⟨h.os,h.tape,h.output,h.size,fun k hk _ _=>h.block k hk,fun _ _ _ _ _ x=>x.next h⟩
theorem BW.of_only {B b:Nat} {w w':World} (h:An b w w'):BW B b w w':=
 ⟨h.gb.os,h.gb.tape,h.gb.output,h.gb.size,fun k hk _ hne=>h.gb.block k hk (fun e=>hne (by injection e)),fun _ _ _ _ hne x=>x.other h hne⟩
theorem BW.below {B b C:Nat} {w w':World} (h:BW B b w w') (hC:C<=B) (hb:C<=b) (hw:C<=w.heap.size):Below C w w':=⟨h.os,h.tape,h.output,h.size,fun k hk=>h.low k (by omega) (by omega) (by omega)⟩
theorem KN:(Tryz.prog.info? 5).map (fun i=>(i.zero,i.size,i.bytes))=some (some (.int .u8 0),1,1):=by kernel_rfl
theorem KO {w w':World} {B:Nat} {T:TypeId} {v:Value} {n g:Nat} {xs:List Value} {cs:Array Value} (hT:T≠5) (hown:w.ownsRow B 5 1 v n xs) (hg:w.grownBy w' v.ownBlock) (x:Ao T w g cs):Ao T w' g cs:=
 x.grown hg (fun e=>Lib.ownBlock_ne hown x hT e.symm)
theorem KL.fresh {w:World} {B b:Nat} (h:Ao 92 w b #[.pointer none,.slice none 0 0]):KL w B b []:=⟨_,_,.inl rfl,h,World.ownsRow_nil _ _ _ _⟩
theorem KL.below {w w':World} {B b:Nat} {bs:List Value} (h:KL w B b bs) (hb:Below w.heap.size w w'):KL w' B b bs:=by
 obtain ⟨p,v,hp,x,ho⟩:=h;refine ⟨p,v,hp,x.next hb,ho.kept (row:=none) ⟨hb.os,hb.tape,hb.output,hb.size,fun k hk _=>hb.block k hk⟩ ?_⟩;rcases ho.2 with ⟨rfl,_⟩|⟨g,cap,cur,rfl,_⟩
 · exact .inl rfl
 · exact .inr (by simp[Value.ownBlock])
def TU (r:Value) (B b:Nat) (bs:List Value) (w:World) (e:Ending) (w':World):Prop:=e=.returned r/\KL w' B b bs/\BW B b w w'
theorem LA {w:World} {B b n:Nat} {v p q:Value} {xs:List Value} (ho:w.ownsRow B 5 1 v n xs) (x:Ao 92 w b #[p,q]):v.ownBlock≠some b:=Lib.ownBlock_ne ho x (by decide)
theorem Qp {w:World} {B n:Nat} {v:Value} {xs:List Value} (ho:w.ownsRow B 5 1 v n xs):∃ao m cap,v=.slice ao m cap:=by
 rcases ho.2 with ⟨rfl,_⟩|⟨g,cap,cur,rfl,_⟩
 · exact ⟨_,_,_,rfl⟩
 · exact ⟨_,_,_,rfl⟩
theorem Wd {w:World} {b:Nat} {p q:Value} (x:Ao 92 w b #[p,q]) (y:Value):Ao 92 (w.setCell ⟨b,0,none⟩ y) b #[y,q]:=by unfold Ao at x ⊢;simp[World.setCell,Array.getElem?_modify,x]
theorem We {w:World} {b:Nat} {p q:Value} (x:Ao 92 w b #[p,q]) (y:Value):Ao 92 (w.setCell ⟨b,1,none⟩ y) b #[p,y]:=by unfold Ao at x ⊢;simp[World.setCell,Array.getElem?_modify,x]
theorem Kg (B b:Nat) (bs:List Value) (w:World) (h:KL w B b bs):Calls Tryz.prog 107 #[.pointer (some ⟨b,0,none⟩)] w fun e w'=>e=.returned (.tuple #[])/\(∃v,Ao 92 w' b #[.pointer (some ⟨b,0,none⟩),v]/\w'.ownsRow B 5 1 v bs.length bs)/\BW B b w w':=by
 obtain ⟨p,v,rfl|rfl,x,ho⟩:=h
 · refine (IL b w (x.cell 0 _ rfl) (by unfold Ao at x;simp[World.shape?,x]) (x.fr 0)).mono ?_;rintro e w' ⟨rfl,rfl⟩;exact ⟨rfl,⟨v,Wd x _,ho.kept (row:=some b) (DD w b 0 _) (.inr (LA ho x))⟩,BW.of_only (DD w b 0 _)⟩
 · refine (JA b w (x.cell 0 _ rfl)).mono ?_;rintro e w' ⟨rfl,rfl⟩;exact ⟨rfl,⟨v,x,ho⟩,BW.refl _ _ _⟩
theorem IM (B b:Nat) (bs:List Value) (s:ByteArray) (w:World) (h:KL w B b bs) (hlen:bs.length+s.size<=140737488355328) (hBw:B<=w.heap.size) :
  Calls Tryz.prog 64 #[.pointer (some ⟨b,0,none⟩),.string s] w (TU (.tuple #[.int .i64 s.size,.nilIface]) B b (bs++Lib.strCells s) w):=by
 have hc:=Kg B b bs w h;obtain ⟨i0,hi,hz0,hz1,hz2⟩:=info_parts KN;clear h;go_enter Tryz.func64,Tryz.ntmps64;go_wp2_with fail;refine hc.mono ?_;rintro e w1 ⟨rfl,⟨v,x,ho⟩,b1⟩;have c1:w1.cell? ⟨b,1,none⟩=some v:=x.cell 1 _ rfl;have hB1:B<=w1.heap.size:=Nat.le_trans hBw b1.size;have h63:bs.length+s.size<=maxLen:=by unfold maxLen;omega
 have X:=Aa x;have HB1:=Aa b1;clear x b1 hc
 go_wp2_with (at_builtin;refine Lib.wpList_append_own_string _ rfl _ _ 90 9 rfl B 5 i0 Tryz.underlying90 Tryz.underlying9 hi hz0 hz1 hz2 v bs.length bs rfl ho s rfl h63 hlen hB1 ?_;intro v2 w2 ho2 g2 hnil;clear hnil;obtain ⟨ao2,n2,cap2,rfl⟩:=Qp ho2;have y:=KO (by decide) ho g2 X.out;have u0:w2.cell? ⟨b,1,none⟩=some v:=y.cell 1 _ rfl;have u1:=y.fr 1;have hb2:=Aa (HB1.out.trans ⟨g2.os,g2.tape,g2.output,g2.size,fun k h0 hk hne=>g2.block k h0 (fun e=>by have:=(ho.lt k e.symm).1;omega),fun T g cs hT hne z=>KO hT ho g2 z⟩);have Y:=Aa y;have HO2:=Aa ho2;clear y ho2 g2)
 go_ret2
 refine ⟨rfl,⟨_,.slice ao2 n2 cap2,.inr rfl,We Y.out _,?_⟩,hb2.out.trans (BW.of_only (DD w2 b 1 _))⟩;rw[List.length_append,Lib.strCells_length];exact HO2.out.kept (row:=some b) (DD w2 b 1 _) (.inr (LA HO2.out Y.out))
theorem Kh:Builder.Extra Tryz.prog Tryz.bString_ren:={ sizeBuilder:=FF,liesBuilder:=H4,t5:=Tryz.underlying5,a5:=Tryz.isAgg5,z5:=Tryz.sizeOf5,v5:=Tryz.zeroValue5,infoByte:=KN,cellsByte:=by kernel_rfl,sizeByte:=by kernel_rfl,neB5:=by decide }
theorem EW (B C b:Nat) (l:List UInt8) (w:World) (h:KL w B b (Lib.byteCells l)) (hC:C<=B) (hCb:C<=b) (hw:C<=w.heap.size):Calls Tryz.prog 37 #[.pointer (some ⟨b,0,none⟩)] w (fun e w'=>e=.returned (.string ⟨l.toArray⟩)/\Below C w w'):=by
 obtain ⟨p,v,hp,x,ho⟩:=h;have ho':w.ownsRow C 5 1 v (Lib.byteCells l).length (Lib.byteCells l):=by
  refine ⟨ho.1,?_⟩;rcases ho.2 with h0|⟨g,cap,cur,h1,h2,h3⟩
  · exact .inl h0
  · exact .inr ⟨g,cap,cur,h1,Nat.le_trans hC h2,h3⟩
 have hb:Lib.IsBuilder (Tryz.bString_ren.t 72) (Tryz.bString_ren.t 5) C b (Lib.byteCells l) w:=by
  rcases hp with rfl|rfl
  · exact Or.inl ⟨hCb,v,x,ho',LA ho x⟩
  · exact Or.inr ⟨hCb,v,x,ho',LA ho x⟩
 exact (Any.Builder_String_any Tryz.bString Kh C b l w hb hw).mono (fun e w' ⟨h1,h2⟩=>⟨h1,h2⟩)
end
end Go.Proofs.YtgohmojcopajoaaGreatDoor.Nu
namespace Go.Proofs.YtgohmojcopajoaaGreatDoor
section
open Go.RowKit
open Lx Ex
def Lw (B b:Nat) (k:Nat):Prop:=k<B/\k≠b
theorem FG {B b g:Nat} {T:TypeId} {w w':World} {cs:Array Value} (h:Nu.BW B b w w') (hT:T≠5) (hg:g≠b) (x:Ao T w g cs):Ao T w' g cs:=h.box T g cs hT hg x
theorem LB {B b:Nat} {w w':World} (h:Nu.BW B b w w'):As (Lw B b) w w':=⟨h.size,fun k hk hlt=>h.low k hlt hk.1 hk.2⟩
theorem FH {B b:Nat} {w:World} {bs:List Value} (h:Nu.KL w B b bs):b<w.heap.size:=by obtain ⟨p,v,-,x,-⟩:=h;exact Nu.Ao.lt x
def DZ (B b:Nat) (out:List UInt8) (w:World) (e:Ending) (w':World):Prop:=e=.returned (.tuple #[])/\Nu.KL w' B b (Lib.byteCells out)/\Nu.BW B b w w'
theorem Vr (a b:List UInt8):Lib.byteCells (a++b)=Lib.byteCells a++Lib.byteCells b:=by simp[Lib.byteCells]
theorem Vs (a:List UInt8):(Lib.byteCells a).length=a.length:=by simp[Lib.byteCells]
theorem DJ (B b:Nat) (out:List UInt8) (s:ByteArray) (w:World) (h:Nu.KL w B b (Lib.byteCells out)) (hlen:out.length+(ub s).length<=140737488355328) (hB:B<=w.heap.size):Calls Tryz.prog 64 #[.pointer (some ⟨b,0,none⟩),.string s] w (fun e w'=>e=.returned (.tuple #[.int .i64 s.size,.nilIface])/\Nu.KL w' B b (Lib.byteCells (out++ub s))/\Nu.BW B b w w'):=by
 have h1:s.size=(ub s).length:=by unfold ub;rw[Array.length_toList];rfl
 have:=Nu.IM B b (Lib.byteCells out) s w h (by rw[Vs];omega) hB;rw[Lib.strCells_eq,<-Vr]at this;exact this
def Vt (s:List UInt8) (w:World) (e:Ending) (w':World):Prop:=e=.returned (.string ⟨s.toArray⟩)/\Below w.heap.size w w'
theorem O4 (m:Mn) (f:Bool) (w0:World):Calls Tryz.prog 65 #[.agg #[.bool m.neg,.string m.num,.string m.var],.bool f] w0 (Vt (Sj f m.neg) w0):=by
 obtain ⟨x1,hb,-⟩:=Ax 88 w0 #[.bool m.neg,.string m.num,.string m.var];have HB:=Aa hb;have c0:=x1.cell 0 _ rfl;clear hb x1;cases hm:m.neg<;>cases f
 · rw[hm]at c0 HB;clear hm;go_enter Tryz.func65,Tryz.ntmps65;go_wp2_with fail;go_ret
   exact ⟨rfl,HB.out⟩
 · rw[hm]at c0 HB;clear hm;go_enter Tryz.func65,Tryz.ntmps65;go_wp2_with fail;go_ret
   exact ⟨rfl,HB.out⟩
 · rw[hm]at c0 HB;clear hm;go_enter Tryz.func65,Tryz.ntmps65;go_wp2_with fail;go_ret
   exact ⟨rfl,HB.out⟩
 · rw[hm]at c0 HB;clear hm;go_enter Tryz.func65,Tryz.ntmps65;go_wp2_with fail;go_ret
   exact ⟨rfl,HB.out⟩
theorem FI (B b:Nat) (bs:List UInt8) (A:Option Addr) (n c:Nat) (l:List Mn) (w0:World) (h:De (Lw B b) w0 A n l) (hb:Nu.KL w0 B b (Lib.byteCells bs)) (hB:B<=w0.heap.size) (hc:n<=c) (hc2:c<=9223372036854775807) (hT:bs.length+(Ca true l).length<=140737488355328):Calls Tryz.prog 36 #[.pointer (some ⟨b,0,none⟩),.slice A n c] w0 (DZ B b (bs++Ca true l) w0):=by
 have HS:=Aa h;have HN:=Aa h.1;have HBL:=Aa hb;have HTT:=Aa hT;have HSZ:=Aa hB;have HE:=Aa (show bs++Ca true l=bs++Ca (((0:Nat):Int)==0) (l.drop 0) from rfl);clear h hb hT;go_enter Tryz.func36,Tryz.ntmps36;go_wp2_with fail;go_loopw [8] (fun i wr=>∃x:Nat,x<=n/\i=.int .i64 x/\Hid (∃out,Nu.KL wr B b (Lib.byteCells out)/\bs++Ca true l=out++Ca ((x:Int)==0) (l.drop x))/\Hid (Nu.BW B b w0 wr)) (fun i _=>n-(intOf i).toNat)
 case atStart=>exact ⟨0,Nat.zero_le _,rfl,Aa ⟨bs,HBL.out,HE.out⟩,Aa (Nu.BW.refl _ _ _)⟩
 case round=>
  obtain ⟨x,hx,rfl,HER,HR⟩:=hrel;obtain ⟨out,hbl,he⟩:=HER.out;by_cases hxn:x<n
  · obtain ⟨bb,oo,m,hA,hlt,hm,d0,d1,d2⟩:=(HS.out.keep (LB HR.out)).at_ hxn;subst hA;obtain ⟨neg,num,var,hme⟩:∃neg num var,m=⟨num,var,neg⟩:=⟨m.neg,m.num,m.var,by cases m;rfl⟩;subst hme;have hd:l.drop x=⟨num,var,neg⟩::l.drop (x+1):=by
      have hl:x<l.length:=(by have:=HN.out;omega);rw[List.drop_eq_getElem_cons hl];congr 1
      rw[List.getElem?_eq_getElem hl]at hm;injection hm
    rw[hd]at he;obtain ⟨f,hf⟩:∃f,((x:Int)==0)=f:=⟨_,rfl⟩;rw[hf,Ca]at he;have HQ:=Aa he;have hle:=HTT.out;rw[<-List.length_append,he]at hle;simp only[List.length_append,Si]at hle;have HLE:=Aa hle;have HSG:=Aa (fun W=>O4 ⟨num,var,neg⟩ f W);have hbn:=FH hbl;have z1:Ao 88 (wr.alloc (.cells #[.bool false,.string ⟨#[]⟩,.string ⟨#[]⟩] 88)) wr.heap.size #[.bool false,.string ⟨#[]⟩,.string ⟨#[]⟩]:=Ao.new _ _ _;have HBLr:=Aa hbl;have hgb:wr.heap.size≠b:=(by omega)
    have HSZr:=Aa (show B<=wr.heap.size from Nat.le_trans HSZ.out HR.out.size);have d0:wr.cell? ⟨bb,oo+x*3,none⟩=some (.bool neg):=d0;have d1:wr.cell? ⟨bb,oo+x*3+1,none⟩=some (.string num):=d1;have d2:wr.cell? ⟨bb,oo+x*3+2,none⟩=some (.string var):=d2;clear he hm hle hd hbl HER;generalize Sj f neg=sg at *
    go_wp2_with (with_reducible refine Ab rfl 88 _ _ rfl wr.heap.size #[.bool neg,.string num,.string var] rfl rfl _ z1 (by kernel_rfl) rfl (by simp[Value.oneCell']) ?_;intro wy ky oy;have HBy:=Aa (show Below wr.heap.size wr wy from (Ae wr _).trans (oy.below (Ae wr _).size (Nat.le_refl _)));have XY:=Aa ky;have y0:=ky.cell 0 _ rfl;have y1:=ky.cell 1 _ rfl;have y2:=ky.cell 2 _ rfl;clear oy ky d0 d1 d2 z1);refine (HSG.out _).mono ?_;rintro e w4 ⟨rfl,b4⟩
    have HW4:=Aa (show Nu.BW B b wr w4 from Nu.BW.of_below (HBy.out.trans (b4.mono HBy.out.size)));have HL4:=Aa (HBLr.out.below (HBy.out.trans (b4.mono HBy.out.size)));have XY4:=Aa (XY.out.next b4);have HSZ4:=Aa (Nat.le_trans HSZr.out HW4.out.size);have HWR:=Aa (DJ B b out ⟨sg.toArray⟩ w4 HL4.out (by rw[U9];have:=HLE.out;omega) HSZ4.out);rw[U9]at HWR;clear b4 y0 y1 y2 HSG XY;go_wp2_with fail;refine HWR.out.mono ?_;rintro e w5 ⟨rfl,h5,v5⟩;have HW5:=Aa (HW4.out.trans v5)
    have XY5:=Aa (FG v5 (by decide) hgb XY4.out);have HSZ5:=Aa (Nat.le_trans HSZr.out HW5.out.size);have HWR:=Aa (DJ B b _ num w5 h5 (by rw[List.length_append];have:=HLE.out;omega) HSZ5.out);have y0:=XY5.out.cell 0 _ rfl;have y1:=XY5.out.cell 1 _ rfl;have y2:=XY5.out.cell 2 _ rfl;clear h5 v5 XY4;go_wp2_with fail;refine HWR.out.mono ?_;rintro e w6 ⟨rfl,h6,v6⟩;have HW6:=Aa (HW5.out.trans v6);have HL6:=Aa h6;have XY6:=Aa (FG v6 (by decide) hgb XY5.out)
    have HSZ6:=Aa (Nat.le_trans HSZr.out HW6.out.size);clear h6 v6 XY5 y0 y1 y2 HWR;have y1:=XY6.out.cell 1 _ rfl;have y2:=XY6.out.cell 2 _ rfl;by_cases hn:num=eS
    · have g1:=D9 hn;have g1b:(num.toList != ([]:List UInt8))=false:=(by simp[bne,g1]);have HC:=Aa (show ¬(num≠eS/\var≠eS) from fun hh=>hh.1 hn);clear hn;have HW7:=HW6;have HWR:=Aa (DJ B b _ var w6 HL6.out (by simp only[List.length_append];have:=HLE.out;omega) HSZ6.out);go_wp2_with fail;refine HWR.out.mono ?_;rintro e w8 ⟨rfl,h8,v8⟩;have HF:=Aa (show bs++Ca true l=((out++sg)++ub num)++ub var++Ca (((x+1:Nat):Int)==0) (l.drop (x+1)) from by
        rw[HQ.out,show (((x+1:Nat):Int)==0)=false from by simp;omega,Si,if_neg HC.out];simp[ub])
      go_wp2_with fail;go_roundw
      case rel=>exact ⟨x+1,by omega,by go_num,Aa ⟨_,h8,HF.out⟩,Aa (HR.out.trans (HW7.out.trans v8))⟩
      case measure=>simp[intOf];omega
    · have g1:=Cz hn;have g1b:(num.toList != ([]:List UInt8))=true:=(by simp[bne,g1]);by_cases hv:var=eS
      · have g2:=D9 hv;have g2b:(var.toList != ([]:List UInt8))=false:=(by simp[bne,g2]);have HC:=Aa (show ¬(num≠eS/\var≠eS) from fun hh=>hh.2 hv);clear hn hv;have HW7:=HW6;have HWR:=Aa (DJ B b _ var w6 HL6.out (by simp only[List.length_append];have:=HLE.out;omega) HSZ6.out);go_wp2_with fail;refine HWR.out.mono ?_;rintro e w8 ⟨rfl,h8,v8⟩;have HF:=Aa (show bs++Ca true l=((out++sg)++ub num)++ub var++Ca (((x+1:Nat):Int)==0) (l.drop (x+1)) from by
         rw[HQ.out,show (((x+1:Nat):Int)==0)=false from by simp;omega,Si,if_neg HC.out];simp[ub])
        go_wp2_with fail;go_roundw
        case rel=>exact ⟨x+1,by omega,by go_num,Aa ⟨_,h8,HF.out⟩,Aa (HR.out.trans (HW7.out.trans v8))⟩
        case measure=>simp[intOf];omega
      · have g2:=Cz hv;have g2b:(var.toList != ([]:List UInt8))=true:=(by simp[bne,g2]);have HC:=Aa (show (num≠eS/\var≠eS) from ⟨hn,hv⟩);clear hn hv;have HWR:=Aa (DJ B b _ ⟨#[42]⟩ w6 HL6.out (by simp only[List.length_append];rw[if_pos HC.out]at HLE;have:=HLE.out;simp only[List.length_cons,List.length_nil]at this;show _+1<=_;omega) HSZ6.out);go_wp2_with fail;refine HWR.out.mono ?_;rintro e w7 ⟨rfl,h7,v7⟩;have HW7:=Aa (HW6.out.trans v7)
        have XY7:=Aa (FG v7 (by decide) hgb XY6.out);have HSZ7:=Aa (Nat.le_trans HSZr.out HW7.out.size);have HWR:=Aa (DJ B b _ var w7 h7 (by simp only[List.length_append];rw[if_pos HC.out]at HLE;have:=HLE.out;simp only[List.length_cons,List.length_nil]at this;show _+1+_<=_;omega) HSZ7.out);clear h7 v7 y1 y2 XY6;have y2:=XY7.out.cell 2 _ rfl;go_wp2_with fail;refine HWR.out.mono ?_;rintro e w8 ⟨rfl,h8,v8⟩
        have HF:=Aa (show bs++Ca true l=(((out++sg)++ub num)++ub ⟨#[42]⟩)++ub var++Ca (((x+1:Nat):Int)==0) (l.drop (x+1)) from by rw[HQ.out,show (((x+1:Nat):Int)==0)=false from by simp;omega,Si,if_pos HC.out];simp[ub])
        go_wp2_with fail;go_roundw
        case rel=>exact ⟨x+1,by omega,by go_num,Aa ⟨_,h8,HF.out⟩,Aa (HR.out.trans (HW7.out.trans v8))⟩
        case measure=>simp[intOf];omega
  · obtain rfl:x=n:=(by omega);have HP:=Aa (show DZ B b (bs++Ca true l) w0 (.returned (.tuple #[])) wr from ⟨rfl,by rw[he,List.drop_of_length_le (by have:=HN.out;omega),Ca,List.append_nil];exact hbl,HR.out⟩);clear hbl he;go_wp2_with fail;go_end0
    exact HP.out
end
section
open Go.RowKit
open Lx Ex
def I0 (B b:Nat) (w:World) (f:Nat) (rest:Array Value) (tx:List UInt8):Prop:=
 ∀(out:List UInt8) (W:World),Nu.BW B b w W->Nu.KL W B b (Lib.byteCells out)->out.length+tx.length<=140737488355328->Calls Tryz.prog f (#[.pointer (some ⟨b,0,none⟩)]++rest) W (DZ B b (out++tx) W)
def Wg (B b:Nat) (w:World) (A:Option Addr) (i:Nat) (u0 u1 u2 u3 u4 u5 u6:Value):Prop:=
 ∃ba oa,A=some ⟨ba,oa,none⟩/\Lw B b ba/\ba<w.heap.size/\w.cell? ⟨ba,oa+i*7,none⟩=some u0/\w.cell? ⟨ba,oa+i*7+1,none⟩=some u1/\w.cell? ⟨ba,oa+i*7+2,none⟩=some u2/\w.cell? ⟨ba,oa+i*7+3,none⟩=some u3/\w.cell? ⟨ba,oa+i*7+4,none⟩=some u4/\w.cell? ⟨ba,oa+i*7+5,none⟩=some u5/\w.cell? ⟨ba,oa+i*7+6,none⟩=some u6
theorem EX {B b k j:Nat} {w w':World} {v:Value} (h:Nu.BW B b w w') (hk:Lw B b k) (hlt:k<w.heap.size) (hc:w.cell? ⟨k,j,none⟩=some v):w'.cell? ⟨k,j,none⟩=some v:=(World.cell?_of_block (w:=w) (a:=⟨k,j,none⟩) (h.low k hlt hk.1 hk.2)).trans hc
theorem Dy (B b:Nat) (kd:Int) (Al:Option Addr) (nl cl:Nat) (Ar:Option Addr) (nr cr:Nat) (op:Int) (p q:ByteArray) (A:Option Addr) (n c:Nat) (k2:Int) (Al2:Option Addr) (Cc cl2:Nat) (Ar2:Option Addr) (nr2 cr2:Nat) (op2:Int) (p2 q2:ByteArray) (A2:Option Addr) (n2 c2:Nat) (i:Nat) (tx:List UInt8) (w1:World) (hBs:B<=w1.heap.size) (hi:i<n) (hn:n<=c) (hc:c<=9223372036854775807) (hk:Wg B b w1 A i (.int .i64 k2) (.slice Al2 Cc cl2) (.slice Ar2 nr2 cr2) (.int .i64 op2) (.string p2) (.string q2) (.slice A2 n2 c2))
   (hw:I0 B b w1 42 #[.agg #[.int .i64 k2,.slice Al2 Cc cl2,.slice Ar2 nr2 cr2,.int .i64 op2,.string p2,.string q2,.slice A2 n2 c2]] tx):I0 B b w1 71 #[.agg #[.int .i64 kd,.slice Al nl cl,.slice Ar nr cr,.int .i64 op,.string p,.string q,.slice A n c],.int .i64 (i:Int)] (Dx (Bn kd k2 i) tx):=by
 intro out w0 hbw hbl hT;obtain ⟨ba,oa,rfl,hba,hlt,e0,e1,e2,e3,e4,e5,e6⟩:=hk;have e0:=EX hbw hba hlt e0;have e1:=EX hbw hba hlt e1;have e2:=EX hbw hba hlt e2;have e3:=EX hbw hba hlt e3;have e4:=EX hbw hba hlt e4;have e5:=EX hbw hba hlt e5;have e6:=EX hbw hba hlt e6;have hlt0:ba<w0.heap.size:=Nat.lt_of_lt_of_le hlt hbw.size;have HSZ:=Aa (Nat.le_trans hBs hbw.size);have HWR:=Aa (fun (out:List UInt8) W (h:Nu.BW B b w0 W) hb hl=>hw out W (hbw.trans h) hb hl)
 obtain ⟨x1,hb,hsz⟩:=Ax 33 w0 #[.int .i64 kd,.slice Al nl cl,.slice Ar nr cr,.int .i64 op,.string p,.string q,.slice (some ⟨ba,oa,none⟩) n c];have HB:=Aa hb;have HBL0:=Aa (fun W (h:Below w0.heap.size w0 W)=>hbl.below h);have hbn:=FH hbl;have X1:=Aa x1;have HEL:=Aa (fun W=>FD kd k2 i W);have HLT:=Aa hT;have e0:=(Ah hb hlt0).trans e0;have e1:=(Ah hb hlt0).trans e1;have e2:=(Ah hb hlt0).trans e2;have e3:=(Ah hb hlt0).trans e3;have e4:=(Ah hb hlt0).trans e4
 have e5:=(Ah hb hlt0).trans e5;have e6:=(Ah hb hlt0).trans e6;have c6:=x1.cell 6 _ rfl
 have z1:Ao 33 ((w0.alloc (.cells #[.int .i64 kd,.slice Al nl cl,.slice Ar nr cr,.int .i64 op,.string p,.string q,.slice (some ⟨ba,oa,none⟩) n c] 33)).alloc (.cells #[.int .i64 0,.slice none 0 0,.slice none 0 0,.int .i64 0,.string ⟨#[]⟩,.string ⟨#[]⟩,.slice none 0 0] 33)) (w0.heap.size+1) #[.int .i64 0,.slice none 0 0,.slice none 0 0,.int .i64 0,.string ⟨#[]⟩,.string ⟨#[]⟩,.slice none 0 0]:=by have:=Ao.new 33 (w0.alloc (.cells #[.int .i64 kd,.slice Al nl cl,.slice Ar nr cr,.int .i64 op,.string p,.string q,.slice (some ⟨ba,oa,none⟩) n c] 33)) #[.int .i64 0,.slice none 0 0,.slice none 0 0,.int .i64 0,.string ⟨#[]⟩,.string ⟨#[]⟩,.slice none 0 0];rw[hsz]at this;exact this
 have hgi:(i:Int)<(n:Int):=by omega
 have hgb:w0.heap.size+1≠b:=by omega
 have hgb0:w0.heap.size≠b:=by omega
 have HW2:=Aa (show ∀W',Below (w0.heap.size) w0 W'->Nu.BW B b w0 W' from fun W' h=>Nu.BW.of_below h);clear hw hbl hT hbw hlt x1;go_enter Tryz.func71,Tryz.ntmps71
 go_wp2_with (with_reducible refine Ab rfl 33 _ _ rfl (w0.heap.size+1) #[.int .i64 k2,.slice Al2 Cc cl2,.slice Ar2 nr2 cr2,.int .i64 op2,.string p2,.string q2,.slice A2 n2 c2] rfl rfl _ z1 (by kernel_rfl) rfl (by simp[Value.oneCell']) ?_;intro wy ky oy;have HBy:=Aa (show Below w0.heap.size w0 wy from (HB.out.trans ((Ae _ _).mono HB.out.size)).trans (oy.below (Nat.le_trans HB.out.size (Ae _ _).size) (by omega)));have XT:=Aa ((X1.out.alloc (.cells #[.int .i64 0,.slice none 0 0,.slice none 0 0,.int .i64 0,.string ⟨#[]⟩,.string ⟨#[]⟩,.slice none 0 0] 33)).other oy (by omega));have XY:=Aa ky;have c0:=XT.out.cell 0 _ rfl;have y0:=ky.cell 0 _ rfl;clear oy ky e0 e1 e2 e3 e4 e5 e6 c6 z1)
 refine (HEL.out _).mono ?_;rintro e w4 ⟨rfl,b4⟩;have HB4:=Aa (show Below w0.heap.size w0 w4 from HBy.out.trans (b4.mono HBy.out.size));have XY4:=Aa (XY.out.next b4);clear b4 c0 y0;have y0:=XY4.out.cell 0 _ rfl;have y1:=XY4.out.cell 1 _ rfl;have y2:=XY4.out.cell 2 _ rfl;have y3:=XY4.out.cell 3 _ rfl;have y4:=XY4.out.cell 4 _ rfl;have y5:=XY4.out.cell 5 _ rfl;have y6:=XY4.out.cell 6 _ rfl;have HV4:=Aa (HW2.out w4 HB4.out);generalize Bn kd k2 i=bl at *;cases bl
 · have HL4:=Aa (HBL0.out w4 HB4.out);go_wp2_with fail;refine (HWR.out out w4 HV4.out HL4.out (by have:=HLT.out;exact this)).mono ?_;rintro e w6 ⟨rfl,h6,v6⟩;have HP:=Aa (show DZ B b (out++Dx false tx) w0 (.returned (.tuple #[])) w6 from ⟨rfl,h6,HV4.out.trans v6⟩);clear h6 v6;go_wp2_with fail;go_end0
   exact HP.out
 · have HLN:=Aa (show out.length+(tx.length+2)<=140737488355328 from by have:=HLT.out;unfold Dx at this;rw[if_pos rfl]at this;simp only[List.length_cons,List.length_append,List.length_nil]at this;omega);have HW1:=Aa (DJ B b out ⟨#[40]⟩ w4 (HBL0.out w4 HB4.out) (by have:=HLN.out;show _+1<=_;omega) (Nat.le_trans HSZ.out HB4.out.size));go_wp2_with fail;refine HW1.out.mono ?_;rintro e w5 ⟨rfl,h5,v5⟩;have HV5:=Aa (HV4.out.trans v5);have XY5:=Aa (FG v5 (by decide) hgb XY4.out)
   have HL5:=Aa h5;clear h5 v5 y0 y1 y2 y3 y4 y5 y6;have y0:=XY5.out.cell 0 _ rfl;have y1:=XY5.out.cell 1 _ rfl;have y2:=XY5.out.cell 2 _ rfl;have y3:=XY5.out.cell 3 _ rfl;have y4:=XY5.out.cell 4 _ rfl;have y5:=XY5.out.cell 5 _ rfl;have y6:=XY5.out.cell 6 _ rfl;go_wp2_with fail;refine (HWR.out _ w5 HV5.out HL5.out (by have:=HLN.out;simp only[List.length_append];show _+1+_<=_;omega)).mono ?_;rintro e w6 ⟨rfl,h6,v6⟩;have HV6:=Aa (HV5.out.trans v6)
   have HW2:=Aa (DJ B b _ ⟨#[41]⟩ w6 h6 (by have:=HLN.out;simp only[List.length_append];show _+1+_+1<=_;omega) (Nat.le_trans HSZ.out HV6.out.size));clear h6 v6 y0 y1 y2 y3 y4 y5 y6;go_wp2_with fail;refine HW2.out.mono ?_;rintro e w7 ⟨rfl,h7,v7⟩;have HP:=Aa (show DZ B b (out++Dx true tx) w0 (.returned (.tuple #[])) w7 from ⟨rfl,by
    have e1:out++Dx true tx=out++ub ⟨#[40]⟩++tx++ub ⟨#[41]⟩:=(by unfold Dx;rw[if_pos rfl];simp[ub]);rw[e1];exact h7,HV6.out.trans v7⟩)
   clear h7 v7;go_wp2_with fail;go_end0
   exact HP.out
theorem GE (B b:Nat) (kd:Int) (Al:Option Addr) (nl cl:Nat) (Ar:Option Addr) (nr cr:Nat) (op:Int) (p q:ByteArray) (A:Option Addr) (n c:Nat) (s:ByteArray) (ta tb:List UInt8) (w1:World) (hBs:B<=w1.heap.size)
  (ha:I0 B b w1 71 #[.agg #[.int .i64 kd,.slice Al nl cl,.slice Ar nr cr,.int .i64 op,.string p,.string q,.slice A n c],.int .i64 0] ta) (hb:I0 B b w1 71 #[.agg #[.int .i64 kd,.slice Al nl cl,.slice Ar nr cr,.int .i64 op,.string p,.string q,.slice A n c],.int .i64 1] tb):I0 B b w1 72 #[.agg #[.int .i64 kd,.slice Al nl cl,.slice Ar nr cr,.int .i64 op,.string p,.string q,.slice A n c],.string s] (ta++(ub s++tb)):=by
 intro out w0 hbw hbl hT;have HSZ:=Aa (Nat.le_trans hBs hbw.size);have HA:=Aa (fun (out:List UInt8) W (h:Nu.BW B b w0 W) hb hl=>ha out W (hbw.trans h) hb hl);have HBB:=Aa (fun (out:List UInt8) W (h:Nu.BW B b w0 W) hbb hl=>hb out W (hbw.trans h) hbb hl);obtain ⟨x1,hb,hsz⟩:=Ax 33 w0 #[.int .i64 kd,.slice Al nl cl,.slice Ar nr cr,.int .i64 op,.string p,.string q,.slice A n c];have HL1:=Aa (hbl.below hb);have HV1:=Aa (Nu.BW.of_below (B:=B) (b:=b) hb);have hbn:=FH hbl
 have hgb0:w0.heap.size≠b:=by omega
 have X1:=Aa x1;have HLT:=Aa (show out.length+(ta.length+((ub s).length+tb.length))<=140737488355328 from by simp only[List.length_append]at hT;omega);have c0:=x1.cell 0 _ rfl;have c1:=x1.cell 1 _ rfl;have c2:=x1.cell 2 _ rfl;have c3:=x1.cell 3 _ rfl;have c4:=x1.cell 4 _ rfl;have c5:=x1.cell 5 _ rfl;have c6:=x1.cell 6 _ rfl;clear ha hb hbl hT hbw x1;go_enter Tryz.func72,Tryz.ntmps72;go_wp2_with fail;refine (HA.out out _ HV1.out HL1.out (by have:=HLT.out;omega)).mono ?_
 rintro e w3 ⟨rfl,h3,v3⟩;have HV3:=Aa (HV1.out.trans v3);have X3:=Aa (FG v3 (by decide) hgb0 X1.out);have HW1:=Aa (DJ B b _ s w3 h3 (by have:=HLT.out;simp only[List.length_append];omega) (Nat.le_trans HSZ.out HV3.out.size));clear h3 v3 c0 c1 c2 c3 c4 c5 c6 X1;go_wp2_with fail;refine HW1.out.mono ?_;rintro e w5 ⟨rfl,h5,v5⟩;have HV5:=Aa (HV3.out.trans v5);have HL5:=Aa h5;have X5:=Aa (FG v5 (by decide) hgb0 X3.out);clear h5 v5 X3;have c0:=X5.out.cell 0 _ rfl
 have c1:=X5.out.cell 1 _ rfl;have c2:=X5.out.cell 2 _ rfl;have c3:=X5.out.cell 3 _ rfl;have c4:=X5.out.cell 4 _ rfl;have c5:=X5.out.cell 5 _ rfl;have c6:=X5.out.cell 6 _ rfl;go_wp2_with fail;refine (HBB.out _ w5 HV5.out HL5.out (by have:=HLT.out;simp only[List.length_append];omega)).mono ?_;rintro e w6 ⟨rfl,h6,v6⟩
 have HP:=Aa (show DZ B b (out++(ta++(ub s++tb))) w0 (.returned (.tuple #[])) w6 from ⟨rfl,by rw[<-List.append_assoc,<-List.append_assoc];exact h6,HV5.out.trans v6⟩);clear h6 v6;go_wp2_with fail;go_end0
 exact HP.out
end
end Go.Proofs.YtgohmojcopajoaaGreatDoor
