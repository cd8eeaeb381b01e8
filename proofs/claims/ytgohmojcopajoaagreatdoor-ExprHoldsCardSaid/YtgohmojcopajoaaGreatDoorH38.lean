/- Texts of one seat, put together: ExprHj ExprHk. -/
import Derived.Test.YtgohmojcopajoaaGreatDoorH37
set_option linter.unusedVariables false
set_option linter.unusedSimpArgs false
set_option maxRecDepth 100000
set_option maxHeartbeats 16000000
namespace Go.Proofs.YtgohmojcopajoaaGreatDoor
section
open Go.RowKit
open Lx Ex
def RR (o:Nat) (a b:Option (List (Int×Int)×Int)):Option Fm:=match a,b with
 |some a,some b=>some (U5 o a.1 b.1 a.2 b.2)
 |_,_=>none
theorem RS (o:Nat) (a b:Option (List (Int×Int)×Int)):(RR o a b).isSome=(a.isSome&&b.isSome):=by cases a<;>cases b<;>rfl
theorem VE (o:Nat) (a b:Option (List (Int×Int)×Int)) (F:Fm) (h:RR o a b=some F):F=U5 o (a.getD ([],0)).1 (b.getD ([],0)).1 (a.getD ([],0)).2 (b.getD ([],0)).2:=by
 cases a with
 |none=>cases h
 |some a=>
  cases b with
  |none=>cases h
  |some b=>injection h with h;exact h.symm
theorem RU {S:Nat->Prop} {t:GT} {kd:Int} {Al:Option Addr} {nl cl:Nat} {Ar:Option Addr} {nr cr:Nat} {op:Int} {p q:ByteArray} {A:Option Addr} {n c:Nat} (V:Option Addr) (mv dv:Nat) (vs:List ByteArray) (w0:World) (l r:List Mn) (hl:Du S w0 Al nl l) (hr:Du S w0 Ar nr r) (hzl:JQ l) (hzr:JQ r) (h9:nl<=64) (h8:nr<=64) (hS:EN w0 V mv vs) (hm:mv<=9223372036854775807) (hsl:Bl l=true) (hsr:Bl r=true) (o:Nat) (ho:o<6) (hop:op=(o:Int)) :
   Calls Tryz.prog 73 #[.agg #[.int .i64 kd,.slice Al nl cl,.slice Ar nr cr,.int .i64 op,.string p,.string q,.slice A n c],.slice V mv dv] w0 (RQ (RR o (Ef vs l ([],0)) (Ef vs r ([],0))) w0):=by
 obtain ⟨x1,xf,hb,-⟩:=Ax 33 61 w0 #[.int .i64 kd,.slice Al nl cl,.slice Ar nr cr,.int .i64 op,.string p,.string q,.slice A n c] #[.int .i64 0,.slice none 0 0,.bool false,.slice none 0 0,.bool false,.slice none 0 0];have HB:=Aa hb;have X1:=Aa x1;have XF:=Aa xf;have HTL:=Aa (fun W (hW:Below w0.heap.size w0 W)=>Gj S Al nl cl l V mv dv vs W (hl.keep (AJ.of_below hW)) (by omega) hzl (hS.below hW) hm)
 have HTR:=Aa (fun W (hW:Below w0.heap.size w0 W)=>Gj S Ar nr cr r V mv dv vs W (hr.keep (AJ.of_below hW)) (by omega) hzr (hS.below hW) hm);have HLL:=Aa (show ((Ef vs l ([],0)).getD ([],0)).1.length<=64 from by
   cases h:Ef vs l ([],0) with
   |none=>exact Nat.zero_le _
   |some q=>have h1:=Jb vs l _ _ h;have h2:=GD hsl;simpa using Nat.le_trans h1 (by simpa using h2))
 have HLR:=Aa (show ((Ef vs r ([],0)).getD ([],0)).1.length<=64 from by
   cases h:Ef vs r ([],0) with
   |none=>exact Nat.zero_le _
   |some q=>have h1:=Jb vs r _ _ h;have h2:=GD hsr;simpa using Nat.le_trans h1 (by simpa using h2))
 rw[hsl]at HTL;rw[hsr]at HTR;simp only[if_true]at HTL HTR;subst hop;have HOP:=Aa (fun v u L M K J W h1 h2 h3 h4=>Pv v u o ho L M K J W h1 h2 h3 h4);have g0:=x1.cell 0 _ rfl;have g1:=x1.cell 1 _ rfl;have g2:=x1.cell 2 _ rfl;have g3:=x1.cell 3 _ rfl;have g4:=x1.cell 4 _ rfl;have g5:=x1.cell 5 _ rfl;have g6:=x1.cell 6 _ rfl;generalize Ef vs l ([],0)=tl at *;generalize Ef vs r ([],0)=tr at *;clear hl hr hzl hzr hS hm hsl hsr x1 xf hb;go_enter Tryz.func73,Tryz.ntmps73
 go_wp2_with fail;refine (HTL.out _ HB.out).mono ?_;rintro e w2 ⟨v2,rfl,r2,b2⟩;obtain ⟨A2,n2,c2,s2,B2,m2,d2,rfl⟩:=r2.form;have HB2:=Aa (HB.out.next b2);have X2:=Aa (X1.out.next b2);have XF2:=Aa (XF.out.next b2);have R2:=Aa r2;have z6:Am 56 (w2.alloc (.cells #[.slice none 0 0,.bool false,.slice none 0 0] 56)) w2.heap.size #[.slice none 0 0,.bool false,.slice none 0 0]:=Am.new _ _ _;have hs2:=World.size_alloc w2 (.cells #[.slice none 0 0,.bool false,.slice none 0 0] 56)
 have hs0:=XF2.out.lt;have HK2:=Aa (fun W (ho:Ai w2.heap.size (w2.alloc (.cells #[.slice none 0 0,.bool false,.slice none 0 0] 56)) W)=>(R2.out.below (Ae w2 _)).only z6 ho);clear b2 r2 g0 g1 g2 g3 g4 g5 g6
 go_wp2_with (with_reducible refine Ab rfl 56 _ _ rfl w2.heap.size #[.slice A2 n2 c2,.bool s2,.slice B2 m2 d2] rfl rfl _ z6 (by kernel_rfl) rfl (by simp[Value.oneCell']) ?_;intro w3 k3 o3;have HB3:=Aa (show Below w2.heap.size w2 w3 from (Ae w2 _).trans (o3.below (Ae w2 _).size (Nat.le_refl _)));have R3:=Aa (HK2.out w3 o3);have K3:=Aa k3;have X3:=Aa (X2.out.next HB3.out);have c2r:=X3.out.cell 2 _ rfl;clear o3 k3);refine (HTR.out _ (HB2.out.next HB3.out)).mono ?_
 rintro e w4 ⟨v4,rfl,r4,b4⟩;obtain ⟨A4,n4,c4,s4,B4,m4,d4,rfl⟩:=r4.form;have HB4:=Aa ((HB2.out.next HB3.out).next b4);have X4:=Aa (X3.out.next b4);have XF4:=Aa ((XF2.out.next HB3.out).next b4);have K4:=Aa (K3.out.next b4);have R4:=Aa (R3.out.below b4);have Q4:=Aa r4;have z8:Am 56 (w4.alloc (.cells #[.slice none 0 0,.bool false,.slice none 0 0] 56)) w4.heap.size #[.slice none 0 0,.bool false,.slice none 0 0]:=Am.new _ _ _
 have hs4:=World.size_alloc w4 (.cells #[.slice none 0 0,.bool false,.slice none 0 0] 56);have hs3:=XF4.out.lt;have HK4:=Aa (fun W (ho:Ai w4.heap.size (w4.alloc (.cells #[.slice none 0 0,.bool false,.slice none 0 0] 56)) W)=>(R4.out.below (Ae w4 _)).only z8 ho);have HQ4:=Aa (fun W (ho:Ai w4.heap.size (w4.alloc (.cells #[.slice none 0 0,.bool false,.slice none 0 0] 56)) W)=>(Q4.out.below (Ae w4 _)).only z8 ho);clear b4 r4 c2r;have HIS:=Aa (RS o tl tr)
 have HIF:=Aa (fun F=>VE o tl tr F);generalize RR o tl tr=R at *;generalize hbl:tl.isSome=bl at *;generalize hbr:tr.isSome=br at *;have HLT:=Aa (fun W (h1:Nu.AP W (.agg #[.slice A2 n2 c2,.bool s2,.slice B2 m2 d2]) (tl.getD ([],0)).1 (tl.getD ([],0)).2 9000) (h2:Nu.AP W (.agg #[.slice A4 n4 c4,.bool s4,.slice B4 m4 d4]) (tr.getD ([],0)).1 (tr.getD ([],0)).2 9000)=>HOP.out _ _ _ _ _ _ W h1.in_ h2.in_ HLL.out HLR.out);clear hbl hbr;cases bl
 · go_wp2_with (with_reducible refine Ab rfl 56 _ _ rfl w4.heap.size #[.slice A4 n4 c4,.bool s4,.slice B4 m4 d4] rfl rfl _ z8 (by kernel_rfl) rfl (by simp[Value.oneCell']) ?_;intro w5 k5 o5;have HB5:=Aa (show Below w4.heap.size w4 w5 from (Ae w4 _).trans (o5.below (Ae w4 _).size (Nat.le_refl _)));have R5:=Aa (HK4.out w5 o5);have Q5:=Aa (HQ4.out w5 o5);have X5:=Aa (X4.out.next HB5.out);have K5:=Aa (K4.out.next HB5.out);have XF5:=Aa (XF4.out.next HB5.out);have c3r:=X5.out.cell 3 _ rfl;have a0:=K5.out.cell 0 _ rfl;have a1:=K5.out.cell 1 _ rfl;have a2:=K5.out.cell 2 _ rfl;have b0:=k5.cell 0 _ rfl;have b1:=k5.cell 1 _ rfl;have b2:=k5.cell 2 _ rfl;clear o5)
   refine (HLT.out _ R5.out Q5.out).mono ?_;rintro e w6 ⟨kq9,fA9,fn9,fc9,fs9,fB9,fm9,fd9,ff9,fC9,fp9,fq9,rfl,hf6,b6⟩;have xf6:=XF5.out.next b6;have XF6:=Aa xf6;have HF6:=Aa hf6;have HS6:=Aa (show w0.heap.size+1<w5.heap.size from XF5.out.lt);have HB6:=Aa ((HB4.out.next HB5.out).next b6);clear b6 hf6 a0 a1 a2 b0 b1 b2 c3r
   go_wp2_with (with_reducible refine Ab rfl 61 _ _ rfl (w0.heap.size+1) #[.int .i64 kq9,.slice fA9 fn9 fc9,.bool fs9,.slice fB9 fm9 fd9,.bool ff9,.slice fC9 fp9 fq9] rfl rfl _ xf6 (by kernel_rfl) rfl (by simp[Value.oneCell']) ?_;intro w9 k9 o9);refine A0 (v:=.bool false) rfl rfl rfl k9 rfl ?_;refine ⟨kq9,fA9,fn9,fc9,fs9,fB9,fm9,fd9,ff9,fC9,fp9,fq9,by rw[HIS.out];rfl,fun F hF=>?_,HB6.out.trans (o9.below HB6.out.size (by omega))⟩;rw[HIF.out F hF]
   exact (HF6.out.onlyF XF6.out o9 (fun b (hb:_<=b)=>by have:=HS6.out;omega)).sub (fun b _ (hb:_<=b)=>by have:=HS6.out;show _<=b;omega)
 · go_wp2_with (with_reducible refine Ab rfl 56 _ _ rfl w4.heap.size #[.slice A4 n4 c4,.bool s4,.slice B4 m4 d4] rfl rfl _ z8 (by kernel_rfl) rfl (by simp[Value.oneCell']) ?_;intro w5 k5 o5;have HB5:=Aa (show Below w4.heap.size w4 w5 from (Ae w4 _).trans (o5.below (Ae w4 _).size (Nat.le_refl _)));have R5:=Aa (HK4.out w5 o5);have Q5:=Aa (HQ4.out w5 o5);have X5:=Aa (X4.out.next HB5.out);have K5:=Aa (K4.out.next HB5.out);have XF5:=Aa (XF4.out.next HB5.out);have c3r:=X5.out.cell 3 _ rfl;have a0:=K5.out.cell 0 _ rfl;have a1:=K5.out.cell 1 _ rfl;have a2:=K5.out.cell 2 _ rfl;have b0:=k5.cell 0 _ rfl;have b1:=k5.cell 1 _ rfl;have b2:=k5.cell 2 _ rfl;clear o5)
   refine (HLT.out _ R5.out Q5.out).mono ?_;rintro e w6 ⟨kq9,fA9,fn9,fc9,fs9,fB9,fm9,fd9,ff9,fC9,fp9,fq9,rfl,hf6,b6⟩;have xf6:=XF5.out.next b6;have XF6:=Aa xf6;have HF6:=Aa hf6;have HS6:=Aa (show w0.heap.size+1<w5.heap.size from XF5.out.lt);have HB6:=Aa ((HB4.out.next HB5.out).next b6);clear b6 hf6 a0 a1 a2 b0 b1 b2 c3r
   go_wp2_with (with_reducible refine Ab rfl 61 _ _ rfl (w0.heap.size+1) #[.int .i64 kq9,.slice fA9 fn9 fc9,.bool fs9,.slice fB9 fm9 fd9,.bool ff9,.slice fC9 fp9 fq9] rfl rfl _ xf6 (by kernel_rfl) rfl (by simp[Value.oneCell']) ?_;intro w9 k9 o9);refine A0 (v:=.bool br) rfl rfl rfl k9 rfl ?_;refine ⟨kq9,fA9,fn9,fc9,fs9,fB9,fm9,fd9,ff9,fC9,fp9,fq9,by rw[HIS.out];rfl,fun F hF=>?_,HB6.out.trans (o9.below HB6.out.size (by omega))⟩;rw[HIF.out F hF]
   exact (HF6.out.onlyF XF6.out o9 (fun b (hb:_<=b)=>by have:=HS6.out;omega)).sub (fun b _ (hb:_<=b)=>by have:=HS6.out;show _<=b;omega)
end
section
open Go.RowKit
open Lx Ex
def Ic:List (Option Fm)->Option (List Fm)
 |[]=>some []
 |none::_=>none
 |some a::r=>(Ic r).map (a::·)
theorem RX (fs:List Fm):Ic (fs.map some)=some fs:=by
 induction fs with
 |nil=>rfl
 |cons f fs ih=>rw[List.map_cons,Ic,ih];rfl
theorem RY (rs:List (Option Fm)):∀j:Nat,rs[j]?=some none->Ic rs=none:=by
 induction rs with
 |nil=>intro j h;simp at h
 |cons r rs ih=>
  intro j h;cases r with
  |none=>rfl
  |some a=>
   cases j with
   |zero=>simp at h
   |succ j=> rw[List.getElem?_cons_succ]at h;rw[Ic,ih j h];rfl
theorem Gz {w:World} {ops:Array Oper} {rest:List Oper} {o:Oper} {a:Act} {Q:Exit->Act->World->Prop} (hgd:o.guard=none) (s x:Operand)
  (ho:o.op=.call { callee:=.builtin .append,args:=#[s,x],argTypes:=#[59,59] }) (base:Nat) (v:Value) (k:Nat) (xs:List Value) (hs:a.eval s=v) (hown:NU w base v k xs)
  (b:Nat) (kq:Int) (A B C:Option Addr) (n c m d p q:Nat) (s1 f1:Bool) (hx:a.eval x=.slice (some ⟨b,0,none⟩) 1 1) (hb:w.heap[b]?=some (.cells #[.int .i64 kq,.slice A n c,.bool s1,.slice B m d,.bool f1,.slice C p q] 61 (0,0))) (hn:k+1<=109951162777) (hbase:base<=w.heap.size)
  (h:∀v' w',NU w' base v' (k+1) (xs++[.int .i64 kq,.slice A n c,.bool s1,.slice B m d,.bool f1,.slice C p q])->w.grownBy w' v.ownBlock->(v'.ownBlock=v.ownBlock\/v'.ownBlock=some w.heap.size)->wpList Tryz.prog ops Q rest (a.put o.dst v') w'):wpList Tryz.prog ops Q (o::rest) a w:=by
 obtain ⟨i0,hi0,hz0,hz1,hz2⟩:=info_parts Iy;exact Gy Eh hgd s x 59 ho base 61 i0 _ 6 96 Tryz.underlying59 hi0 hz0 hz1 hz2 rfl (by decide) (Xo (d:=0)) v k xs hs hown ⟨b,0,none⟩ 1 1 [.int .i64 kq,.slice A n c,.bool s1,.slice B m d,.bool f1,.slice C p q] hx rfl
  (fun j u hu=>by rw[addr_add,Nat.zero_add,cell_of_row w b j _ _ _ hb];simpa using hu) (fun u hu=>by
   simp only[List.mem_cons,List.not_mem_nil,or_false]at hu;rcases hu with rfl|rfl|rfl|rfl|rfl|rfl<;>rfl) (Xo (d:=0)) (by unfold maxLen;omega) (by omega) hbase Eh.nil Eh.app Eh.take Eh.drop Eh.zero (Eh.six _ _ _ _ _ _ _ _ _ _ _ _) h
theorem JZ (kk:Int) (A:Option Addr) (n c:Nat) (V:Option Addr) (mv dv:Nat) (vs:List ByteArray) (rs:List (Option Fm)) (w0:World) (hrs:rs.length=n) (hn:n<=1000) (hc:n<=c) (hc9:c<=9223372036854775807)
  (hk:∀j,j<n->∃(ba oa:Nat) (k2:Int) (Al2:Option Addr) (BO cl2:Nat) (Ar2:Option Addr) (nr2 cr2:Nat) (op2:Int) (p2 q2:ByteArray) (A2:Option Addr) (n2 c2:Nat) (rq:Option Fm),rs[j]?=some rq/\A=some ⟨ba,oa,none⟩/\ba<w0.heap.size/\w0.cell? ⟨ba,oa+j*7,none⟩=some (.int .i64 k2)/\w0.cell? ⟨ba,oa+j*7+1,none⟩=some (.slice Al2 BO cl2)/\w0.cell? ⟨ba,oa+j*7+2,none⟩=some (.slice Ar2 nr2 cr2)/\w0.cell? ⟨ba,oa+j*7+3,none⟩=some (.int .i64 op2)/\w0.cell? ⟨ba,oa+j*7+4,none⟩=some (.string p2)/\w0.cell? ⟨ba,oa+j*7+5,none⟩=some (.string q2)/\w0.cell? ⟨ba,oa+j*7+6,none⟩=some (.slice A2 n2 c2)/\∀W,Below w0.heap.size w0 W->Calls Tryz.prog 44 #[.agg #[.int .i64 k2,.slice Al2 BO cl2,.slice Ar2 nr2 cr2,.int .i64 op2,.string p2,.string q2,.slice A2 n2 c2],.slice V mv dv] W (RQ rq W)) :
  Calls Tryz.prog 74 #[.int .i64 kk,.slice A n c,.slice V mv dv] w0 (RQ ((Ic rs).map (Cx kk)) w0):=by
 obtain ⟨x6,x8,hb,hsz⟩:=Ax 61 61 w0 #[.int .i64 0,.slice none 0 0,.bool false,.slice none 0 0,.bool false,.slice none 0 0] #[.int .i64 kk,.slice none 0 0,.bool false,.slice none 0 0,.bool false,.slice none 0 0];have HB1:=Aa hb;have Y6:=Aa x6;have Y8:=Aa x8;have HK:=Aa hk;have HRS:=Aa hrs;clear hk x6 x8 hb hrs;go_enter Tryz.func74,Tryz.ntmps74;go_wp2_with fail
 generalize hW1:(w0.alloc (.cells #[.int .i64 0,.slice none 0 0,.bool false,.slice none 0 0,.bool false,.slice none 0 0] 61)).alloc (.cells #[.int .i64 kk,.slice none 0 0,.bool false,.slice none 0 0,.bool false,.slice none 0 0] 61)=W1 at *;clear hW1
 go_loopw [17] (fun i wr=>∃x:Nat,x<=n/\i=.int .i64 x/\Hid (∃v fs,fs.length=x/\rs.take x=fs.map some/\Am 61 wr (w0.heap.size+1) #[.int .i64 kk,.slice none 0 0,.bool false,.slice none 0 0,.bool false,v]/\KL (fun b=>w0.heap.size+2<=b/\some b≠v.ownBlock) wr (w0.heap.size+2) v fs)/\Hid (Am 61 wr w0.heap.size #[.int .i64 0,.slice none 0 0,.bool false,.slice none 0 0,.bool false,.slice none 0 0])/\Hid (Below w0.heap.size w0 wr)/\w0.heap.size+2<=wr.heap.size) (fun i _=>n-(intOf i).toNat)
 case atStart=>exact ⟨0,Nat.zero_le _,rfl,Aa ⟨_,[],rfl,rfl,Y8.out,KL.nil _ _ _⟩,Y6,HB1,by omega⟩
 case round=>
  obtain ⟨x,hx,rfl,HER,XR6,HR,hwr⟩:=hrel;obtain ⟨v,fs,rfl,htk,xr8,css,l1,l2,l3,l4⟩:=HER.out;obtain ⟨vA,vc,rfl,hv1,hv2,-⟩:=l1.lrow.len;have HTK:=Aa htk;have HL2:=Aa l2;have HL3:=Aa l3;have HL4:=Aa (fun W (h:Below wr.heap.size wr W) (j:Nat) (t:Fm) (ht:fs[j]?=some t)=>(show ∃cs:List Value,css[j]?=some cs/\BN (fun b=>w0.heap.size+2<=b/\some b≠(Value.slice vA fs.length vc).ownBlock) W t cs from by obtain ⟨cs,e1,e2⟩:=l4 j t ht;exact ⟨cs,e1,e2.blw h⟩));have LR:=Aa l1
  have HOW:=Aa (fun k hk=>(l1.lrow.lt k hk).2);clear htk l2 l3 l4 l1;by_cases hxn:fs.length<n
  · obtain ⟨ba,oa,k2,Al2,BO,cl2,Ar2,nr2,cr2,op2,p2,q2,A2,n2,c2,rq,hrq,rfl,hba,e0,e1,e2,e3,e4,e5,e6,hrec⟩:=HK.out fs.length hxn;have e0:=(Af HR.out hba).trans e0;have e1:=(Af HR.out hba).trans e1;have e2:=(Af HR.out hba).trans e2;have e3:=(Af HR.out hba).trans e3;have e4:=(Af HR.out hba).trans e4;have e5:=(Af HR.out hba).trans e5;have e6:=(Af HR.out hba).trans e6;have hba2:ba<wr.heap.size:=Nat.lt_of_lt_of_le hba HR.out.size;have HREC:=Aa hrec;have HRQ:=Aa hrq
    have X8r:=Aa xr8;have z10:Am 33 (wr.alloc (.cells #[.int .i64 0,.slice none 0 0,.slice none 0 0,.int .i64 0,.string ⟨#[]⟩,.string ⟨#[]⟩,.slice none 0 0] 33)) wr.heap.size #[.int .i64 0,.slice none 0 0,.slice none 0 0,.int .i64 0,.string ⟨#[]⟩,.string ⟨#[]⟩,.slice none 0 0]:=Am.new _ _ _;have g17:(fs.length:Int)<(n:Int):=(by omega);clear hrec xr8 HER hrq
    go_wp2_with (with_reducible refine Ab rfl 33 _ _ rfl wr.heap.size #[.int .i64 k2,.slice Al2 BO cl2,.slice Ar2 nr2 cr2,.int .i64 op2,.string p2,.string q2,.slice A2 n2 c2] rfl rfl _ z10 (by kernel_rfl) rfl (by simp[Value.oneCell']) ?_;intro w2 k2x o2;have HB2:=Aa (show Below wr.heap.size wr w2 from (Ae wr _).trans (o2.below (Ae wr _).size (Nat.le_refl _)));have y0:=k2x.cell 0 _ rfl;  have y1:=k2x.cell 1 _ rfl;  have y2:=k2x.cell 2 _ rfl;  have y3:=k2x.cell 3 _ rfl;  have y4:=k2x.cell 4 _ rfl;  have y5:=k2x.cell 5 _ rfl;  have y6:=k2x.cell 6 _ rfl;clear o2 k2x e0 e1 e2 e3 e4 e5 e6 z10)
    refine (HREC.out _ (HR.out.next HB2.out)).mono ?_;rintro e w4 ⟨kq,fA9,fn9,fc9,fs9,fB9,fm9,fd9,ff9,fC9,fp9,fq9,rfl,hf4,b4⟩;have HB4:=Aa (show Below wr.heap.size wr w4 from HB2.out.trans (b4.mono HB2.out.size));have hs4:wr.heap.size<=w4.heap.size:=HB4.out.size;have HS2:=Aa HB2.out.size
    have z11:Am 61 (w4.alloc (.cells #[.int .i64 0,.slice none 0 0,.bool false,.slice none 0 0,.bool false,.slice none 0 0] 61)) w4.heap.size #[.int .i64 0,.slice none 0 0,.bool false,.slice none 0 0,.bool false,.slice none 0 0]:=Am.new _ _ _;clear b4 y0 y1 y2 y3 y4 y5 y6 HREC;cases rq with
    |none=>
     have HNO:=Aa (show (Ic rs).map (Cx kk)=none from by rw[RY rs _ HRQ.out];rfl);have x6r:=XR6.out.next HB4.out;clear hf4;have HE4:=Aa (fun A (T:TypeId) W (ho:Ai w0.heap.size (w4.alloc A) W)=>(HR.out.next HB4.out).trans ((Ae w4 A).mono (Nat.le_trans HR.out.size hs4) |>.trans (ho.below (Nat.le_trans (Nat.le_trans HR.out.size hs4) (Ae w4 A).size) (Nat.le_refl _))));go_wp2_with (first
      |(with_reducible refine Ab rfl 61 _ _ rfl w4.heap.size #[.int .i64 kq,.slice fA9 fn9 fc9,.bool fs9,.slice fB9 fm9 fd9,.bool ff9,.slice fC9 fp9 fq9] rfl rfl _ z11 (by kernel_rfl) rfl (by simp[Value.oneCell']) ?_;intro w5 k5 o5;have HB5:=Aa (show Below wr.heap.size wr w5 from HB4.out.trans (((Ae w4 _).trans (o5.below (Ae w4 _).size (Nat.le_refl _))).mono HB4.out.size));have X65:=Aa (XR6.out.next HB5.out);have x65:=X65.out;clear o5 k5)
      |(with_reducible refine Ab rfl 61 _ _ rfl w0.heap.size #[.int .i64 0,.slice none 0 0,.bool false,.slice none 0 0,.bool false,.slice none 0 0] rfl rfl _ x65 (by kernel_rfl) rfl (by simp[Value.oneCell']) ?_;intro w9 k9 o9))
     refine A0 (v:=.bool false) rfl rfl rfl k9 rfl ?_;exact ⟨_,_,_,_,_,_,_,_,_,_,_,_,by rw[HNO.out];rfl,fun F hF=>by rw[HNO.out]at hF;(cases hF),(HR.out.next HB5.out).trans (o9.below (HR.out.next HB5.out).size (Nat.le_refl _))⟩
    |some F=>
     have HF4:=Aa ((hf4 F rfl).sub (S':=fun b=>(w0.heap.size+2<=b/\some b≠(Value.slice vA fs.length vc).ownBlock)/\b≠w4.heap.size) (fun b hb (hs:_<=b)=>⟨⟨by have:=HS2.out;omega,fun e=>by have:=HOW.out b e.symm;have:=HS2.out;omega⟩,by omega⟩))
     have HF5:=Aa (fun W (ho:Ai w4.heap.size (w4.alloc (.cells #[.int .i64 0,.slice none 0 0,.bool false,.slice none 0 0,.bool false,.slice none 0 0] 61)) W)=>(((HF4.out.blw (Ae w4 _)).onlyF z11 ho (fun b hb=>hb.2)).sub (S':=(fun b=>w0.heap.size+2<=b/\some b≠(Value.slice vA fs.length vc).ownBlock)) (fun b _ hb=>hb.1)));clear hf4;go_wp2_with (first
      |(with_reducible refine Ab rfl 61 _ _ rfl w4.heap.size #[.int .i64 kq,.slice fA9 fn9 fc9,.bool fs9,.slice fB9 fm9 fd9,.bool ff9,.slice fC9 fp9 fq9] rfl rfl _ z11 (by kernel_rfl) rfl (by simp[Value.oneCell']) ?_;intro w5 k5 o5;have HB5:=Aa (show Below wr.heap.size wr w5 from HB4.out.trans (((Ae w4 _).trans (o5.below (Ae w4 _).size (Nat.le_refl _))).mono HB4.out.size));have hs5:=HB5.out.size;have X85:=Aa (X8r.out.next HB5.out);have f0:=k5.cell 0 _ rfl;  have f1:=k5.cell 1 _ rfl;  have f2:=k5.cell 2 _ rfl;  have f3:=k5.cell 3 _ rfl;  have f4:=k5.cell 4 _ rfl;  have f5:=k5.cell 5 _ rfl;have f8:=X85.out.cell 5 _ rfl;have hb7:=Ae w5 (.cells #[.int .i64 kq,.slice fA9 fn9 fc9,.bool fs9,.slice fB9 fm9 fd9,.bool ff9,.slice fC9 fp9 fq9] 61);have HN7:=Aa (heap_alloc_new w5 (.cells #[.int .i64 kq,.slice fA9 fn9 fc9,.bool fs9,.slice fB9 fm9 fd9,.bool ff9,.slice fC9 fp9 fq9] 61));have L7:=Aa ((LR.out.below HB5.out).below hb7);have HF7:=Aa ((HF5.out w5 o5).blw hb7);have HL7:=Aa (HL4.out _ (HB5.out.next hb7));clear o5 k5)
      |(at_builtin;refine Gz rfl _ _ rfl (w0.heap.size+2) _ fs.length css.flatten rfl L7.out w5.heap.size kq fA9 fB9 fC9 fn9 fc9 fm9 fd9 fp9 fq9 fs9 ff9 rfl HN7.out (by omega) (by simp only[World.size_alloc];omega) ?_;intro v3 w7 l7 g7 ho7;have KL7:=Aa (KL.add L7.out HL2.out HL3.out HL7.out HF7.out l7 g7 ho7);obtain ⟨vB,vd,hv3,hw1,hw2,-⟩:=l7.lrow.len;subst hv3;have X87:=Aa ((X85.out.next hb7).grown g7 (fun e=>by have:=(L7.out.lrow.lt _ e.symm).1;omega));have x6q:=((XR6.out.next HB5.out).next hb7).grown g7 (fun e=>by have:=(L7.out.lrow.lt _ e.symm).1;omega);have X67:=Aa x6q;have HBL:=Aa (L7.out.lrow.old ((HR.out.next HB5.out).next hb7) g7 (show w0.heap.size<=w0.heap.size+2 from by omega) (Nat.le_refl _));have hs7:=g7.size;have q8:=X87.out.cell 5 _ rfl;have q9:=X87.out.fr 5;clear l7 g7 ho7 x6q f0 f1 f2 f3 f4 f5 f8 hb7))
     have o8:=Db w7 (w0.heap.size+1) 5 (.slice vB (fs.length+1) vd);have hlt7:=X87.out.lt;have HKL:=Aa (KL7.out.keep (w':=w7.setCell ⟨(w0.heap.size+1),5,none⟩ (.slice vB (fs.length+1) vd)) (fun xs h=>h.other o8 (Or.inl (by omega))) ⟨o8.size,fun b hb hlt=>o8.block b hlt (fun e=>by injection e with e;have:=hb.1;omega)⟩ (fun _ _ _ h=>Nu.AW.onlyF h X87.out o8));go_roundw
     case rel=>exact ⟨fs.length+1,by omega,by go_num,Aa ⟨_,fs++[F],by simp,by rw[List.take_add_one,HTK.out,HRQ.out,List.map_append];rfl,NI X87.out _,HKL.out⟩,Aa (X67.out.other o8 (by omega)),Aa (HBL.out.trans (o8.below HBL.out.size (by omega))),by have:=o8.size;have:=HBL.out.size;have:=X87.out.lt;omega⟩
     case measure=>simp[intOf];omega
  · obtain rfl:fs.length=n:=(by omega);have X8r:=Aa xr8;have x6r:=XR6.out;have HAL:=Aa (show Ic rs=some fs from by
     have:=HTK.out;rw[<-HRS.out,List.take_length]at this;rw[this];exact RX fs)
    have f0:=xr8.cell 0 _ rfl;have f1:=xr8.cell 1 _ rfl;have f2:=xr8.cell 2 _ rfl;have f3:=xr8.cell 3 _ rfl;have f4:=xr8.cell 4 _ rfl;have f5:=xr8.cell 5 _ rfl;clear xr8 HER;go_wp2_with (with_reducible refine Ab rfl 61 _ _ rfl w0.heap.size #[.int .i64 kk,.slice none 0 0,.bool false,.slice none 0 0,.bool false,.slice vA fs.length vc] rfl rfl _ x6r (by kernel_rfl) rfl (by simp[Value.oneCell']) ?_;intro w9 k9 o9);refine A0 (v:=.bool true) rfl rfl rfl k9 rfl ?_
    refine ⟨_,_,_,_,_,_,_,_,_,_,_,_,by rw[HAL.out];rfl,fun F hF=>?_,HR.out.trans (o9.below HR.out.size (Nat.le_refl _))⟩;rw[HAL.out]at hF;injection hF with hF
    subst hF;exact ((BN.kids (base:=w0.heap.size+2) (S:=fun b=>w0.heap.size+2<=b) kk ⟨css,LR.out.lrow,HL2.out,HL3.out,fun j t ht=>by obtain ⟨cs,e1,e2⟩:=HL4.out wr (Below.refl _ _) j t ht;exact ⟨cs,e1,e2.sub (fun b _ hb=>hb.1)⟩⟩ (fun b h=>h)).onlyF XR6.out o9 (fun b hb=>by omega)).sub (fun b _ hb=>by show _<=b;omega)
end
end Go.Proofs.YtgohmojcopajoaaGreatDoor
