/- Texts of one seat, put together: ExprFn ExprFo ExprFp. -/
import Derived.Test.YtgohmojcopajoaaGreatDoorT30
set_option linter.unusedVariables false
set_option linter.unusedSimpArgs false
set_option maxRecDepth 100000
set_option maxHeartbeats 16000000
namespace Go.Proofs.YtgohmojcopajoaaGreatDoor
section
open Go.RowKit
open Lx Ex
theorem QK (vs:List ByteArray) (l:List Mn):∀(s r:List (Int×Int)×Int),I5 vs l s=some r->r.1.length<=s.1.length+l.length:=by
 induction l with
 |nil=>intro s r h;rw[I5]at h;injection h with h;subst h;exact Nat.le_add_right _ _
 |cons m l ih=>
  intro s r h;rw[I5]at h;split at h
  · have h1:=ih _ _ h;have h2:=Nu.AY (s.1++Wi m vs);have h3:=KF m vs;rw[List.length_append]at h2;simp only[List.length_cons]at *;omega
  · cases h
theorem Oy {l:List Mn} (h:Bd l=true):l.length<=64:=by unfold Bd at h;simp at h;omega
def QL (op:Int):Prop:=∀(v u:Value) (L M:List (Int×Int)) (K J:Int) (W:World),Nu.Bt W v L K 9000->Nu.Bt W u M J 9000->L.length<=64->M.length<=64->Calls Tryz.prog 110 #[.int .i64 op,v,u] W (Yp 2 W)
theorem Xp:QL 0:=fun v u L M K J W h1 h2 h3 h4=>PN v u L M K J W h1 h2 h3 h4
theorem Xq:QL 3:=fun v u L M K J W h1 h2 h3 h4=>PO v u L M K J W h1 h2 h3 h4
theorem PP {S:Nat->Prop} {t:GT} {kd:Int} {Al:Option Addr} {nl cl:Nat} {Ar:Option Addr} {nr cr:Nat} {op:Int} {p q:ByteArray} {A:Option Addr} {n c:Nat} (V:Option Addr) (mv dv:Nat) (vs:List ByteArray) (w0:World) (l r:List Mn) (hl:Dg S w0 Al nl l) (hr:Dg S w0 Ar nr r) (hzl:KQ l) (hzr:KQ r) (h9:nl<=64) (h8:nr<=64) (hS:Hb w0 V mv vs) (hm:mv<=9223372036854775807) (hsl:Bd l=true) (hsr:Bd r=true) (hop:QL op) :
   Calls Tryz.prog 73 #[.agg #[.int .i64 kd,.slice Al nl cl,.slice Ar nr cr,.int .i64 op,.string p,.string q,.slice A n c],.slice V mv dv] w0 (XK 2 ((I5 vs l ([],0)).isSome&&(I5 vs r ([],0)).isSome) w0):=by
 obtain ⟨x1,xf,hb,-⟩:=Az 33 61 w0 #[.int .i64 kd,.slice Al nl cl,.slice Ar nr cr,.int .i64 op,.string p,.string q,.slice A n c] #[.int .i64 0,.slice none 0 0,.bool false,.slice none 0 0,.bool false,.slice none 0 0];have HB:=Aa hb;have X1:=Aa x1;have XF:=Aa xf;have HTL:=Aa (fun W (hW:Below w0.heap.size w0 W)=>KG S Al nl cl l V mv dv vs W (hl.keep (AC.of_below hW)) (by omega) hzl (hS.below hW) hm)
 have HTR:=Aa (fun W (hW:Below w0.heap.size w0 W)=>KG S Ar nr cr r V mv dv vs W (hr.keep (AC.of_below hW)) (by omega) hzr (hS.below hW) hm);have HLL:=Aa (show ((I5 vs l ([],0)).getD ([],0)).1.length<=64 from by
   cases h:I5 vs l ([],0) with
   |none=>exact Nat.zero_le _
   |some q=>have h1:=QK vs l _ _ h;have h2:=Oy hsl;simpa using Nat.le_trans h1 (by simpa using h2))
 have HLR:=Aa (show ((I5 vs r ([],0)).getD ([],0)).1.length<=64 from by
   cases h:I5 vs r ([],0) with
   |none=>exact Nat.zero_le _
   |some q=>have h1:=QK vs r _ _ h;have h2:=Oy hsr;simpa using Nat.le_trans h1 (by simpa using h2))
 rw[hsl]at HTL;rw[hsr]at HTR;simp only[if_true]at HTL HTR;have HOP:=Aa hop;have g0:=x1.cell 0 _ rfl;have g1:=x1.cell 1 _ rfl;have g2:=x1.cell 2 _ rfl;have g3:=x1.cell 3 _ rfl;have g4:=x1.cell 4 _ rfl;have g5:=x1.cell 5 _ rfl;have g6:=x1.cell 6 _ rfl;generalize I5 vs l ([],0)=tl at *;generalize I5 vs r ([],0)=tr at *;clear hl hr hzl hzr hS hm hsl hsr hop x1 xf hb;go_enter Tryz.func73,Tryz.ntmps73;go_wp2_with fail;refine (HTL.out _ HB.out).mono ?_;rintro e w2 ⟨v2,rfl,r2,b2⟩
 obtain ⟨A2,n2,c2,s2,B2,m2,d2,rfl⟩:=r2.form;have HB2:=Aa (HB.out.next b2);have X2:=Aa (X1.out.next b2);have XF2:=Aa (XF.out.next b2);have R2:=Aa r2;have z6:Ap 56 (w2.alloc (.cells #[.slice none 0 0,.bool false,.slice none 0 0] 56)) w2.heap.size #[.slice none 0 0,.bool false,.slice none 0 0]:=Ap.new _ _ _;have hs2:=World.size_alloc w2 (.cells #[.slice none 0 0,.bool false,.slice none 0 0] 56);have hs0:=XF2.out.lt
 have HK2:=Aa (fun W (ho:Ak w2.heap.size (w2.alloc (.cells #[.slice none 0 0,.bool false,.slice none 0 0] 56)) W)=>(R2.out.below (Ae w2 _)).only z6 ho);clear b2 r2 g0 g1 g2 g3 g4 g5 g6
 go_wp2_with (with_reducible refine Ac rfl 56 _ _ rfl w2.heap.size #[.slice A2 n2 c2,.bool s2,.slice B2 m2 d2] rfl rfl _ z6 (by kernel_rfl) rfl (by simp[Value.oneCell']) ?_;intro w3 k3 o3;have HB3:=Aa (show Below w2.heap.size w2 w3 from (Ae w2 _).trans (o3.below (Ae w2 _).size (Nat.le_refl _)));have R3:=Aa (HK2.out w3 o3);have K3:=Aa k3;have X3:=Aa (X2.out.next HB3.out);have c2r:=X3.out.cell 2 _ rfl;clear o3 k3);refine (HTR.out _ (HB2.out.next HB3.out)).mono ?_
 rintro e w4 ⟨v4,rfl,r4,b4⟩;obtain ⟨A4,n4,c4,s4,B4,m4,d4,rfl⟩:=r4.form;have HB4:=Aa ((HB2.out.next HB3.out).next b4);have X4:=Aa (X3.out.next b4);have XF4:=Aa ((XF2.out.next HB3.out).next b4);have K4:=Aa (K3.out.next b4);have R4:=Aa (R3.out.below b4);have Q4:=Aa r4;have z8:Ap 56 (w4.alloc (.cells #[.slice none 0 0,.bool false,.slice none 0 0] 56)) w4.heap.size #[.slice none 0 0,.bool false,.slice none 0 0]:=Ap.new _ _ _
 have hs4:=World.size_alloc w4 (.cells #[.slice none 0 0,.bool false,.slice none 0 0] 56);have hs3:=XF4.out.lt;have HK4:=Aa (fun W (ho:Ak w4.heap.size (w4.alloc (.cells #[.slice none 0 0,.bool false,.slice none 0 0] 56)) W)=>(R4.out.below (Ae w4 _)).only z8 ho);have HQ4:=Aa (fun W (ho:Ak w4.heap.size (w4.alloc (.cells #[.slice none 0 0,.bool false,.slice none 0 0] 56)) W)=>(Q4.out.below (Ae w4 _)).only z8 ho);clear b4 r4 c2r;generalize hbl:tl.isSome=bl at *
 generalize hbr:tr.isSome=br at *;have HLT:=Aa (fun W (h1:Nu.Bm W (.agg #[.slice A2 n2 c2,.bool s2,.slice B2 m2 d2]) (tl.getD ([],0)).1 (tl.getD ([],0)).2 9000) (h2:Nu.Bm W (.agg #[.slice A4 n4 c4,.bool s4,.slice B4 m4 d4]) (tr.getD ([],0)).1 (tr.getD ([],0)).2 9000)=>HOP.out _ _ _ _ _ _ W h1.in_ h2.in_ HLL.out HLR.out);clear hbl hbr;cases bl
 · go_wp2_with (with_reducible refine Ac rfl 56 _ _ rfl w4.heap.size #[.slice A4 n4 c4,.bool s4,.slice B4 m4 d4] rfl rfl _ z8 (by kernel_rfl) rfl (by simp[Value.oneCell']) ?_;intro w5 k5 o5;have HB5:=Aa (show Below w4.heap.size w4 w5 from (Ae w4 _).trans (o5.below (Ae w4 _).size (Nat.le_refl _)));have R5:=Aa (HK4.out w5 o5);have Q5:=Aa (HQ4.out w5 o5);have X5:=Aa (X4.out.next HB5.out);have K5:=Aa (K4.out.next HB5.out);have XF5:=Aa (XF4.out.next HB5.out);have c3r:=X5.out.cell 3 _ rfl;have a0:=K5.out.cell 0 _ rfl;have a1:=K5.out.cell 1 _ rfl;have a2:=K5.out.cell 2 _ rfl;have b0:=k5.cell 0 _ rfl;have b1:=k5.cell 1 _ rfl;have b2:=k5.cell 2 _ rfl;clear o5)
   refine (HLT.out _ R5.out Q5.out).mono ?_;rintro e w6 ⟨fA9,fn9,fc9,fs9,fB9,fm9,fd9,ff9,fC9,fp9,fq9,rfl,b6⟩;have xf6:=XF5.out.next b6;have HB6:=Aa ((HB4.out.next HB5.out).next b6);clear b6 a0 a1 a2 b0 b1 b2 c3r;go_wp2_with (with_reducible refine Ac rfl 61 _ _ rfl (w0.heap.size+1) #[.int .i64 2,.slice fA9 fn9 fc9,.bool fs9,.slice fB9 fm9 fd9,.bool ff9,.slice fC9 fp9 fq9] rfl rfl _ xf6 (by kernel_rfl) rfl (by simp[Value.oneCell']) ?_;intro w9 k9 o9)
   refine BI rfl rfl rfl k9 rfl ?_;exact ⟨_,_,_,_,_,_,_,_,_,_,_,rfl,HB6.out.trans (o9.below HB6.out.size (by omega))⟩
 · go_wp2_with (with_reducible refine Ac rfl 56 _ _ rfl w4.heap.size #[.slice A4 n4 c4,.bool s4,.slice B4 m4 d4] rfl rfl _ z8 (by kernel_rfl) rfl (by simp[Value.oneCell']) ?_;intro w5 k5 o5;have HB5:=Aa (show Below w4.heap.size w4 w5 from (Ae w4 _).trans (o5.below (Ae w4 _).size (Nat.le_refl _)));have R5:=Aa (HK4.out w5 o5);have Q5:=Aa (HQ4.out w5 o5);have X5:=Aa (X4.out.next HB5.out);have K5:=Aa (K4.out.next HB5.out);have XF5:=Aa (XF4.out.next HB5.out);have c3r:=X5.out.cell 3 _ rfl;have a0:=K5.out.cell 0 _ rfl;have a1:=K5.out.cell 1 _ rfl;have a2:=K5.out.cell 2 _ rfl;have b0:=k5.cell 0 _ rfl;have b1:=k5.cell 1 _ rfl;have b2:=k5.cell 2 _ rfl;clear o5)
   refine (HLT.out _ R5.out Q5.out).mono ?_;rintro e w6 ⟨fA9,fn9,fc9,fs9,fB9,fm9,fd9,ff9,fC9,fp9,fq9,rfl,b6⟩;have xf6:=XF5.out.next b6;have HB6:=Aa ((HB4.out.next HB5.out).next b6);clear b6 a0 a1 a2 b0 b1 b2 c3r;go_wp2_with (with_reducible refine Ac rfl 61 _ _ rfl (w0.heap.size+1) #[.int .i64 2,.slice fA9 fn9 fc9,.bool fs9,.slice fB9 fm9 fd9,.bool ff9,.slice fC9 fp9 fq9] rfl rfl _ xf6 (by kernel_rfl) rfl (by simp[Value.oneCell']) ?_;intro w9 k9 o9)
   refine BI rfl rfl rfl k9 rfl ?_;exact ⟨_,_,_,_,_,_,_,_,_,_,_,rfl,HB6.out.trans (o9.below HB6.out.size (by omega))⟩
end
section
open Go.RowKit
open Lx Ex
theorem Uu {T:TypeId} {w:World} {g:Nat} {a b c d e f:Value} (h:Ap T w g #[a,b,c,d,e,f]) (x:Value):Ap T (w.setCell ⟨g,5,none⟩ x) g #[a,b,c,d,e,x]:=by unfold Ap at h ⊢;simp[World.setCell,Array.getElem?_modify,h]
theorem Sq:(Tryz.prog.info? 61).map (fun i=>(i.zero,i.size,i.bytes))=some (some (.agg #[.int .i64 0,.slice none 0 0,.bool false,.slice none 0 0,.bool false,.slice none 0 0]),6,96):=by kernel_rfl
theorem Z6 {a d:Int} {A B C:Option Addr} {n c m k p q:Nat} {s f:Bool}:CO [.int .i64 a,.slice A n c,.bool s,.slice B m k,.bool f,.slice C p q]:=by
 intro u hu;simp only[List.mem_cons,List.not_mem_nil,or_false]at hu;rcases hu with rfl|rfl|rfl|rfl|rfl|rfl
 · exact NL.i64 _
 · exact NL.slice _ _ _
 · exact NL.bool _
 · exact NL.slice _ _ _
 · exact NL.bool _
 · exact NL.slice _ _ _
theorem Hx {w:World} {ops:Array Oper} {rest:List Oper} {o:Oper} {a:Act} {Q:Exit->Act->World->Prop} (hgd:o.guard=none) (s x:Operand)
  (ho:o.op=.call { callee:=.builtin .append,args:=#[s,x],argTypes:=#[59,59] }) (base:Nat) (v:Value) (k:Nat) (xs:List Value) (hs:a.eval s=v) (hown:An 61 6 w base v k xs)
  (b:Nat) (kq:Int) (A B C:Option Addr) (n c m d p q:Nat) (s1 f1:Bool) (hx:a.eval x=.slice (some ⟨b,0,none⟩) 1 1) (hb:w.heap[b]?=some (.cells #[.int .i64 kq,.slice A n c,.bool s1,.slice B m d,.bool f1,.slice C p q] 61 (0,0))) (hn:k+1<=109951162777) (hbase:base<=w.heap.size)
  (h:∀v' w' ys,An 61 6 w' base v' (k+1) ys->w.grownBy w' v.ownBlock->wpList Tryz.prog ops Q rest (a.put o.dst v') w'):wpList Tryz.prog ops Q (o::rest) a w:=by
 obtain ⟨i0,hi0,hz0,hz1,hz2⟩:=info_parts Sq;refine Bf hgd s x 59 ho base 61 i0 _ 6 96 Tryz.underlying59 hi0 hz0 hz1 hz2 rfl (by decide) (Z6 (d:=0)) v k xs hs hown ⟨b,0,none⟩ 1 1 [.int .i64 kq,.slice A n c,.bool s1,.slice B m d,.bool f1,.slice C p q] hx rfl
  (fun j u hu=>by rw[addr_add,Nat.zero_add,cell_of_row w b j _ _ _ hb];simpa using hu) (fun u hu=>by
   simp only[List.mem_cons,List.not_mem_nil,or_false]at hu;rcases hu with rfl|rfl|rfl|rfl|rfl|rfl<;>rfl) (Z6 (d:=0)) (by unfold maxLen;omega) (by omega) hbase ?_
 intro v' w' h1 h2;exact h v' w' _ h1 h2
theorem IZ (kk:Int) (A:Option Addr) (n c:Nat) (V:Option Addr) (mv dv:Nat) (vs:List ByteArray) (w0:World) (hn:n<=1000) (hc:n<=c) (hc9:c<=9223372036854775807)
  (hk:∀j,j<n->∃(ba oa:Nat) (k2:Int) (Al2:Option Addr) (C7 cl2:Nat) (Ar2:Option Addr) (nr2 cr2:Nat) (op2:Int) (p2 q2:ByteArray) (A2:Option Addr) (n2 c2:Nat) (kq:Int),A=some ⟨ba,oa,none⟩/\ba<w0.heap.size/\w0.cell? ⟨ba,oa+j*7,none⟩=some (.int .i64 k2)/\w0.cell? ⟨ba,oa+j*7+1,none⟩=some (.slice Al2 C7 cl2)/\w0.cell? ⟨ba,oa+j*7+2,none⟩=some (.slice Ar2 nr2 cr2)/\w0.cell? ⟨ba,oa+j*7+3,none⟩=some (.int .i64 op2)/\w0.cell? ⟨ba,oa+j*7+4,none⟩=some (.string p2)/\w0.cell? ⟨ba,oa+j*7+5,none⟩=some (.string q2)/\w0.cell? ⟨ba,oa+j*7+6,none⟩=some (.slice A2 n2 c2)/\∀W,Below w0.heap.size w0 W->Calls Tryz.prog 44 #[.agg #[.int .i64 k2,.slice Al2 C7 cl2,.slice Ar2 nr2 cr2,.int .i64 op2,.string p2,.string q2,.slice A2 n2 c2],.slice V mv dv] W (XK kq true W)) :
  Calls Tryz.prog 74 #[.int .i64 kk,.slice A n c,.slice V mv dv] w0 (XK kk true w0):=by
 obtain ⟨x6,x8,hb,hsz⟩:=Az 61 61 w0 #[.int .i64 0,.slice none 0 0,.bool false,.slice none 0 0,.bool false,.slice none 0 0] #[.int .i64 kk,.slice none 0 0,.bool false,.slice none 0 0,.bool false,.slice none 0 0];have HB1:=Aa hb;have Y6:=Aa x6;have Y8:=Aa x8;have HK:=Aa hk;clear hk x6 x8 hb;go_enter Tryz.func74,Tryz.ntmps74;go_wp2_with fail
 generalize hW1:(w0.alloc (.cells #[.int .i64 0,.slice none 0 0,.bool false,.slice none 0 0,.bool false,.slice none 0 0] 61)).alloc (.cells #[.int .i64 kk,.slice none 0 0,.bool false,.slice none 0 0,.bool false,.slice none 0 0] 61)=W1 at *;clear hW1
 go_loopw [17] (fun i wr=>∃x:Nat,x<=n/\i=.int .i64 x/\Hid (∃v ys,Ap 61 wr (w0.heap.size+1) #[.int .i64 kk,.slice none 0 0,.bool false,.slice none 0 0,.bool false,v]/\An 61 6 wr (w0.heap.size+2) v x ys)/\Hid (Ap 61 wr w0.heap.size #[.int .i64 0,.slice none 0 0,.bool false,.slice none 0 0,.bool false,.slice none 0 0])/\Hid (Below w0.heap.size w0 wr)/\w0.heap.size+2<=wr.heap.size) (fun i _=>n-(intOf i).toNat)
 case atStart=>exact ⟨0,Nat.zero_le _,rfl,Aa ⟨_,[],Y8.out,An.nil _ _ _ _⟩,Y6,HB1,by omega⟩
 case round=>
  obtain ⟨x,hx,rfl,HER,XR6,HR,hwr⟩:=hrel;obtain ⟨v,ys,xr8,lr⟩:=HER.out;obtain ⟨vA,vc,rfl,hv1,hv2,-⟩:=lr.len;by_cases hxn:x<n
  · obtain ⟨ba,oa,k2,Al2,C7,cl2,Ar2,nr2,cr2,op2,p2,q2,A2,n2,c2,kq,rfl,hba,e0,e1,e2,e3,e4,e5,e6,hrec⟩:=HK.out x hxn;have e0:=(Ag HR.out hba).trans e0;have e1:=(Ag HR.out hba).trans e1;have e2:=(Ag HR.out hba).trans e2;have e3:=(Ag HR.out hba).trans e3;have e4:=(Ag HR.out hba).trans e4;have e5:=(Ag HR.out hba).trans e5;have e6:=(Ag HR.out hba).trans e6;have hba2:ba<wr.heap.size:=Nat.lt_of_lt_of_le hba HR.out.size;have HREC:=Aa hrec;have X8r:=Aa xr8;have LR:=Aa lr
    have z10:Ap 33 (wr.alloc (.cells #[.int .i64 0,.slice none 0 0,.slice none 0 0,.int .i64 0,.string ⟨#[]⟩,.string ⟨#[]⟩,.slice none 0 0] 33)) wr.heap.size #[.int .i64 0,.slice none 0 0,.slice none 0 0,.int .i64 0,.string ⟨#[]⟩,.string ⟨#[]⟩,.slice none 0 0]:=Ap.new _ _ _;have g17:(x:Int)<(n:Int):=(by omega);clear hrec xr8 lr HER
    go_wp2_with (with_reducible refine Ac rfl 33 _ _ rfl wr.heap.size #[.int .i64 k2,.slice Al2 C7 cl2,.slice Ar2 nr2 cr2,.int .i64 op2,.string p2,.string q2,.slice A2 n2 c2] rfl rfl _ z10 (by kernel_rfl) rfl (by simp[Value.oneCell']) ?_;intro w2 k2x o2;have HB2:=Aa (show Below wr.heap.size wr w2 from (Ae wr _).trans (o2.below (Ae wr _).size (Nat.le_refl _)));have y0:=k2x.cell 0 _ rfl;  have y1:=k2x.cell 1 _ rfl;  have y2:=k2x.cell 2 _ rfl;  have y3:=k2x.cell 3 _ rfl;  have y4:=k2x.cell 4 _ rfl;  have y5:=k2x.cell 5 _ rfl;  have y6:=k2x.cell 6 _ rfl;clear o2 k2x e0 e1 e2 e3 e4 e5 e6 z10)
    refine (HREC.out _ (HR.out.next HB2.out)).mono ?_;rintro e w4 ⟨fA9,fn9,fc9,fs9,fB9,fm9,fd9,ff9,fC9,fp9,fq9,rfl,b4⟩;have HB4:=Aa (show Below wr.heap.size wr w4 from HB2.out.trans (b4.mono HB2.out.size));have z11:Ap 61 (w4.alloc (.cells #[.int .i64 0,.slice none 0 0,.bool false,.slice none 0 0,.bool false,.slice none 0 0] 61)) w4.heap.size #[.int .i64 0,.slice none 0 0,.bool false,.slice none 0 0,.bool false,.slice none 0 0]:=Ap.new _ _ _
    have hs4:wr.heap.size<=w4.heap.size:=HB4.out.size;clear b4 y0 y1 y2 y3 y4 y5 y6 HREC HB2;go_wp2_with (first
     |(with_reducible refine Ac rfl 61 _ _ rfl w4.heap.size #[.int .i64 kq,.slice fA9 fn9 fc9,.bool fs9,.slice fB9 fm9 fd9,.bool ff9,.slice fC9 fp9 fq9] rfl rfl _ z11 (by kernel_rfl) rfl (by simp[Value.oneCell']) ?_;intro w5 k5 o5;have HB5:=Aa (show Below wr.heap.size wr w5 from HB4.out.trans (((Ae w4 _).trans (o5.below (Ae w4 _).size (Nat.le_refl _))).mono HB4.out.size));have hs5:=HB5.out.size;have X85:=Aa (X8r.out.next HB5.out);have f0:=k5.cell 0 _ rfl;  have f1:=k5.cell 1 _ rfl;  have f2:=k5.cell 2 _ rfl;  have f3:=k5.cell 3 _ rfl;  have f4:=k5.cell 4 _ rfl;  have f5:=k5.cell 5 _ rfl;have f8:=X85.out.cell 5 _ rfl;have hb7:=Ae w5 (.cells #[.int .i64 kq,.slice fA9 fn9 fc9,.bool fs9,.slice fB9 fm9 fd9,.bool ff9,.slice fC9 fp9 fq9] 61);have HN7:=Aa (heap_alloc_new w5 (.cells #[.int .i64 kq,.slice fA9 fn9 fc9,.bool fs9,.slice fB9 fm9 fd9,.bool ff9,.slice fC9 fp9 fq9] 61));have L7:=Aa ((LR.out.below HB5.out).below hb7);clear o5 k5)
     |(at_builtin;refine Hx rfl _ _ rfl (w0.heap.size+2) _ x ys rfl L7.out w5.heap.size kq fA9 fB9 fC9 fn9 fc9 fm9 fd9 fp9 fq9 fs9 ff9 rfl HN7.out (by omega) (by simp only[World.size_alloc];omega) ?_;intro v3 w7 zs l7 g7;obtain ⟨vB,vd,hv3,hw1,hw2,-⟩:=l7.len;subst hv3;have HG7:=Aa g7;have LN7:=Aa l7;have X87:=Aa ((X85.out.next hb7).grown g7 (fun e=>by have:=(L7.out.lt _ e.symm).1;omega));have x6q:=((XR6.out.next HB5.out).next hb7).grown g7 (fun e=>by have:=(L7.out.lt _ e.symm).1;omega);have X67:=Aa x6q;have HBL:=Aa (L7.out.old ((HR.out.next HB5.out).next hb7) g7 (show w0.heap.size<=w0.heap.size+2 from by omega) (Nat.le_refl _));have hs7:=g7.size;have q8:=X87.out.cell 5 _ rfl;have q9:=X87.out.fr 5;clear l7 g7 x6q f0 f1 f2 f3 f4 f5 f8 hb7))
    have o8:=Dz w7 (w0.heap.size+1) 5 (.slice vB (x+1) vd);have hlt7:=X87.out.lt;go_roundw
    case rel=>exact ⟨x+1,by omega,by go_num,Aa ⟨_,zs,Uu X87.out _,LN7.out.other o8 (Or.inl (by omega))⟩,Aa (X67.out.other o8 (by omega)),Aa (HBL.out.trans (o8.below HBL.out.size (by omega))),by have:=o8.size;have:=HBL.out.size;have:=X87.out.lt;omega⟩
    case measure=>simp[intOf];omega
  · obtain rfl:x=n:=(by omega);have X8r:=Aa xr8;have x6r:=XR6.out;have f0:=xr8.cell 0 _ rfl;have f1:=xr8.cell 1 _ rfl;have f2:=xr8.cell 2 _ rfl;have f3:=xr8.cell 3 _ rfl;have f4:=xr8.cell 4 _ rfl;have f5:=xr8.cell 5 _ rfl;clear xr8 lr HER;go_wp2_with (with_reducible refine Ac rfl 61 _ _ rfl w0.heap.size #[.int .i64 kk,.slice none 0 0,.bool false,.slice none 0 0,.bool false,.slice vA x vc] rfl rfl _ x6r (by kernel_rfl) rfl (by simp[Value.oneCell']) ?_;intro w9 k9 o9)
    refine BI rfl rfl rfl k9 rfl ?_;exact ⟨_,_,_,_,_,_,_,_,_,_,_,rfl,HR.out.trans (o9.below HR.out.size (Nat.le_refl _))⟩
end
section
open Go.RowKit
open Lx Ex
def Oz:Tr->Int
 |.leaf true=>0
 |.leaf false=>1
 |.cmp _ _ _=>2
 |.deny _=>3
 |.both _ _=>4
 |.any _ _=>5
def VG (vs:List ByteArray):Tr->Prop
 |.leaf _=>True
 |.cmp l o r=>Bd l=true/\Bd r=true/\KQ l/\KQ r/\(I5 vs l ([],0)).isSome=true/\(I5 vs r ([],0)).isSome=true/\(o=0\/o=3)
 |.deny t=>VG vs t
 |.both a b=>VG vs a/\VG vs b
 |.any a b=>VG vs a/\VG vs b
def DN (V:Option Addr) (mv dv:Nat) (vs:List ByteArray) (u:Tr):Prop:=∀(S:Nat->Prop) (cs:List Value) (w:World),Bt S w (gt u) cs->Hb w V mv vs->mv<=9223372036854775807->Calls Tryz.prog 44 #[.agg cs.toArray,.slice V mv dv] w (XK (Oz u) true w)
theorem Na {S:Nat->Prop} {kd:Int} {us:List Tr} {Al:Option Addr} {nl cl:Nat} {Ar:Option Addr} {nr cr:Nat} {op:Int} {p q:ByteArray} {A:Option Addr} {n c:Nat} {V:Option Addr} {mv dv:Nat} {vs:List ByteArray} {w0 W1:World} (h:Bt S w0 (.mk kd [] [] 0 ⟨#[]⟩ ⟨#[]⟩ (us.map gt)) [.int .i64 kd,.slice Al nl cl,.slice Ar nr cr,.int .i64 op,.string p,.string q,.slice A n c]) (hS:Hb w0 V mv vs) (hm:mv<=9223372036854775807) (hb:Below w0.heap.size w0 W1) (hf:∀u∈us,DN V mv dv vs u) :
  us.length=n/\n<=c/\c<=9223372036854775807/\∀j,j<n->∃(ba oa:Nat) (k2:Int) (Al2:Option Addr) (C7 cl2:Nat) (Ar2:Option Addr) (nr2 cr2:Nat) (op2:Int) (p2 q2:ByteArray) (A2:Option Addr) (n2 c2:Nat) (kq:Int),A=some ⟨ba,oa,none⟩/\ba<W1.heap.size/\W1.cell? ⟨ba,oa+j*7,none⟩=some (.int .i64 k2)/\W1.cell? ⟨ba,oa+j*7+1,none⟩=some (.slice Al2 C7 cl2)/\W1.cell? ⟨ba,oa+j*7+2,none⟩=some (.slice Ar2 nr2 cr2)/\W1.cell? ⟨ba,oa+j*7+3,none⟩=some (.int .i64 op2)/\W1.cell? ⟨ba,oa+j*7+4,none⟩=some (.string p2)/\W1.cell? ⟨ba,oa+j*7+5,none⟩=some (.string q2)/\W1.cell? ⟨ba,oa+j*7+6,none⟩=some (.slice A2 n2 c2)/\∀W,Below W1.heap.size W1 W->Calls Tryz.prog 44 #[.agg #[.int .i64 k2,.slice Al2 C7 cl2,.slice Ar2 nr2 cr2,.int .i64 op2,.string p2,.string q2,.slice A2 n2 c2],.slice V mv dv] W (XK kq true W):=by
 obtain ⟨l',r',ks,e,hl,hr,hk,hl1,hl2,hr1,hr2,hn1,hn2,hkid⟩:=h.parts;injection e with e1 e2 e3 e4 e5 e6 e7
 subst e7;rw[List.length_map]at hk;refine ⟨hk,hn1,hn2,fun j hj=>?_⟩;obtain ⟨ba,oa,u,k2,Al2,C7,cl2,Ar2,nr2,cr2,op2,p2,q2,A2,n2,c2,hA,-,hlt,hu,hti,e0,e1,e2,e3,e4,e5,e6⟩:=hkid j hj;rw[List.getElem?_map]at hu;cases hx:us[j]? with
 |none=>rw[hx]at hu;cases hu
 |some u'=>
  rw[hx]at hu;injection hu with hu
  subst hu;exact ⟨ba,oa,k2,Al2,C7,cl2,Ar2,nr2,cr2,op2,p2,q2,A2,n2,c2,Oz u',hA,Nat.lt_of_lt_of_le hlt hb.size,(Ag hb hlt).trans e0,(Ag hb hlt).trans e1,(Ag hb hlt).trans e2,(Ag hb hlt).trans e3,(Ag hb hlt).trans e4,(Ag hb hlt).trans e5,(Ag hb hlt).trans e6,fun W hW=>hf u' (List.mem_of_getElem? hx) S _ W (hti.keep (AC.of_below (hb.next hW))) (hS.below (hb.next hW)) hm⟩
theorem Sr {V:Option Addr} {mv dv:Nat} {vs:List ByteArray}:DN V mv dv vs (.leaf true):=by
 intro S cs w0 h hS hm;obtain ⟨kd,Al,nl,cl,Ar,nr,cr,op,p,q,A,n,c,rfl⟩:=h.shape;obtain ⟨l',r',ks,e,hl,hr,hk,hl1,hl2,hr1,hr2,hn1,hn2,hkid⟩:=h.parts;have e:GT.mk 0 [] [] 0 ⟨#[]⟩ ⟨#[]⟩ []=GT.mk kd l' r' op p q ks:=e;injection e with e1 e2 e3 e4 e5 e6 e7
 subst e1 e2 e3 e4 e5 e6 e7;clear hkid;obtain ⟨x1,xf,hb,hsz⟩:=Az 33 61 w0 #[.int .i64 0,.slice Al nl cl,.slice Ar nr cr,.int .i64 0,.string ⟨#[]⟩,.string ⟨#[]⟩,.slice A n c] #[.int .i64 0,.slice none 0 0,.bool false,.slice none 0 0,.bool false,.slice none 0 0];have HB:=Aa hb;have XF:=Aa xf;have g0:=x1.cell 0 _ rfl;have g1:=x1.cell 1 _ rfl;have g2:=x1.cell 2 _ rfl;have g3:=x1.cell 3 _ rfl;have g4:=x1.cell 4 _ rfl;have g5:=x1.cell 5 _ rfl;have g6:=x1.cell 6 _ rfl
 have HT:=Aa (fun W=>Ox true W);clear hl hr hk h hS x1 xf hb;go_enter Tryz.func44,Tryz.ntmps44;go_wp2_with fail;refine (HT.out _).mono ?_;rintro e w4 ⟨fA9,fn9,fc9,fs9,fB9,fm9,fd9,ff9,fC9,fp9,fq9,rfl,b4⟩;have xf4:=XF.out.next b4;have HB4:=Aa (HB.out.next b4);clear b4 g0 g1 g2 g3 g4 g5 g6
 go_wp2_with (with_reducible refine Ac rfl 61 _ _ rfl (w0.heap.size+1) #[.int .i64 0,.slice fA9 fn9 fc9,.bool fs9,.slice fB9 fm9 fd9,.bool ff9,.slice fC9 fp9 fq9] rfl rfl _ xf4 (by kernel_rfl) rfl (by simp[Value.oneCell']) ?_;intro w9 k9 o9);refine BI rfl rfl rfl k9 rfl ?_;exact ⟨_,_,_,_,_,_,_,_,_,_,_,rfl,HB4.out.trans (o9.below HB4.out.size (by omega))⟩
theorem form_false {V:Option Addr} {mv dv:Nat} {vs:List ByteArray}:DN V mv dv vs (.leaf false):=by
 intro S cs w0 h hS hm;obtain ⟨kd,Al,nl,cl,Ar,nr,cr,op,p,q,A,n,c,rfl⟩:=h.shape;obtain ⟨l',r',ks,e,hl,hr,hk,hl1,hl2,hr1,hr2,hn1,hn2,hkid⟩:=h.parts;have e:GT.mk 1 [] [] 0 ⟨#[]⟩ ⟨#[]⟩ []=GT.mk kd l' r' op p q ks:=e;injection e with e1 e2 e3 e4 e5 e6 e7
 subst e1 e2 e3 e4 e5 e6 e7;clear hkid;obtain ⟨x1,xf,hb,hsz⟩:=Az 33 61 w0 #[.int .i64 1,.slice Al nl cl,.slice Ar nr cr,.int .i64 0,.string ⟨#[]⟩,.string ⟨#[]⟩,.slice A n c] #[.int .i64 0,.slice none 0 0,.bool false,.slice none 0 0,.bool false,.slice none 0 0];have HB:=Aa hb;have XF:=Aa xf;have g0:=x1.cell 0 _ rfl;have g1:=x1.cell 1 _ rfl;have g2:=x1.cell 2 _ rfl;have g3:=x1.cell 3 _ rfl;have g4:=x1.cell 4 _ rfl;have g5:=x1.cell 5 _ rfl;have g6:=x1.cell 6 _ rfl
 have HT:=Aa (fun W=>Ox false W);clear hl hr hk h hS x1 xf hb;go_enter Tryz.func44,Tryz.ntmps44;go_wp2_with fail;refine (HT.out _).mono ?_;rintro e w4 ⟨fA9,fn9,fc9,fs9,fB9,fm9,fd9,ff9,fC9,fp9,fq9,rfl,b4⟩;have xf4:=XF.out.next b4;have HB4:=Aa (HB.out.next b4);clear b4 g0 g1 g2 g3 g4 g5 g6
 go_wp2_with (with_reducible refine Ac rfl 61 _ _ rfl (w0.heap.size+1) #[.int .i64 1,.slice fA9 fn9 fc9,.bool fs9,.slice fB9 fm9 fd9,.bool ff9,.slice fC9 fp9 fq9] rfl rfl _ xf4 (by kernel_rfl) rfl (by simp[Value.oneCell']) ?_;intro w9 k9 o9);refine BI rfl rfl rfl k9 rfl ?_;exact ⟨_,_,_,_,_,_,_,_,_,_,_,rfl,HB4.out.trans (o9.below HB4.out.size (by omega))⟩
theorem Uv {V:Option Addr} {mv dv:Nat} {vs:List ByteArray} (l r:List Mn) (o:Nat) (hf:VG vs (.cmp l o r)):DN V mv dv vs (.cmp l o r):=by
 intro S cs w0 h hS hm;obtain ⟨kd,Al,nl,cl,Ar,nr,cr,op,p,q,A,n,c,rfl⟩:=h.shape;obtain ⟨l',r',ks,e,hl,hr,hk,hl1,hl2,hr1,hr2,hn1,hn2,hkid⟩:=h.parts;have e:GT.mk 2 l r (o:Int) ⟨#[]⟩ ⟨#[]⟩ []=GT.mk kd l' r' op p q ks:=e;injection e with e1 e2 e3 e4 e5 e6 e7
 subst e1 e2 e3 e4 e5 e6 e7;clear hkid;obtain ⟨f1,f2,f3,f4,f5,f6,f7⟩:=hf;have hop:QL (o:Int):=by
  rcases f7 with rfl|rfl
  · exact Xp
  · exact Xq
 have h64:=Oy f1;have h65:=Oy f2;rw[hl.1]at h64;rw[hr.1]at h65;obtain ⟨x1,xf,hb,hsz⟩:=Az 33 61 w0 #[.int .i64 2,.slice Al nl cl,.slice Ar nr cr,.int .i64 (o:Int),.string ⟨#[]⟩,.string ⟨#[]⟩,.slice A n c] #[.int .i64 0,.slice none 0 0,.bool false,.slice none 0 0,.bool false,.slice none 0 0];have HB:=Aa hb;have XF:=Aa xf;have g0:=x1.cell 0 _ rfl;have g1:=x1.cell 1 _ rfl;have g2:=x1.cell 2 _ rfl;have g3:=x1.cell 3 _ rfl;have g4:=x1.cell 4 _ rfl;have g5:=x1.cell 5 _ rfl
 have g6:=x1.cell 6 _ rfl;have HC:=Aa (PP (t:=gt (.cmp l o r)) (S:=S) (kd:=2) (op:=(o:Int)) (p:=⟨#[]⟩) (q:=⟨#[]⟩) (A:=A) (n:=n) (c:=c) (cl:=cl) (cr:=cr) V mv dv vs _ l r (hl.keep (AC.of_below hb)) (hr.keep (AC.of_below hb)) f3 f4 h64 h65 (hS.below hb) hm f1 f2 hop);rw[f5,f6]at HC;clear hl hr hk h hS x1 xf hb f1 f2 f3 f4 f5 f6 f7 hop;go_enter Tryz.func44,Tryz.ntmps44;go_wp2_with fail;refine HC.out.mono ?_;rintro e w4 ⟨fA9,fn9,fc9,fs9,fB9,fm9,fd9,ff9,fC9,fp9,fq9,rfl,b4⟩
 have xf4:=XF.out.next b4;have HB4:=Aa (HB.out.next b4);clear b4 g0 g1 g2 g3 g4 g5 g6;go_wp2_with (with_reducible refine Ac rfl 61 _ _ rfl (w0.heap.size+1) #[.int .i64 2,.slice fA9 fn9 fc9,.bool fs9,.slice fB9 fm9 fd9,.bool ff9,.slice fC9 fp9 fq9] rfl rfl _ xf4 (by kernel_rfl) rfl (by simp[Value.oneCell']) ?_;intro w9 k9 o9);refine BI rfl rfl rfl k9 rfl ?_;exact ⟨_,_,_,_,_,_,_,_,_,_,_,rfl,HB4.out.trans (o9.below HB4.out.size (by omega))⟩
theorem Ss {V:Option Addr} {mv dv:Nat} {vs:List ByteArray} (t:Tr) (ht:DN V mv dv vs t):DN V mv dv vs (.deny t):=by
 intro S cs w0 h hS hm;obtain ⟨kd,Al,nl,cl,Ar,nr,cr,op,p,q,A,n,c,rfl⟩:=h.shape;obtain ⟨l',r',ks,e,hl,hr,hk,hl1,hl2,hr1,hr2,hn1,hn2,hkid⟩:=h.parts;have e:GT.mk 3 [] [] 0 ⟨#[]⟩ ⟨#[]⟩ [gt t]=GT.mk kd l' r' op p q ks:=e;injection e with e1 e2 e3 e4 e5 e6 e7
 subst e1 e2 e3 e4 e5 e6 e7;clear hkid;obtain ⟨x1,xf,hb,hsz⟩:=Az 33 61 w0 #[.int .i64 3,.slice Al nl cl,.slice Ar nr cr,.int .i64 0,.string ⟨#[]⟩,.string ⟨#[]⟩,.slice A n c] #[.int .i64 0,.slice none 0 0,.bool false,.slice none 0 0,.bool false,.slice none 0 0];have HB:=Aa hb;have XF:=Aa xf;have g0:=x1.cell 0 _ rfl;have g1:=x1.cell 1 _ rfl;have g2:=x1.cell 2 _ rfl;have g3:=x1.cell 3 _ rfl;have g4:=x1.cell 4 _ rfl;have g5:=x1.cell 5 _ rfl;have g6:=x1.cell 6 _ rfl
 obtain ⟨hn9,hc1,hc2,hkk⟩:=Na (us:=[t]) (dv:=dv) h hS hm hb (by intro u hu;simp only[List.mem_cons,List.not_mem_nil,or_false]at hu;subst hu;exact ht)
 have HJ:=Aa (IZ 3 A n c V mv dv vs _ (by rw[<-hn9];simp) hc1 hc2 hkk);clear hl hr hk h hS x1 xf hb hkk hn9;go_enter Tryz.func44,Tryz.ntmps44;go_wp2_with fail;refine HJ.out.mono ?_;rintro e w4 ⟨fA9,fn9,fc9,fs9,fB9,fm9,fd9,ff9,fC9,fp9,fq9,rfl,b4⟩;have xf4:=XF.out.next b4;have HB4:=Aa (HB.out.next b4);clear b4 g0 g1 g2 g3 g4 g5 g6
 go_wp2_with (with_reducible refine Ac rfl 61 _ _ rfl (w0.heap.size+1) #[.int .i64 3,.slice fA9 fn9 fc9,.bool fs9,.slice fB9 fm9 fd9,.bool ff9,.slice fC9 fp9 fq9] rfl rfl _ xf4 (by kernel_rfl) rfl (by simp[Value.oneCell']) ?_;intro w9 k9 o9);refine BI rfl rfl rfl k9 rfl ?_;exact ⟨_,_,_,_,_,_,_,_,_,_,_,rfl,HB4.out.trans (o9.below HB4.out.size (by omega))⟩
theorem Su {V:Option Addr} {mv dv:Nat} {vs:List ByteArray} (a b:Tr) (ha:DN V mv dv vs a) (hb2:DN V mv dv vs b):DN V mv dv vs (.both a b):=by
 intro S cs w0 h hS hm;obtain ⟨kd,Al,nl,cl,Ar,nr,cr,op,p,q,A,n,c,rfl⟩:=h.shape;obtain ⟨l',r',ks,e,hl,hr,hk,hl1,hl2,hr1,hr2,hn1,hn2,hkid⟩:=h.parts;have e:GT.mk 4 [] [] 0 ⟨#[]⟩ ⟨#[]⟩ [gt a,gt b]=GT.mk kd l' r' op p q ks:=e;injection e with e1 e2 e3 e4 e5 e6 e7
 subst e1 e2 e3 e4 e5 e6 e7;clear hkid;obtain ⟨x1,xf,hb,hsz⟩:=Az 33 61 w0 #[.int .i64 4,.slice Al nl cl,.slice Ar nr cr,.int .i64 0,.string ⟨#[]⟩,.string ⟨#[]⟩,.slice A n c] #[.int .i64 0,.slice none 0 0,.bool false,.slice none 0 0,.bool false,.slice none 0 0];have HB:=Aa hb;have XF:=Aa xf;have g0:=x1.cell 0 _ rfl;have g1:=x1.cell 1 _ rfl;have g2:=x1.cell 2 _ rfl;have g3:=x1.cell 3 _ rfl;have g4:=x1.cell 4 _ rfl;have g5:=x1.cell 5 _ rfl;have g6:=x1.cell 6 _ rfl
 obtain ⟨hn9,hc1,hc2,hkk⟩:=Na (us:=[a,b]) (dv:=dv) h hS hm hb (by intro u hu;simp only[List.mem_cons,List.not_mem_nil,or_false]at hu;rcases hu with rfl|rfl<;>first|exact ha|exact hb2)
 have HJ:=Aa (IZ 4 A n c V mv dv vs _ (by rw[<-hn9];simp) hc1 hc2 hkk);clear hl hr hk h hS x1 xf hb hkk hn9;go_enter Tryz.func44,Tryz.ntmps44;go_wp2_with fail;refine HJ.out.mono ?_;rintro e w4 ⟨fA9,fn9,fc9,fs9,fB9,fm9,fd9,ff9,fC9,fp9,fq9,rfl,b4⟩;have xf4:=XF.out.next b4;have HB4:=Aa (HB.out.next b4);clear b4 g0 g1 g2 g3 g4 g5 g6
 go_wp2_with (with_reducible refine Ac rfl 61 _ _ rfl (w0.heap.size+1) #[.int .i64 4,.slice fA9 fn9 fc9,.bool fs9,.slice fB9 fm9 fd9,.bool ff9,.slice fC9 fp9 fq9] rfl rfl _ xf4 (by kernel_rfl) rfl (by simp[Value.oneCell']) ?_;intro w9 k9 o9);refine BI rfl rfl rfl k9 rfl ?_;exact ⟨_,_,_,_,_,_,_,_,_,_,_,rfl,HB4.out.trans (o9.below HB4.out.size (by omega))⟩
theorem Uw {V:Option Addr} {mv dv:Nat} {vs:List ByteArray} (a b:Tr) (ha:DN V mv dv vs a) (hb2:DN V mv dv vs b):DN V mv dv vs (.any a b):=by
 intro S cs w0 h hS hm;obtain ⟨kd,Al,nl,cl,Ar,nr,cr,op,p,q,A,n,c,rfl⟩:=h.shape;obtain ⟨l',r',ks,e,hl,hr,hk,hl1,hl2,hr1,hr2,hn1,hn2,hkid⟩:=h.parts;have e:GT.mk 5 [] [] 0 ⟨#[]⟩ ⟨#[]⟩ [gt a,gt b]=GT.mk kd l' r' op p q ks:=e;injection e with e1 e2 e3 e4 e5 e6 e7
 subst e1 e2 e3 e4 e5 e6 e7;clear hkid;obtain ⟨x1,xf,hb,hsz⟩:=Az 33 61 w0 #[.int .i64 5,.slice Al nl cl,.slice Ar nr cr,.int .i64 0,.string ⟨#[]⟩,.string ⟨#[]⟩,.slice A n c] #[.int .i64 0,.slice none 0 0,.bool false,.slice none 0 0,.bool false,.slice none 0 0];have HB:=Aa hb;have XF:=Aa xf;have g0:=x1.cell 0 _ rfl;have g1:=x1.cell 1 _ rfl;have g2:=x1.cell 2 _ rfl;have g3:=x1.cell 3 _ rfl;have g4:=x1.cell 4 _ rfl;have g5:=x1.cell 5 _ rfl;have g6:=x1.cell 6 _ rfl
 obtain ⟨hn9,hc1,hc2,hkk⟩:=Na (us:=[a,b]) (dv:=dv) h hS hm hb (by intro u hu;simp only[List.mem_cons,List.not_mem_nil,or_false]at hu;rcases hu with rfl|rfl<;>first|exact ha|exact hb2)
 have HJ:=Aa (IZ 5 A n c V mv dv vs _ (by rw[<-hn9];simp) hc1 hc2 hkk);clear hl hr hk h hS x1 xf hb hkk hn9;go_enter Tryz.func44,Tryz.ntmps44;go_wp2_with fail;refine HJ.out.mono ?_;rintro e w4 ⟨fA9,fn9,fc9,fs9,fB9,fm9,fd9,ff9,fC9,fp9,fq9,rfl,b4⟩;have xf4:=XF.out.next b4;have HB4:=Aa (HB.out.next b4);clear b4 g0 g1 g2 g3 g4 g5 g6
 go_wp2_with (with_reducible refine Ac rfl 61 _ _ rfl (w0.heap.size+1) #[.int .i64 5,.slice fA9 fn9 fc9,.bool fs9,.slice fB9 fm9 fd9,.bool ff9,.slice fC9 fp9 fq9] rfl rfl _ xf4 (by kernel_rfl) rfl (by simp[Value.oneCell']) ?_;intro w9 k9 o9);refine BI rfl rfl rfl k9 rfl ?_;exact ⟨_,_,_,_,_,_,_,_,_,_,_,rfl,HB4.out.trans (o9.below HB4.out.size (by omega))⟩
theorem VH {V:Option Addr} {mv dv:Nat} {vs:List ByteArray} (u:Tr) (hf:VG vs u):DN V mv dv vs u:=by
 induction u with
 |leaf b=>
  cases b
  · exact form_false
  · exact Sr
 |cmp l o r=>exact Uv l r o hf
 |deny t ih=>exact Ss t (ih hf)
 |both a b iha ihb=>exact Su a b (iha hf.1) (ihb hf.2)
 |any a b iha ihb=>exact Uw a b (iha hf.1) (ihb hf.2)
theorem VI {S:Nat->Prop} {u:Tr} {kd:Int} {Al:Option Addr} {nl cl:Nat} {Ar:Option Addr} {nr cr:Nat} {op:Int} {p q:ByteArray} {A:Option Addr} {n c:Nat} (V:Option Addr) (mv dv:Nat) (vs:List ByteArray) (w0:World) (h:Bt S w0 (gt u) [.int .i64 kd,.slice Al nl cl,.slice Ar nr cr,.int .i64 op,.string p,.string q,.slice A n c]) (hz:Ky (gt u)) (hr:right 60 u) (hf:VG vs u) (hS:Hb w0 V mv vs) (hm:mv<=9223372036854775807):Calls Tryz.prog 21 #[.agg #[.int .i64 kd,.slice Al nl cl,.slice Ar nr cr,.int .i64 op,.string p,.string q,.slice A n c],.slice V mv dv] w0 (XK (Oz u) true w0):=by
 obtain ⟨x1,xf,hb,hsz⟩:=Az 33 61 w0 #[.int .i64 kd,.slice Al nl cl,.slice Ar nr cr,.int .i64 op,.string p,.string q,.slice A n c] #[.int .i64 0,.slice none 0 0,.bool false,.slice none 0 0,.bool false,.slice none 0 0];have HB:=Aa hb;have X1:=Aa x1;have XF:=Aa xf;have g0:=x1.cell 0 _ rfl;have g1:=x1.cell 1 _ rfl;have g2:=x1.cell 2 _ rfl;have g3:=x1.cell 3 _ rfl;have g4:=x1.cell 4 _ rfl;have g5:=x1.cell 5 _ rfl;have g6:=x1.cell 6 _ rfl
 have HR:=Aa (DD _ (h.keep (AC.of_below hb)) hz);rw[show AH (gt u) 60=true from (Ez u 60).2 hr]at HR;have HFM:=Aa (fun W (hW:Below w0.heap.size w0 W)=>VH (V:=V) (mv:=mv) (dv:=dv) u hf S _ W (h.keep (AC.of_below hW)) (hS.below hW) hm);generalize Oz u=ku at *;clear h hz hr hf hS hm x1 xf hb;go_enter Tryz.func21,Tryz.ntmps21;go_wp2_with fail;refine HR.out.mono ?_;rintro e w2 ⟨rfl,b2⟩;have HB2:=Aa (HB.out.next b2);have X2:=Aa (X1.out.next b2);have XF2:=Aa (XF.out.next b2)
 clear b2 g0 g1 g2 g3 g4 g5 g6;have g0:=X2.out.cell 0 _ rfl;have g1:=X2.out.cell 1 _ rfl;have g2:=X2.out.cell 2 _ rfl;have g3:=X2.out.cell 3 _ rfl;have g4:=X2.out.cell 4 _ rfl;have g5:=X2.out.cell 5 _ rfl;have g6:=X2.out.cell 6 _ rfl;go_wp2_with fail;refine (HFM.out _ HB2.out).mono ?_;rintro e w4 ⟨fA9,fn9,fc9,fs9,fB9,fm9,fd9,ff9,fC9,fp9,fq9,rfl,b4⟩;have hb5:=Ae w4 (.cells #[.int .i64 ku,.slice fA9 fn9 fc9,.bool fs9,.slice fB9 fm9 fd9,.bool ff9,.slice fC9 fp9 fq9] 61)
 have xf5:=(XF2.out.next b4).next hb5;have HB5:=Aa ((HB2.out.next b4).next hb5);clear b4 hb5 g0 g1 g2 g3 g4 g5 g6;go_wp2_with (with_reducible refine Ac rfl 61 _ _ rfl (w0.heap.size+1) #[.int .i64 ku,.slice fA9 fn9 fc9,.bool fs9,.slice fB9 fm9 fd9,.bool ff9,.slice fC9 fp9 fq9] rfl rfl _ xf5 (by kernel_rfl) rfl (by simp[Value.oneCell']) ?_;intro w9 k9 o9);refine BI rfl rfl rfl k9 rfl ?_;exact ⟨_,_,_,_,_,_,_,_,_,_,_,rfl,HB5.out.trans (o9.below HB5.out.size (by omega))⟩
end
end Go.Proofs.YtgohmojcopajoaaGreatDoor
