/- Texts of one seat, put together: ConcatP TermC ExprR. -/
import Derived.Test.YtgohmojcopajoaaGreatDoorH19
import Derived.Test.YtgohmojcopajoaaGreatDoorH04
set_option linter.unusedVariables false
set_option linter.unusedSimpArgs false
set_option maxRecDepth 100000
set_option maxHeartbeats 16000000
namespace Go.Proofs.YtgohmojcopajoaaGreatDoor.Nu
section
open Go.RowKit
open Tm
theorem Gw {P:Program} {w:World} (base:Nat) (t ty e:TypeId) (i:TypeInfo) (size:Nat) (ht:P.underlying t=some (.slice e)) (hi:P.info? e=some i)
   (v:Value) (n c:Nat) (xs:List Value) (hown:Ak e size w base v n xs):(Builtin.append_ #[t,t] ty #[v,.slice none 0 c]).run P w=.ok v w:=by
 rcases hown.2 with ⟨rfl,rfl⟩|⟨g,cap,cur,rfl,_,_,hnc,_⟩
 · simp[Builtin.append_,run_underlying ht,sizeOf,typeInfo,hi,Builtin.lenOf,Builtin.firstCells]
 · simp[Builtin.append_,run_underlying ht,sizeOf,typeInfo,hi,Builtin.lenOf,Builtin.firstCells,hnc,storeCells]
theorem DU {w:World} {ops:Array Oper} {rest:List Oper} {o:Oper} {a:Act} {Q:Exit->Act->World->Prop} (hgd:o.guard=none) (s x:Operand)
   (ho:o.op=.call { callee:=.builtin .append,args:=#[s,x],argTypes:=#[50,50] }) (base:Nat) (v:Value) (ps:List PV) (hs:a.eval s=v) (hown:Ak 157 3 w base v ps.length (flat ps))
   (A:Option Addr) (m c k:Nat) (qs:List PV) (hx:a.eval x=.slice A m c) (hq:AU w A m qs k) (hn:ps.length+m<=1099511627776) (hbase:base<=w.heap.size)
   (h:∀v' w',Ak 157 3 w' base v' (ps++qs).length (flat (ps++qs))->w.grownBy w' v.ownBlock->wpList Tryz.prog ops Q rest (a.put o.dst v') w'):wpList Tryz.prog ops Q (o::rest) a w:=by
 rcases A with _|⟨b,q,sp⟩
 · obtain rfl:m=0:=by
     rcases Nat.eq_zero_or_pos m with h0|h0
     · exact h0
     · obtain ⟨b,o,e,-⟩:=hq.2.1 h0;cases e
   obtain rfl:qs=[]:=List.eq_nil_of_length_eq_zero hq.1;obtain ⟨i0,hi0,hz0,hz1,hz2⟩:=info_parts EW;refine wpList_plain hgd fun K hK=>?_
   have hrun:=Gw (P:=Tryz.prog) (w:=w) base 50 o.type 157 i0 3 Tryz.underlying50 hi0 v ps.length c (flat ps) hown;unfold Oper.wp;rw[CZ ho hs hx hrun];exact hK _ _ (h v w (by rw[List.append_nil];exact hown) ⟨rfl,rfl,rfl,Nat.le_refl _,fun _ _ _=>rfl⟩)
 · rcases Nat.eq_zero_or_pos m with h0|h0
   · subst h0;obtain rfl:qs=[]:=List.eq_nil_of_length_eq_zero hq.1;obtain ⟨i0,hi0,hz0,hz1,hz2⟩:=info_parts EW;exact Ba hgd s x 50 ho base 157 i0 _ 3 40 Tryz.underlying50 hi0 hz0 hz1 hz2 rfl (by decide) CQ v ps.length (flat ps) hs hown ⟨b,q,sp⟩ 0 c [] hx rfl
       (fun j u hu=>by simp at hu) (fun u hu=>by cases hu) (fun u hu=>by cases hu) (by unfold maxLen;omega) (by omega) hbase (fun v' w' h1 h2=>h v' w' (by rw[List.append_nil];simpa using h1) h2)
   · obtain ⟨b',q',e,hc⟩:=hq.2.1 h0;injection e with e
     injection e with e1 e2 e3
     subst e1 e2 e3;exact Cf hgd s x ho base v ps hs hown b q m c qs hx hq.1 hc hn hbase h
def OG (ps qs:List PV) (k:Nat) (w:World) (e:Ending) (w':World):Prop:=∃A n c,e=.returned (.slice A n c)/\AU w' A n (ps++qs) k/\n<=c/\c<=9223372036854775807/\Below w.heap.size w w'
theorem JO (gs cs:Nat) (A B:Option Addr) (n c m d k:Nat) (ps qs:List PV) (w:World) (h0:w.cell? ⟨gs,0,none⟩=some (.slice A n c)) (h1:w.cell? ⟨gs,1,none⟩=some (.slice B m d)) (hp:AU w A n ps k) (hq:AU w B m qs k) (hn:n<=500000) (hm:m<=500000) :
  Calls Tryz.prog 92 #[.slice (some ⟨gs,0,none⟩) 2 cs] w (OG ps qs k w):=by
 have hpl:=Aa hp.1;have hql:=Aa hq.1;have hlt:=World.block_lt_of_cell? w _ h0;go_enter Tryz.func92,Tryz.ntmps92;go_wp2_with fail;go_loop [3,11] (fun s i=>∃q t:Nat,i=.int .i64 q/\s=.int .i64 t/\((q=0/\t=0)\/(q=1/\t=n)\/(q=2/\t=n+m))) (fun _ i=>2-(intOf i).toNat)
 case atStart=>exact ⟨0,0,rfl,rfl,.inl ⟨rfl,rfl⟩⟩
 case round=>
  obtain ⟨q,t,rfl,rfl,⟨rfl,rfl⟩|⟨rfl,rfl⟩|⟨rfl,rfl⟩⟩:=hrel
  · go_wp2_with fail;go_round
    case rel=>exact ⟨1,n,by go_num,by go_num,.inr (.inl ⟨rfl,rfl⟩)⟩
    case measure=>simp[intOf]<;>omega
  · go_wp2_with fail;go_round
    case rel=>exact ⟨2,t+m,by go_num,by go_num,.inr (.inr ⟨rfl,rfl⟩)⟩
    case measure=>simp[intOf]<;>omega
  · have hgr:=fun W=>Hw (n+m) W (by omega)
    have e2:((n+m:Nat):Int)=(n:Int)+(m:Int):=(by omega);rw[e2]at hgr;clear e2;go_wp2_with fail;refine (hgr _).mono ?_;rintro e w1 ⟨A1,c1,rfl,l1,b1⟩;have HP:=Aa hp;have HQ:=Aa hq;have H0:=Aa h0;have H1:=Aa h1;have HL:=Aa l1;have HB:=Aa b1;clear hp hq h0 h1 hgr l1 b1;go_wp2_with fail
    go_loopw [6,27] (fun v i wr=>∃(q:Nat) (rs:List PV),i=.int .i64 q/\Hid (Ak 157 3 wr w.heap.size v rs.length (flat rs))/\Hid (Below w.heap.size w wr)/\((q=0/\rs=[])\/(q=1/\rs=ps)\/(q=2/\rs=ps++qs))) (fun _ i _=>2-(intOf i).toNat)
    case atStart=>exact ⟨0,[],rfl,HL,HB,.inl ⟨rfl,rfl⟩⟩
    case round=>
     obtain ⟨q,rs,rfl,HR,hB2,⟨rfl,rfl⟩|⟨rfl,rfl⟩|⟨rfl,rfl⟩⟩:=hrel
     · have y0:=(hB2.out.cell (p:=⟨gs,0,none⟩) hlt).trans H0.out;go_wp2_with (at_builtin;refine DU rfl _ _ rfl w.heap.size _ [] rfl HR.out A n c k ps rfl (HP.out.below hB2.out) (by simp;omega) hB2.out.size ?_;intro v' w2 l2 g2);have HL2:=Aa (show Ak 157 3 w2 w.heap.size v' ps.length (flat ps) by simpa using l2);have HB2:=Aa (HR.out.old hB2.out g2 (Nat.le_refl _) (Nat.le_refl _));clear l2 g2 y0;go_wp2_with fail;go_roundw
       case rel=>exact ⟨1,ps,by go_num,HL2,HB2,.inr (.inl ⟨rfl,rfl⟩)⟩
       case measure=>simp[intOf]<;>omega
     · have y1:=(hB2.out.cell (p:=⟨gs,1,none⟩) hlt).trans H1.out;have hle:rs.length+m<=1099511627776:=(by have:=hpl.out;omega);go_wp2_with (at_builtin;refine DU rfl _ _ rfl w.heap.size _ rs rfl HR.out B m d k qs rfl (HQ.out.below hB2.out) hle hB2.out.size ?_;intro v' w2 l2 g2);have HL2:=Aa (show Ak 157 3 w2 w.heap.size v' (rs++qs).length (flat (rs++qs)) by simpa using l2);have HB2:=Aa (HR.out.old hB2.out g2 (Nat.le_refl _) (Nat.le_refl _));clear l2 g2 y1
       go_wp2_with fail;go_roundw
       case rel=>exact ⟨2,rs++qs,by go_num,HL2,HB2,.inr (.inr ⟨rfl,rfl⟩)⟩
       case measure=>simp[intOf]<;>omega
     · obtain ⟨A9,c9,rfl,h91,h92,-⟩:=HR.out.len;have HX:=Aa (HR.out.parts rfl (fun p hp=>by
        rcases List.mem_append.1 hp with h|h
        · exact (HP.out.2.2 p h).below hB2.out
        · exact (HQ.out.2.2 p h).below hB2.out))
       clear HR;go_wp2_with fail;go_ret
       exact ⟨A9,_,c9,rfl,HX.out,h91,h92,hB2.out⟩
end
section
open Go.RowKit
open Tm
theorem Nx (v u:Value) (L M:List (Int×Int)) (K KM:Int) (k:Nat) (w0:World) (hv:AW w0 v L K k) (hu:AW w0 u M KM k) (hl:L.length<=500000) (hm:M.length<=500000) (hk:k<=109951162) :
   Calls Tryz.prog 49 #[v,u] w0 (Cu (norm (L++M)) (K+KM) (k+1+(L.length+M.length)) w0):=by
 obtain ⟨A,n,c,s,B,m,d,rfl,⟨ps,hps,rfl⟩,hc1,hc2,hK⟩:=hv;obtain ⟨A2,n2,c2,s2,B2,m2,d2,rfl,⟨qs,hqs,rfl⟩,hc3,hc4,hK2⟩:=hu;have hn:n<=500000:=by have:=hps.1;unfold DC at hl;rw[List.length_map]at hl;omega
 have hn2:n2<=500000:=by have:=hqs.1;unfold DC at hm;rw[List.length_map]at hm;omega
 have HLL:=Aa (show (DC ps).length=ps.length/\(DC qs).length=qs.length from ⟨by simp[DC],by simp[DC]⟩);obtain ⟨z0,z1,z2,z3,z4⟩:=Cm 56 56 56 w0 #[.slice A n c,.bool s,.slice B m d] #[.slice A2 n2 c2,.bool s2,.slice B2 m2 d2] #[.slice none 0 0,.bool false,.slice none 0 0];go_enter Tryz.func49,Tryz.ntmps49;go_wp2_with fail
 generalize hW0:(((w0.alloc (.cells #[.slice A n c,.bool s,.slice B m d] 56)).alloc (.cells #[.slice A2 n2 c2,.bool s2,.slice B2 m2 d2] 56)).alloc (.cells #[.slice none 0 0,.bool false,.slice none 0 0] 56))=W0 at *;clear hW0;have HPA:=Aa (hps.below z3);have HPB:=Aa (hqs.below z3);have HKA:=Aa (hK.below z3);have HKB:=Aa (hK2.below z3);have R0:=Aa z2;have T0:=Aa z3
 have HPL:=Aa (fun W v (h:AW W v (DC (ps++qs)) (K+KM) (k+1))=>(show Calls Tryz.prog 91 #[v] W (Cu (norm (DC (ps++qs))) (K+KM) (k+1+(ps.length+qs.length)) W) from by have h1:=Ew v _ _ (k+1) W h (by rw[Cp,List.length_append,HLL.out.1,HLL.out.2];have:=hps.1;have:=hqs.1;omega) (by omega);rw[Cp,List.length_append,HLL.out.1,HLL.out.2]at h1;rw[Cp];exact h1))
 unfold Cu at HPL
 have SOF:=Aa (show ∀W,Below W0.heap.size W0 W->(W.cell? ⟨w0.heap.size,0,none⟩=some (.slice A n c)/\W.cell? ⟨w0.heap.size,1,none⟩=some (.bool s)/\W.cell? ⟨w0.heap.size,2,none⟩=some (.slice B m d)/\W.cell? ⟨w0.heap.size+1,0,none⟩=some (.slice A2 n2 c2)/\W.cell? ⟨w0.heap.size+1,1,none⟩=some (.bool s2)/\W.cell? ⟨w0.heap.size+1,2,none⟩=some (.slice B2 m2 d2)) from fun W h=>⟨(z0.next h).c0,(z0.next h).c1,(z0.next h).c2,(z1.next h).c0,(z1.next h).c1,(z1.next h).c2⟩)
 clear z0 z1 z2 z3 z4 hps hqs hK hK2
 refine BI (by kernel_rfl) (by kernel_rfl) (by kernel_rfl) (by kernel_rfl) (fun w w'=>Below w.heap.size w w') (fun j v w=>match j with|0=>v=.pointer (some ⟨w0.heap.size,0,none⟩)|1=>v=.slice A n c|2=>v=.pointer (some ⟨w0.heap.size+1,0,none⟩)|3=>v=.slice A2 n2 c2|4=>∃gs,v=.slice (some ⟨gs,0,none⟩) 2 2/\Am 50 w gs #[.slice A n c,.slice A2 n2 c2]|5=>∃A n c,v=.slice A n c/\AU w A n (ps++qs) k/\n<=c/\c<=9223372036854775807|6=>v=.pointer (some ⟨w0.heap.size,1,none⟩)|7=>v=.agg #[.bool s,.slice B m d]|8=>v=.pointer (some ⟨w0.heap.size+1,1,none⟩)|9=>v=.agg #[.bool s2,.slice B2 m2 d2]|10=>∃s B m d,v=.agg #[.bool s,.slice B m d]/\AL w (.agg #[.bool s,.slice B m d]) (K+KM) (k+1)|11=>AW w v (DC (ps++qs)) (K+KM) (k+1)|12=>AP w v (norm (DC (ps++qs))) (K+KM) (k+1+(ps.length+qs.length))|_=>True) (fun _ _ w=>Below W0.heap.size W0 w) ?_ (fun _=>Ao W0 1) ?_ ?_
 · intro j v w w' hT h;match j,h with
   |0,h=>exact h
   |1,h=>exact h
   |2,h=>exact h
   |3,h=>exact h
   |4,h=>exact (by obtain ⟨g,e,h2⟩:=h;exact ⟨g,e,h2.next hT⟩)
   |5,h=>exact (by obtain ⟨A,n,c,e,h1,h2,h3⟩:=h;exact ⟨A,n,c,e,h1.below hT,h2,h3⟩)
   |6,h=>exact h
   |7,h=>exact h
   |8,h=>exact h
   |9,h=>exact h
   |10,h=>exact (by obtain ⟨s,B,m,d,e,z⟩:=h;exact ⟨s,B,m,d,e,z.below hT⟩)
   |11,h=>exact h.below hT
   |12,h=>exact h.below hT
   |j+13,h=>trivial
 · refine ⟨?_,?_,?_,?_,?_,?_,?_,?_,?_,?_,?_,?_,?_,trivial⟩
   · intro listed σ w a hin hout hl hla hs hc hp hG hF;refine Ac.none rfl ?_;have e2:a.tmps.getD 2 undef=.pointer (some ⟨w0.heap.size,0,none⟩):=hout 2 (Ag (by kernel_rfl));refine Does.val (.pointer (some ⟨w0.heap.size,0,none⟩)) (w':=w) ?_ ⟨Below.refl _ _,rfl,hG⟩;simp only[Array.getD_eq_getD_getElem?]at e2;go_simp
   · intro listed σ w a hin hout hl hla hs hc hp hG hF;refine Ac.none rfl ?_;have e5:a.tmps.getD 5 undef=.pointer (some ⟨w0.heap.size,0,none⟩):=(hin 0 5 rfl (hp ⟨0,.data⟩ (by simp) rfl)).trans (hF 0 (hp ⟨0,.data⟩ (by simp) rfl));have CC:=SOF.out w hG;obtain ⟨C0,C1,C2,D0,D1,D2⟩:=CC;refine Does.val (.slice A n c) (w':=w) ?_ ⟨Below.refl _ _,rfl,hG⟩;go_simp
   · intro listed σ w a hin hout hl hla hs hc hp hG hF;refine Ac.none rfl ?_;have e3:a.tmps.getD 3 undef=.pointer (some ⟨w0.heap.size+1,0,none⟩):=hout 3 (Ag (by kernel_rfl));refine Does.val (.pointer (some ⟨w0.heap.size+1,0,none⟩)) (w':=w) ?_ ⟨Below.refl _ _,rfl,hG⟩;simp only[Array.getD_eq_getD_getElem?]at e3;go_simp
   · intro listed σ w a hin hout hl hla hs hc hp hG hF;refine Ac.none rfl ?_;have e7:a.tmps.getD 7 undef=.pointer (some ⟨w0.heap.size+1,0,none⟩):=(hin 2 7 rfl (hp ⟨2,.data⟩ (by simp) rfl)).trans (hF 2 (hp ⟨2,.data⟩ (by simp) rfl));have CC:=SOF.out w hG;obtain ⟨C0,C1,C2,D0,D1,D2⟩:=CC;refine Does.val (.slice A2 n2 c2) (w':=w) ?_ ⟨Below.refl _ _,rfl,hG⟩;go_simp
   · intro listed σ w a hin hout hl hla hs hc hp hG hF;refine Ac.none rfl ?_;have e6:a.tmps.getD 6 undef=.slice A n c:=(hin 1 6 rfl (hp ⟨1,.data⟩ (by simp) rfl)).trans (hF 1 (hp ⟨1,.data⟩ (by simp) rfl));have e8:a.tmps.getD 8 undef=.slice A2 n2 c2:=(hin 3 8 rfl (hp ⟨3,.data⟩ (by simp) rfl)).trans (hF 3 (hp ⟨3,.data⟩ (by simp) rfl))
     refine Does.val (.slice (some ⟨w.heap.size,0,none⟩) 2 2) (w':=w.alloc (.cells #[.slice A n c,.slice A2 n2 c2] 50)) ?_ ⟨Ae w _,⟨w.heap.size,rfl,Am.new _ _ _⟩,hG.next (Ae w _)⟩;simp only[Array.getD_eq_getD_getElem?]at e6 e8;go_simp
   · intro listed σ w a hin hout hl hla hs hc hp hG hF;refine Ac.none rfl ?_;have e9:=hin 4 9 rfl (hp ⟨4,.data⟩ (by simp) rfl);obtain ⟨g4,ev4,x4⟩:=hF 4 (hp ⟨4,.data⟩ (by simp) rfl);rw[ev4]at e9;refine Does.call ?_ (JO g4 2 A A2 n c n2 c2 k ps qs w (x4.cell 0 _ rfl) (x4.cell 1 _ rfl) (HPA.out.below hG) (HPB.out.below hG) hn hn2) ?_
     · go_simp
     · rintro e w' ⟨A,n,c,rfl,hp,h1,h2,hb⟩;exact ⟨_,rfl,hb,⟨A,n,c,rfl,hp,h1,h2⟩,hG.next hb⟩
   · intro listed σ w a hin hout hl hla hs hc hp hG hF;refine Ac.none rfl ?_;have e2:a.tmps.getD 2 undef=.pointer (some ⟨w0.heap.size,0,none⟩):=hout 2 (Ag (by kernel_rfl));refine Does.val (.pointer (some ⟨w0.heap.size,1,none⟩)) (w':=w) ?_ ⟨Below.refl _ _,rfl,hG⟩;simp only[Array.getD_eq_getD_getElem?]at e2;go_simp
   · intro listed σ w a hin hout hl hla hs hc hp hG hF;refine Ac.none rfl ?_;have e11:a.tmps.getD 11 undef=.pointer (some ⟨w0.heap.size,1,none⟩):=(hin 6 11 rfl (hp ⟨6,.data⟩ (by simp) rfl)).trans (hF 6 (hp ⟨6,.data⟩ (by simp) rfl));have CC:=SOF.out w hG;obtain ⟨C0,C1,C2,D0,D1,D2⟩:=CC;refine Does.val (.agg #[.bool s,.slice B m d]) (w':=w) ?_ ⟨Below.refl _ _,rfl,hG⟩;go_simp
   · intro listed σ w a hin hout hl hla hs hc hp hG hF;refine Ac.none rfl ?_;have e3:a.tmps.getD 3 undef=.pointer (some ⟨w0.heap.size+1,0,none⟩):=hout 3 (Ag (by kernel_rfl));refine Does.val (.pointer (some ⟨w0.heap.size+1,1,none⟩)) (w':=w) ?_ ⟨Below.refl _ _,rfl,hG⟩;simp only[Array.getD_eq_getD_getElem?]at e3;go_simp
   · intro listed σ w a hin hout hl hla hs hc hp hG hF;refine Ac.none rfl ?_;have e13:a.tmps.getD 13 undef=.pointer (some ⟨w0.heap.size+1,1,none⟩):=(hin 8 13 rfl (hp ⟨8,.data⟩ (by simp) rfl)).trans (hF 8 (hp ⟨8,.data⟩ (by simp) rfl));have CC:=SOF.out w hG;obtain ⟨C0,C1,C2,D0,D1,D2⟩:=CC;refine Does.val (.agg #[.bool s2,.slice B2 m2 d2]) (w':=w) ?_ ⟨Below.refl _ _,rfl,hG⟩;go_simp
   · intro listed σ w a hin hout hl hla hs hc hp hG hF;refine Ac.none rfl ?_;have e12:a.tmps.getD 12 undef=.agg #[.bool s,.slice B m d]:=(hin 7 12 rfl (hp ⟨7,.data⟩ (by simp) rfl)).trans (hF 7 (hp ⟨7,.data⟩ (by simp) rfl));have e14:a.tmps.getD 14 undef=.agg #[.bool s2,.slice B2 m2 d2]:=(hin 9 14 rfl (hp ⟨9,.data⟩ (by simp) rfl)).trans (hF 9 (hp ⟨9,.data⟩ (by simp) rfl))
     refine Does.call ?_ (VR (.agg #[.bool s,.slice B m d]) (.agg #[.bool s2,.slice B2 m2 d2]) K KM k w (HKA.out.below hG) (HKB.out.below hG) (by omega)) ?_
     · go_simp
     · rintro e w' ⟨v,rfl,z,hb⟩;exact ⟨_,rfl,hb,(by obtain ⟨s,B,m,d,rfl⟩:=z.form;exact ⟨s,B,m,d,rfl,z⟩),hG.next hb⟩
   · intro listed σ w a hin hout hl hla hs hc hp hG hF;refine Ac.none rfl ?_;have e10:=hin 5 10 rfl (hp ⟨5,.data⟩ (by simp) rfl);obtain ⟨A5,n5,c5,ev5,p5,q5,r5⟩:=hF 5 (hp ⟨5,.data⟩ (by simp) rfl);rw[ev5]at e10;have e15:=hin 10 15 rfl (hp ⟨10,.data⟩ (by simp) rfl);obtain ⟨s10,B10,m10,d10,ev10,z10⟩:=hF 10 (hp ⟨10,.data⟩ (by simp) rfl);rw[ev10]at e15
     refine Does.val (.agg #[.slice A5 n5 c5,.bool s10,.slice B10 m10 d10]) (w':=w) ?_ ⟨Below.refl _ _,⟨A5,n5,c5,s10,B10,m10,d10,rfl,⟨_,p5.mono (by omega),rfl⟩,q5,r5,z10.in_⟩,hG⟩;simp only[Array.getD_eq_getD_getElem?]at e10 e15;go_simp
   · intro listed σ w a hin hout hl hla hs hc hp hG hF;refine Ac.none rfl ?_;have e16:=hin 11 16 rfl (hp ⟨11,.data⟩ (by simp) rfl);have z11:=hF 11 (hp ⟨11,.data⟩ (by simp) rfl);refine Does.call ?_ (HPL.out w _ z11) ?_
     · go_simp
     · rintro e w' ⟨v,rfl,z,hb⟩;exact ⟨_,rfl,hb,z,hG.next hb⟩
 · intro o ho;injection ho with ho;subst ho
   intro listed σ w a hall hin hout hG hF;refine Ac.none rfl ?_;have e4:a.tmps.getD 4 undef=.pointer (some ⟨w0.heap.size+1+1,0,none⟩):=hout 4 (MI (by kernel_rfl));have e17:=hin 12 17 rfl (by decide);have z12:=hF 12 (by decide);have z12:=hF 12 (by decide);obtain ⟨A8,n8,c8,s8,B8,m8,d8,ev8⟩:=AP.form z12;rw[ev8]at e17 z12;have HR8:=Aa (R0.out.next hG);have HT8:=Aa (T0.out.next hG)
   refine Does.store_box (T:=56) (cells:=#[.slice A8 n8 c8,.bool s8,.slice B8 m8 d8]) rfl e4 e17 HR8.out (by kernel_rfl) rfl (by simp[Value.oneCell']) (fun w2 x9 o9=>?_)
   rw[show IW _ σ undef _=(Act.put (Act.put (Act.put (Act.put (Act.put (Act.put (Act.put (Act.put (Act.put (Act.put (Act.put (Act.put (Act.put (Act.put _ (some 5) (σ 0)) (some 6) (σ 1)) (some 7) (σ 2)) (some 8) (σ 3)) (some 9) (σ 4)) (some 10) (σ 5)) (some 11) (σ 6)) (some 12) (σ 7)) (some 13) (σ 8)) (some 14) (σ 9)) (some 15) (σ 10)) (some 16) (σ 11)) (some 17) (σ 12)) none undef) from (CL hall).trans rfl]
   simp only[Act.put,List.setIfInBounds_toArray,List.set_cons_zero,List.set_cons_succ];have HZ8:=Aa (z12.only HR8.out o9);have HO:=Aa o9;generalize σ 0=tt0 at *;generalize σ 1=tt1 at *;generalize σ 2=tt2 at *;generalize σ 3=tt3 at *;generalize σ 4=tt4 at *;generalize σ 5=tt5 at *;generalize σ 6=tt6 at *;generalize σ 7=tt7 at *;generalize σ 8=tt8 at *;generalize σ 9=tt9 at *;generalize σ 10=tt10 at *;generalize σ 11=tt11 at *;generalize σ 12=tt12 at *
   clear hF hG hall hin hout SOF z12 o9 e4 e17 ev8;go_wp2_with fail;refine Cq rfl rfl x9 rfl ?_;exact Cu.eq (Cu.mono ⟨_,rfl,HZ8.out,Bg HT8.out (by omega) HO.out⟩ (by have:=HLL.out;omega)) (by rw[Cp]) rfl
theorem EY (v u:Value) (L M:List (Int×Int)) (K KM:Int) (k:Nat) (w0:World) (hv:AW w0 v L K k) (hu:AW w0 u M KM k) (hl:L.length<=500000) (hm:M.length<=500000) (hk:k<=10995116) :
   Calls Tryz.prog 145 #[v,u] w0 (Cu (norm (L++M.map fun p=>(p.1,-1*p.2))) (K-KM) (k+M.length+1+(L.length+M.length)) w0):=by
 have hv0:=hv;have hu0:=hu;obtain ⟨A,n,c,s,B,m,d,rfl,-⟩:=hv;obtain ⟨A2,n2,c2,s2,B2,m2,d2,rfl,-⟩:=hu;obtain ⟨z0,z1,z2,z3,z4⟩:=Cm 56 56 56 w0 #[.slice A n c,.bool s,.slice B m d] #[.slice A2 n2 c2,.bool s2,.slice B2 m2 d2] #[.slice none 0 0,.bool false,.slice none 0 0];go_enter Tryz.func145,Tryz.ntmps145;go_wp2_with fail
 generalize hW0:(((w0.alloc (.cells #[.slice A n c,.bool s,.slice B m d] 56)).alloc (.cells #[.slice A2 n2 c2,.bool s2,.slice B2 m2 d2] 56)).alloc (.cells #[.slice none 0 0,.bool false,.slice none 0 0] 56))=W0 at *;clear hW0;have HB:=Aa (hu0.below z3);have HA:=Aa (hv0.below z3);have R0:=Aa z2;have T0:=Aa z3
 have HAD:=Aa (fun W v (h:AP W v (norm (M.map fun p=>(p.1,-1*p.2))) (-KM) (k+M.length)) (hb:Below W0.heap.size W0 W)=>(show Calls Tryz.prog 49 #[.agg #[.slice A n c,.bool s,.slice B m d],v] W (Cu (norm (L++norm (M.map fun p=>(p.1,-1*p.2)))) (K+-KM) (k+M.length+1+(L.length+M.length)) W) from by have hq:=Bb (M.map fun p=>(p.1,-1*p.2));rw[List.length_map]at hq;exact (Nx _ v L _ K (-KM) (k+M.length) W ((HA.out.below hb).mono (by omega)) h.in_ hl (by omega) (by omega)).mono (fun e w' h=>h.mono (by omega))))
 unfold Cu at HAD
 have SOF:=Aa (show ∀W,Below W0.heap.size W0 W->(W.cell? ⟨w0.heap.size,0,none⟩=some (.slice A n c)/\W.cell? ⟨w0.heap.size,1,none⟩=some (.bool s)/\W.cell? ⟨w0.heap.size,2,none⟩=some (.slice B m d)/\W.cell? ⟨w0.heap.size+1,0,none⟩=some (.slice A2 n2 c2)/\W.cell? ⟨w0.heap.size+1,1,none⟩=some (.bool s2)/\W.cell? ⟨w0.heap.size+1,2,none⟩=some (.slice B2 m2 d2)) from fun W h=>⟨(z0.next h).c0,(z0.next h).c1,(z0.next h).c2,(z1.next h).c0,(z1.next h).c1,(z1.next h).c2⟩)
 clear z0 z1 z2 z3 z4 hv0 hu0
 refine BI (by kernel_rfl) (by kernel_rfl) (by kernel_rfl) (by kernel_rfl) (fun w w'=>Below w.heap.size w w') (fun j v w=>match j with|0=>v=.agg #[.slice A n c,.bool s,.slice B m d]|1=>v=.agg #[.slice A2 n2 c2,.bool s2,.slice B2 m2 d2]|2=>AP w v (norm (M.map fun p=>(p.1,-1*p.2))) (-KM) (k+M.length)|3=>AP w v (norm (L++norm (M.map fun p=>(p.1,-1*p.2)))) (K+-KM) (k+M.length+1+(L.length+M.length))|_=>True) (fun _ _ w=>Below W0.heap.size W0 w) ?_ (fun _=>Ao W0 1) ?_ ?_
 · intro j v w w' hT h;match j,h with
   |0,h=>exact h
   |1,h=>exact h
   |2,h=>exact h.below hT
   |3,h=>exact h.below hT
   |j+4,h=>trivial
 · refine ⟨?_,?_,?_,?_,trivial⟩
   · intro listed σ w a hin hout hl hla hs hc hp hG hF;refine Ac.none rfl ?_;have e2:a.tmps.getD 2 undef=.pointer (some ⟨w0.heap.size,0,none⟩):=hout 2 (Ag (by kernel_rfl));have CC:=SOF.out w hG;obtain ⟨C0,C1,C2,D0,D1,D2⟩:=CC;refine Does.val (.agg #[.slice A n c,.bool s,.slice B m d]) (w':=w) ?_ ⟨Below.refl _ _,rfl,hG⟩;go_simp
   · intro listed σ w a hin hout hl hla hs hc hp hG hF;refine Ac.none rfl ?_;have e3:a.tmps.getD 3 undef=.pointer (some ⟨w0.heap.size+1,0,none⟩):=hout 3 (Ag (by kernel_rfl));have CC:=SOF.out w hG;obtain ⟨C0,C1,C2,D0,D1,D2⟩:=CC;refine Does.val (.agg #[.slice A2 n2 c2,.bool s2,.slice B2 m2 d2]) (w':=w) ?_ ⟨Below.refl _ _,rfl,hG⟩;go_simp
   · intro listed σ w a hin hout hl hla hs hc hp hG hF;refine Ac.none rfl ?_;have e6:a.tmps.getD 6 undef=.agg #[.slice A2 n2 c2,.bool s2,.slice B2 m2 d2]:=(hin 1 6 rfl (hp ⟨1,.data⟩ (by simp) rfl)).trans (hF 1 (hp ⟨1,.data⟩ (by simp) rfl));refine Does.call ?_ (TJ _ M KM k w (HB.out.below hG) (by omega) (by omega)) ?_
     · go_simp
     · rintro e w' ⟨v,rfl,z,hb⟩;exact ⟨_,rfl,hb,z,hG.next hb⟩
   · intro listed σ w a hin hout hl hla hs hc hp hG hF;refine Ac.none rfl ?_;have e5:a.tmps.getD 5 undef=.agg #[.slice A n c,.bool s,.slice B m d]:=(hin 0 5 rfl (hp ⟨0,.data⟩ (by simp) rfl)).trans (hF 0 (hp ⟨0,.data⟩ (by simp) rfl));have e7:=hin 2 7 rfl (hp ⟨2,.data⟩ (by simp) rfl);have z2:=hF 2 (hp ⟨2,.data⟩ (by simp) rfl);refine Does.call ?_ (HAD.out w _ z2 hG) ?_
     · go_simp
     · rintro e w' ⟨v,rfl,z,hb⟩;exact ⟨_,rfl,hb,z,hG.next hb⟩
 · intro o ho;injection ho with ho;subst ho
   intro listed σ w a hall hin hout hG hF;refine Ac.none rfl ?_;have e4:a.tmps.getD 4 undef=.pointer (some ⟨w0.heap.size+1+1,0,none⟩):=hout 4 (MI (by kernel_rfl));have e8:=hin 3 8 rfl (by decide);have z3:=hF 3 (by decide);have z3:=hF 3 (by decide);obtain ⟨A8,n8,c8,s8,B8,m8,d8,ev8⟩:=AP.form z3;rw[ev8]at e8 z3;have HR8:=Aa (R0.out.next hG);have HT8:=Aa (T0.out.next hG)
   refine Does.store_box (T:=56) (cells:=#[.slice A8 n8 c8,.bool s8,.slice B8 m8 d8]) rfl e4 e8 HR8.out (by kernel_rfl) rfl (by simp[Value.oneCell']) (fun w2 x9 o9=>?_);rw[show IW _ σ undef _=(Act.put (Act.put (Act.put (Act.put (Act.put _ (some 5) (σ 0)) (some 6) (σ 1)) (some 7) (σ 2)) (some 8) (σ 3)) none undef) from (CL hall).trans rfl];simp only[Act.put,List.setIfInBounds_toArray,List.set_cons_zero,List.set_cons_succ];have HZ8:=Aa (z3.only HR8.out o9);have HO:=Aa o9
   generalize σ 0=tt0 at *;generalize σ 1=tt1 at *;generalize σ 2=tt2 at *;generalize σ 3=tt3 at *;clear hF hG hall hin hout SOF z3 o9 e4 e8 ev8;go_wp2_with fail;refine Cq rfl rfl x9 rfl ?_;exact Cu.eq ⟨_,rfl,HZ8.out,Bg HT8.out (by omega) HO.out⟩ (Hv (fun _=>rfl) (fun x=>by rw[Gs];simp)) (by omega)
theorem Hy (x:Int) (w:World):Calls Tryz.prog 90 #[.int .i64 x] w (Cu (norm [(x,1)]) 0 3 w):=by
 obtain ⟨z0,z1,z2⟩:=Ap 56 w #[.slice none 0 0,.bool false,.slice none 0 0];go_enter Tryz.func90,Tryz.ntmps90;go_wp2_with fail;refine (Kn 1 _ (by omega) (by omega)).mono ?_;rintro e w1 ⟨v1,rfl,r1,b1⟩;obtain ⟨s1,A1,n1,c1,rfl⟩:=r1.form;have t1:=z1.next b1;have k1:=z0.next b1;obtain ⟨y0,y1,-⟩:=Ap 157 w1 #[.int .i64 x,.bool s1,.slice A1 n1 c1]
 have HT:=Aa (show AW (w1.alloc (.cells #[.int .i64 x,.bool s1,.slice A1 n1 c1] 157)) (.agg #[.slice (some ⟨w1.heap.size,0,none⟩) 1 1,.bool false,.slice none 0 0]) [(x,1)] 0 2 from
  ⟨_,1,1,false,none,0,0,rfl,⟨[⟨x,s1,A1,n1,c1,1⟩],⟨rfl,fun _=>⟨w1.heap.size,0,rfl,GX w1 ⟨x,s1,A1,n1,c1,1⟩ _ rfl⟩,fun p hp=>by simp at hp;subst hp;exact (r1.in_).below y1⟩,rfl⟩,Nat.le_refl _,by omega,(AL.zero _ 2).in_⟩)
 have hpl:=Ew _ [(x,1)] 0 2 _ HT.out (by simp) (by omega);have k2:=k1.next y1;have t2:=t1.next y1;clear r1 y0 y1;go_wp2_with fail;refine hpl.mono ?_;rintro e w2 ⟨v2,rfl,r2,b2⟩;obtain ⟨A2,n2,c2,s2,B2,m2,d2,rfl⟩:=r2.form;have k3:=k2.next b2;go_wp2_with (with_reducible refine BL rfl _ _ rfl w.heap.size _ _ _ _ _ _ _ rfl rfl _ _ _ k3 ?_;intro w3 k4 ho3);refine Cq rfl rfl k4 rfl ?_;exact ⟨_,rfl,r2.only k3 ho3,Bg (t2.next b2) (Nat.le_refl _) ho3⟩
end
end Go.Proofs.YtgohmojcopajoaaGreatDoor.Nu
namespace Go.Proofs.YtgohmojcopajoaaGreatDoor.Ex
section
def eS:ByteArray:=⟨#[]⟩
def OH (m:Mn):Prop:=¬(m.num=eS/\m.var=eS)/\(m.num=eS\/Ea m.num=true)/\(m.var=eS\/Cz m.var=true)
def I9 (l:List Mn):Prop:=1<=l.length/\l.length<=64/\∀m∈l,OH m
def Bi:Tr->Bool
 |.both _ _=>true
 |_=>false
def AR:Tr->Bool
 |.any _ _=>true
 |_=>false
def right:Nat->Tr->Prop
 |_,.leaf _=>True
 |_,.cmp l op r=>I9 l/\op<6/\I9 r
 |lv,.deny t=>if Bi t || AR t then 2<=lv/\right (lv-2) t else 1<=lv/\right (lv-1) t
 |lv,.both a b=>(if AR a then 1<=lv/\right (lv-1) a else right lv a)/\if Bi b || AR b then 1<=lv/\right (lv-1) b else right lv b
 |lv,.any a b=>right lv a/\if AR b then 1<=lv/\right (lv-1) b else right lv b
def Lm (kn:ByteArray->Bool) (l:List Mn):Prop:=∀m∈l,m.var≠eS->kn m.var=true
def knows (kn:ByteArray->Bool):Tr->Prop
 |.leaf _=>True
 |.cmp l _ r=>Lm kn l/\Lm kn r
 |.deny t=>knows kn t
 |.both a b=>knows kn a/\knows kn b
 |.any a b=>knows kn a/\knows kn b
def sg (c:UInt8):PT:=(2,⟨#[c]⟩)
def Mh (m:Mn):List PT:=if m.num=eS then [(1,m.var)] else if m.var=eS then [(3,m.num)] else [(3,m.num),sg 42,(1,m.var)]
def Dp (l:List Mn):List PT:=(l.map fun m=>sg (if m.neg then 45 else 43)::Mh m).flatten
def Gg:List Mn->List PT
 |[]=>[]
 |m::l=>(if m.neg then [sg 45] else [])++(Mh m++Dp l)
def Qe (c:Bool) (l:List PT):List PT:=if c then sg 40::(l++[sg 41]) else l
def pr:Tr->List PT
 |.leaf true=>[(1,⟨#[116,114,117,101]⟩)]
 |.leaf false=>[(1,⟨#[102,97,108,115,101]⟩)]
 |.cmp l op r=>Gg l++(2,Ff op)::Gg r
 |.deny t=>sg 33::Qe (Bi t || AR t) (pr t)
 |.both a b=>Qe (AR a) (pr a)++sg 38::Qe (Bi b || AR b) (pr b)
 |.any a b=>pr a++sg 124::Qe (AR b) (pr b)
theorem Vo {s:ByteArray} (h:Cz s=true) (x:ByteArray) (hx:Cz x=false):decide (s=x)=false:=
 decide_eq_false (fun e=>by rw[e,hx]at h;cases h)
theorem Vp (x s:ByteArray) (r:List PT):AV x ((3,s)::r)=false:=by simp[AV]
theorem TL {s:ByteArray} (h:Cz s=true) (x:ByteArray) (hx:Cz x=false) (r:List PT):AV x ((1,s)::r)=false:=by simp only[AV,Vo h x hx,Bool.false_and]
theorem GY (c:UInt8) (r:List PT):AV ⟨#[c]⟩ (sg c::r)=true:=by simp[AV,sg]
theorem ED (c:UInt8) (x:ByteArray) (hx:x≠⟨#[c]⟩) (r:List PT):AV x (sg c::r)=false:=by
 cases hd:AV x (sg c::r) with
 |false=>rfl
 |true=>
  have h1:decide ((sg c).2=x)=true:=by have h2:(decide ((sg c).2=x)&&((sg c).1==1 || (sg c).1==2 || (sg c).1==4))=true:=hd;rw[Bool.and_eq_true]at h2;exact h2.1
  exact absurd (of_decide_eq_true h1).symm hx
theorem Vq (m:Mn):1<=(Mh m).length:=by
 unfold Mh;split
 · exact Nat.le_refl _
 · split<;>simp
theorem Ln (kn:ByteArray->Bool) (neg:Bool) (m:Mn) (r:List PT) (hm:OH m) (hk:m.var≠eS->kn m.var=true) (hr:AV ⟨#[42]⟩ r=false):Bw kn false neg (Mh m++r)=.ok ⟨m.num,m.var,neg⟩ r:=by
 obtain ⟨h1,h2,h3⟩:=hm;unfold Mh;by_cases hn:m.num=eS
 · have hv:m.var≠eS:=fun e=>h1 ⟨hn,e⟩
   have hv2:=h3.resolve_left hv;rw[if_pos hn];show Bw kn false neg ((1,m.var)::r)=_;rw[Bw];have e1:Br (1,m.var)=true:=(by simp only[Br];rw[hv2];rfl);simp only[e1,hk hv,if_true,Bool.false_eq_true,if_false,show ((1:Nat)==3)=false from rfl];rw[hn];rfl
 · rw[if_neg hn];by_cases hv:m.var=eS
   · rw[if_pos hv];show Bw kn false neg ((3,m.num)::r)=_;rw[Bw];simp only[show ((3:Nat)==3)=true from rfl,if_true,Bool.false_eq_true,if_false,hr];rw[hv];rfl
   · have hv2:=h3.resolve_left hv;rw[if_neg hv];show Bw kn false neg ((3,m.num)::sg 42::(1,m.var)::r)=_;rw[Bw];have e1:Br (1,m.var)=true:=(by simp only[Br];rw[hv2];rfl);simp only[show ((3:Nat)==3)=true from rfl,if_true,Bool.false_eq_true,if_false,GY,List.tail_cons,e1,hk hv]
def Ey (r:List PT):Prop:=AV ⟨#[45]⟩ r=false/\AV ⟨#[43]⟩ r=false/\AV ⟨#[42]⟩ r=false
theorem Ny (c:UInt8) (h1:(⟨#[45]⟩:ByteArray)≠⟨#[c]⟩) (h2:(⟨#[43]⟩:ByteArray)≠⟨#[c]⟩) (h3:(⟨#[42]⟩:ByteArray)≠⟨#[c]⟩) (r:List PT):Ey (sg c::r):=⟨ED c _ h1 r,ED c _ h2 r,ED c _ h3 r⟩
theorem TM (l:List Mn):l.length<=(Dp l).length:=by
 induction l with
 |nil=>exact Nat.le_refl _
 |cons m l ih=>
  have e:Dp (m::l)=sg (if m.neg then 45 else 43)::(Mh m++Dp l):=by simp[Dp]
  rw[e,List.length_cons,List.length_cons,List.length_append];omega
theorem Rj (l:List Mn) (r:List PT) (hr:Ey r):AV ⟨#[42]⟩ (Dp l++r)=false:=by
 cases l with
 |nil=>exact hr.2.2
 |cons m l=>
  have e:Dp (m::l)++r=sg (if m.neg then 45 else 43)::(Mh m++Dp l++r):=by simp[Dp]
  rw[e];cases m.neg
  · exact ED 43 _ (by decide) _
  · exact ED 45 _ (by decide) _
theorem OI (kn:ByteArray->Bool) (l:List Mn):∀(n:Nat) (m:Mn) (acc:List Mn) (r:List PT),l.length<n->acc.length+1+l.length<=64->OH m->(∀x∈l,OH x)->(m.var≠eS->kn m.var=true)->Lm kn l->Ey r ->
  Da kn n m.neg acc (Mh m++(Dp l++r))=.ok (acc++m::l) r:=by
 induction l with
 |nil=>
  intro n m acc r hn hc hm _ hk _ hr;obtain ⟨n,rfl⟩:∃k,n=k+1:=⟨n-1,by simp at hn;omega⟩;have hf:(acc.length==64)=false:=by rw[beq_eq_false_iff_ne];simp at hc;omega
  rw[Da,hf];show (match Bw kn false m.neg (Mh m++r) with|.fuel=>Out.fuel|.err c r1=>Out.err c r1|.ok x r1=>if AV ⟨#[45]⟩ r1 then Da kn n true (acc++[x]) r1.tail else if AV ⟨#[43]⟩ r1 then Da kn n false (acc++[x]) r1.tail else .ok (acc++[x]) r1)=_;rw[Ln kn m.neg m r hm hk hr.2.2];dsimp only
  rw[if_neg (by rw[hr.1];decide),if_neg (by rw[hr.2.1];decide)]
 |cons y l ih=>
  intro n m acc r hn hc hm hl hk hkl hr;obtain ⟨n,rfl⟩:∃k,n=k+1:=⟨n-1,by omega⟩;simp only[List.length_cons]at hn hc;have hf:(acc.length==64)=false:=by rw[beq_eq_false_iff_ne];omega
  rw[Da,hf,Ln kn m.neg m _ hm hk (Rj (y::l) r hr)];have e:Dp (y::l)++r=sg (if y.neg then 45 else 43)::(Mh y++(Dp l++r)):=by simp[Dp]
  have hx:(⟨m.num,m.var,m.neg⟩:Mn)=m:=rfl;have hi:=ih n y (acc++[m]) r (by omega) (by rw[List.length_append,List.length_cons,List.length_nil];omega) (hl y (List.mem_cons_self ..)) (fun x hx=>hl x (List.mem_cons_of_mem _ hx)) (hkl y (List.mem_cons_self ..)) (fun x hx=>hkl x (List.mem_cons_of_mem _ hx)) hr;dsimp only
  rw[e,hx];cases hy:y.neg with
  |true=>
   rw[hy]at hi;rw[if_pos rfl,if_pos (GY 45 _),List.tail_cons,hi,List.append_assoc];rfl
  |false=> rw[hy]at hi;simp only[Bool.false_eq_true,if_false];rw[if_neg (by rw[ED 43 _ (by decide)];decide),if_pos (GY 43 _),List.tail_cons,hi,List.append_assoc];rfl
theorem Lo (m:Mn) (hm:OH m) (x:ByteArray) (hx:Cz x=false) (r:List PT):AV x (Mh m++r)=false:=by
 obtain ⟨h1,h2,h3⟩:=hm;unfold Mh;by_cases hn:m.num=eS
 · have hv:m.var≠eS:=fun e=>h1 ⟨hn,e⟩
   rw[if_pos hn];exact TL (h3.resolve_left hv) x hx r
 · rw[if_neg hn];split<;>exact Vp x _ _
theorem Nz (kn:ByteArray->Bool) (l:List Mn) (r:List PT) (hl:I9 l) (hk:Lm kn l) (hr:Ey r):Bv kn (Gg l++r)=.ok l r:=by
 obtain ⟨h1,h2,h3⟩:=hl;cases l with
 |nil=>simp at h1
 |cons m l=>
  simp only[List.length_cons]at h2;have hm:=h3 m (List.mem_cons_self ..);have hlr:=TM l;have hml:=Vq m;have hgo:=fun n hn=>OI kn l n m [] r hn (by simp;omega) hm (fun x hx=>h3 x (List.mem_cons_of_mem _ hx)) (hk m (List.mem_cons_self ..)) (fun x hx=>hk x (List.mem_cons_of_mem _ hx)) hr
  unfold Bv;cases hng:m.neg with
  |true=>
   have e:Gg (m::l)++r=sg 45::(Mh m++(Dp l++r)):=(by simp[Gg,hng]);rw[e,if_pos (GY 45 _),List.tail_cons];have:=hgo ((sg 45::(Mh m++(Dp l++r))).length+1) (by simp only[List.length_cons,List.length_append];omega);rw[hng]at this;exact this
  |false=> have e:Gg (m::l)++r=Mh m++(Dp l++r):=(by simp[Gg,hng]);rw[e,if_neg (by rw[Lo m hm ⟨#[45]⟩ (by decide +kernel)];decide)];have:=hgo ((Mh m++(Dp l++r)).length+1) (by simp only[List.length_append];omega);rw[hng]at this;exact this
theorem OJ (l:List Mn) (hl:I9 l) (x:ByteArray) (hx:Cz x=false) (h45:x≠⟨#[45]⟩) (r:List PT):AV x (Gg l++r)=false:=by
 obtain ⟨h1,h2,h3⟩:=hl;cases l with
 |nil=>simp at h1
 |cons m l=>
  have hm:=h3 m (List.mem_cons_self ..);cases hng:m.neg with
  |true=>
   have e:Gg (m::l)++r=sg 45::(Mh m++(Dp l++r)):=(by simp[Gg,hng]);rw[e];exact ED 45 x h45 _
  |false=> have e:Gg (m::l)++r=Mh m++(Dp l++r):=(by simp[Gg,hng]);rw[e];exact Lo m hm x hx _
end
end Go.Proofs.YtgohmojcopajoaaGreatDoor.Ex
