/- Texts of one seat, put together: ConcatP TermC RCoef InsertP RVars RPlain. -/
import Derived.Test.YtemfjdedjcjegaaGreatDoorL14
set_option linter.unusedVariables false
set_option linter.unusedSimpArgs false
set_option maxRecDepth 100000
set_option maxHeartbeats 16000000
namespace Go.Proofs.YtemfjdedjcjegaaGreatDoor
section
open Go.RowKit
open Tm
theorem FE {P:Program} {w:World} (base:Nat) (t ty e:TypeId) (i:TypeInfo) (size:Nat) (ht:P.underlying t=some (.slice e)) (hi:P.info? e=some i)
   (v:Value) (n c:Nat) (xs:List Value) (hown:Az e size w base v n xs):(Builtin.append_ #[t,t] ty #[v,.slice none 0 c]).run P w=.ok v w:=by
 rcases hown.2 with ⟨rfl,rfl⟩|⟨g,cap,cur,rfl,_,_,hnc,_⟩
 · simp[Builtin.append_,run_underlying ht,sizeOf,typeInfo,hi,Builtin.lenOf,Builtin.firstCells]
 · simp[Builtin.append_,run_underlying ht,sizeOf,typeInfo,hi,Builtin.lenOf,Builtin.firstCells,hnc,storeCells]
theorem Cg {w:World} {ops:Array Oper} {rest:List Oper} {o:Oper} {a:Act} {Q:Exit->Act->World->Prop} (hgd:o.guard=none) (s x:Operand)
   (ho:o.op=.call { callee:=.builtin .append,args:=#[s,x],argTypes:=#[27,27] }) (base:Nat) (v:Value) (ps:List PV) (hs:a.eval s=v) (hown:Az 59 3 w base v ps.length (flat ps))
   (A:Option Addr) (m c k:Nat) (qs:List PV) (hx:a.eval x=.slice A m c) (hq:AC w A m qs k) (hn:ps.length+m<=1099511627776) (hbase:base<=w.heap.size)
   (h:∀v' w',Az 59 3 w' base v' (ps++qs).length (flat (ps++qs))->w.grownBy w' v.ownBlock->wpList Tryz.prog ops Q rest (a.put o.dst v') w'):wpList Tryz.prog ops Q (o::rest) a w:=by
 rcases A with _|⟨b,q,sp⟩
 · obtain rfl:m=0:=by
     rcases Nat.eq_zero_or_pos m with h0|h0
     · exact h0
     · obtain ⟨b,o,e,-⟩:=hq.2.1 h0;cases e
   obtain rfl:qs=[]:=List.eq_nil_of_length_eq_zero hq.1;obtain ⟨i0,hi0,hz0,hz1,hz2⟩:=info_parts DK;refine wpList_plain hgd fun K hK=>?_
   have hrun:=FE (P:=Tryz.prog) (w:=w) base 27 o.type 59 i0 3 Tryz.underlying27 hi0 v ps.length c (flat ps) hown;unfold Oper.wp;rw[AW ho hs hx hrun];exact hK _ _ (h v w (by rw[List.append_nil];exact hown) ⟨rfl,rfl,rfl,Nat.le_refl _,fun _ _ _=>rfl⟩)
 · rcases Nat.eq_zero_or_pos m with h0|h0
   · subst h0;obtain rfl:qs=[]:=List.eq_nil_of_length_eq_zero hq.1;obtain ⟨i0,hi0,hz0,hz1,hz2⟩:=info_parts DK;exact Cz hgd s x 27 ho base 59 i0 _ 3 40 Tryz.underlying27 hi0 hz0 hz1 hz2 rfl (by decide) Cd v ps.length (flat ps) hs hown ⟨b,q,sp⟩ 0 c [] hx rfl
       (fun j u hu=>by simp at hu) (fun u hu=>by cases hu) (fun u hu=>by cases hu) (by unfold maxLen;omega) (by omega) hbase (fun v' w' h1 h2=>h v' w' (by rw[List.append_nil];simpa using h1) h2)
   · obtain ⟨b',q',e,hc⟩:=hq.2.1 h0;injection e with e
     injection e with e1 e2 e3
     subst e1 e2 e3;exact AQ hgd s x ho base v ps hs hown b q m c qs hx hq.1 hc hn hbase h
def Nc (ps qs:List PV) (k:Nat) (w:World) (e:Ending) (w':World):Prop:=∃A n c,e=.returned (.slice A n c)/\AC w' A n (ps++qs) k/\n<=c/\c<=9223372036854775807/\Below w.heap.size w w'
theorem IB (gs cs:Nat) (A B:Option Addr) (n c m d k:Nat) (ps qs:List PV) (w:World) (h0:w.cell? ⟨gs,0,none⟩=some (.slice A n c)) (h1:w.cell? ⟨gs,1,none⟩=some (.slice B m d)) (hp:AC w A n ps k) (hq:AC w B m qs k) (hn:n<=500000) (hm:m<=500000) :
  Calls Tryz.prog 121 #[.slice (some ⟨gs,0,none⟩) 2 cs] w (Nc ps qs k w):=by
 have hpl:=Ad hp.1;have hql:=Ad hq.1;have hlt:=World.block_lt_of_cell? w _ h0;go_enter Tryz.func121,Tryz.ntmps121;go_wp2_with fail;go_loop [3,11] (fun s i=>∃q t:Nat,i=.int .i64 q/\s=.int .i64 t/\((q=0/\t=0)\/(q=1/\t=n)\/(q=2/\t=n+m))) (fun _ i=>2-(intOf i).toNat)
 case atStart=>exact ⟨0,0,rfl,rfl,.inl ⟨rfl,rfl⟩⟩
 case round=>
  obtain ⟨q,t,rfl,rfl,⟨rfl,rfl⟩|⟨rfl,rfl⟩|⟨rfl,rfl⟩⟩:=hrel
  · go_wp2_with fail;go_round
    case rel=>exact ⟨1,n,by go_num,by go_num,.inr (.inl ⟨rfl,rfl⟩)⟩
    case measure=>simp[intOf]<;>omega
  · go_wp2_with fail;go_round
    case rel=>exact ⟨2,t+m,by go_num,by go_num,.inr (.inr ⟨rfl,rfl⟩)⟩
    case measure=>simp[intOf]<;>omega
  · have hgr:=fun W=>Gq (n+m) W (by omega)
    have e2:((n+m:Nat):Int)=(n:Int)+(m:Int):=(by omega);rw[e2]at hgr;clear e2;go_wp2_with fail;refine (hgr _).mono ?_;rintro e w1 ⟨A1,c1,rfl,l1,b1⟩;have HP:=Ad hp;have HQ:=Ad hq;have H0:=Ad h0;have H1:=Ad h1;have HL:=Ad l1;have HB:=Ad b1;clear hp hq h0 h1 hgr l1 b1;go_wp2_with fail
    go_loopw [6,27] (fun v i wr=>∃(q:Nat) (rs:List PV),i=.int .i64 q/\Hid (Az 59 3 wr w.heap.size v rs.length (flat rs))/\Hid (Below w.heap.size w wr)/\((q=0/\rs=[])\/(q=1/\rs=ps)\/(q=2/\rs=ps++qs))) (fun _ i _=>2-(intOf i).toNat)
    case atStart=>exact ⟨0,[],rfl,HL,HB,.inl ⟨rfl,rfl⟩⟩
    case round=>
     obtain ⟨q,rs,rfl,HR,hB2,⟨rfl,rfl⟩|⟨rfl,rfl⟩|⟨rfl,rfl⟩⟩:=hrel
     · have y0:=(hB2.out.cell (p:=⟨gs,0,none⟩) hlt).trans H0.out;go_wp2_with (at_builtin;refine Cg rfl _ _ rfl w.heap.size _ [] rfl HR.out A n c k ps rfl (HP.out.below hB2.out) (by simp;omega) hB2.out.size ?_;intro v' w2 l2 g2);have HL2:=Ad (show Az 59 3 w2 w.heap.size v' ps.length (flat ps) by simpa using l2);have HB2:=Ad (HR.out.old hB2.out g2 (Nat.le_refl _) (Nat.le_refl _));clear l2 g2 y0;go_wp2_with fail;go_roundw
       case rel=>exact ⟨1,ps,by go_num,HL2,HB2,.inr (.inl ⟨rfl,rfl⟩)⟩
       case measure=>simp[intOf]<;>omega
     · have y1:=(hB2.out.cell (p:=⟨gs,1,none⟩) hlt).trans H1.out;have hle:rs.length+m<=1099511627776:=(by have:=hpl.out;omega);go_wp2_with (at_builtin;refine Cg rfl _ _ rfl w.heap.size _ rs rfl HR.out B m d k qs rfl (HQ.out.below hB2.out) hle hB2.out.size ?_;intro v' w2 l2 g2);have HL2:=Ad (show Az 59 3 w2 w.heap.size v' (rs++qs).length (flat (rs++qs)) by simpa using l2);have HB2:=Ad (HR.out.old hB2.out g2 (Nat.le_refl _) (Nat.le_refl _));clear l2 g2 y1;go_wp2_with fail
       go_roundw
       case rel=>exact ⟨2,rs++qs,by go_num,HL2,HB2,.inr (.inr ⟨rfl,rfl⟩)⟩
       case measure=>simp[intOf]<;>omega
     · obtain ⟨A9,c9,rfl,h91,h92,-⟩:=HR.out.len;have HX:=Ad (HR.out.parts rfl (fun p hp=>by
        rcases List.mem_append.1 hp with h|h
        · exact (HP.out.2.2 p h).below hB2.out
        · exact (HQ.out.2.2 p h).below hB2.out))
       clear HR;go_wp2_with fail;go_ret
       exact ⟨A9,_,c9,rfl,HX.out,h91,h92,hB2.out⟩
end
section
open Go.RowKit
open Tm
theorem QG (v u:Value) (L M:List (Int×Int)) (K KM:Int) (k:Nat) (w0:World) (hv:Dw w0 v L K k) (hu:Dw w0 u M KM k) (hl:L.length<=500000) (hm:M.length<=500000) (hk:k<=109951162) :
   Calls Tryz.prog 83 #[v,u] w0 (Bm (norm (L++M)) (K+KM) (k+1+(L.length+M.length)) w0):=by
 obtain ⟨A,n,c,s,B,m,d,rfl,⟨ps,hps,rfl⟩,hc1,hc2,hK⟩:=hv;obtain ⟨A2,n2,c2,s2,B2,m2,d2,rfl,⟨qs,hqs,rfl⟩,hc3,hc4,hK2⟩:=hu;have hn:n<=500000:=by have:=hps.1;unfold Ca at hl;rw[List.length_map]at hl;omega
 have hn2:n2<=500000:=by have:=hqs.1;unfold Ca at hm;rw[List.length_map]at hm;omega
 have HLL:=Ad (show (Ca ps).length=ps.length/\(Ca qs).length=qs.length from ⟨by simp[Ca],by simp[Ca]⟩);obtain ⟨z0,z1,z2,z3,z4⟩:=BQ 33 33 33 w0 #[.slice A n c,.bool s,.slice B m d] #[.slice A2 n2 c2,.bool s2,.slice B2 m2 d2] #[.slice none 0 0,.bool false,.slice none 0 0];go_enter Tryz.func83,Tryz.ntmps83;go_wp2_with fail
 generalize hW0:(((w0.alloc (.cells #[.slice A n c,.bool s,.slice B m d] 33)).alloc (.cells #[.slice A2 n2 c2,.bool s2,.slice B2 m2 d2] 33)).alloc (.cells #[.slice none 0 0,.bool false,.slice none 0 0] 33))=W0 at *;clear hW0;have HPA:=Ad (hps.below z3);have HPB:=Ad (hqs.below z3);have HKA:=Ad (hK.below z3);have HKB:=Ad (hK2.below z3);have R0:=Ad z2;have T0:=Ad z3
 have HPL:=Ad (fun W v (h:Dw W v (Ca (ps++qs)) (K+KM) (k+1))=>(show Calls Tryz.prog 39 #[v] W (Bm (norm (Ca (ps++qs))) (K+KM) (k+1+(ps.length+qs.length)) W) from by have h1:=Dh v _ _ (k+1) W h (by rw[Bi,List.length_append,HLL.out.1,HLL.out.2];have:=hps.1;have:=hqs.1;omega) (by omega);rw[Bi,List.length_append,HLL.out.1,HLL.out.2]at h1;rw[Bi];exact h1))
 unfold Bm at HPL
 have SOF:=Ad (show ∀W,Below W0.heap.size W0 W->(W.cell? ⟨w0.heap.size,0,none⟩=some (.slice A n c)/\W.cell? ⟨w0.heap.size,1,none⟩=some (.bool s)/\W.cell? ⟨w0.heap.size,2,none⟩=some (.slice B m d)/\W.cell? ⟨w0.heap.size+1,0,none⟩=some (.slice A2 n2 c2)/\W.cell? ⟨w0.heap.size+1,1,none⟩=some (.bool s2)/\W.cell? ⟨w0.heap.size+1,2,none⟩=some (.slice B2 m2 d2)) from fun W h=>⟨(z0.next h).c0,(z0.next h).c1,(z0.next h).c2,(z1.next h).c0,(z1.next h).c1,(z1.next h).c2⟩)
 clear z0 z1 z2 z3 z4 hps hqs hK hK2
 refine AJ (by kernel_rfl) (by kernel_rfl) (by kernel_rfl) (by kernel_rfl) (fun w w'=>Below w.heap.size w w') (fun j v w=>match j with|0=>v=.pointer (some ⟨w0.heap.size,0,none⟩)|1=>v=.slice A n c|2=>v=.pointer (some ⟨w0.heap.size+1,0,none⟩)|3=>v=.slice A2 n2 c2|4=>∃gs,v=.slice (some ⟨gs,0,none⟩) 2 2/\Aw 27 w gs #[.slice A n c,.slice A2 n2 c2]|5=>∃A n c,v=.slice A n c/\AC w A n (ps++qs) k/\n<=c/\c<=9223372036854775807|6=>v=.pointer (some ⟨w0.heap.size,1,none⟩)|7=>v=.agg #[.bool s,.slice B m d]|8=>v=.pointer (some ⟨w0.heap.size+1,1,none⟩)|9=>v=.agg #[.bool s2,.slice B2 m2 d2]|10=>∃s B m d,v=.agg #[.bool s,.slice B m d]/\Au w (.agg #[.bool s,.slice B m d]) (K+KM) (k+1)|11=>Dw w v (Ca (ps++qs)) (K+KM) (k+1)|12=>An w v (norm (Ca (ps++qs))) (K+KM) (k+1+(ps.length+qs.length))|_=>True) (fun _ _ w=>Below W0.heap.size W0 w) ?_ (fun _=>Ak W0 1) ?_ ?_
 · intro j v w w' hT h;match j,h with
   |0,h=>exact h
   |1,h=>exact h
   |2,h=>exact h
   |3,h=>exact h
   |4,h=>exact (by obtain ⟨g,e,h2⟩:=h;exact ⟨g,e,h2.next hT⟩)
   |5,h=>exact (by obtain ⟨A,n,c,e,h1,h2,h3⟩:=h;exact ⟨A,n,c,e,h1.below hT,h2,h3⟩)
   |6,h=>exact h
   |7,h=>exact h
   |8,h=>exact h
   |9,h=>exact h
   |10,h=>exact (by obtain ⟨s,B,m,d,e,z⟩:=h;exact ⟨s,B,m,d,e,z.below hT⟩)
   |11,h=>exact h.below hT
   |12,h=>exact h.below hT
   |j+13,h=>trivial
 · refine ⟨?_,?_,?_,?_,?_,?_,?_,?_,?_,?_,?_,?_,?_,trivial⟩
   · intro listed σ w a hin hout hl hla hs hc hp hG hF;refine Ac.none rfl ?_;have e2:a.tmps.getD 2 undef=.pointer (some ⟨w0.heap.size,0,none⟩):=hout 2 (Af (by kernel_rfl));refine Does.val (.pointer (some ⟨w0.heap.size,0,none⟩)) (w':=w) ?_ ⟨Below.refl _ _,rfl,hG⟩;simp only[Array.getD_eq_getD_getElem?]at e2;go_simp
   · intro listed σ w a hin hout hl hla hs hc hp hG hF;refine Ac.none rfl ?_;have e5:a.tmps.getD 5 undef=.pointer (some ⟨w0.heap.size,0,none⟩):=(hin 0 5 rfl (hp ⟨0,.data⟩ (by simp) rfl)).trans (hF 0 (hp ⟨0,.data⟩ (by simp) rfl));have CC:=SOF.out w hG;obtain ⟨C0,C1,C2,D0,D1,D2⟩:=CC;refine Does.val (.slice A n c) (w':=w) ?_ ⟨Below.refl _ _,rfl,hG⟩;go_simp
   · intro listed σ w a hin hout hl hla hs hc hp hG hF;refine Ac.none rfl ?_;have e3:a.tmps.getD 3 undef=.pointer (some ⟨w0.heap.size+1,0,none⟩):=hout 3 (Af (by kernel_rfl));refine Does.val (.pointer (some ⟨w0.heap.size+1,0,none⟩)) (w':=w) ?_ ⟨Below.refl _ _,rfl,hG⟩;simp only[Array.getD_eq_getD_getElem?]at e3;go_simp
   · intro listed σ w a hin hout hl hla hs hc hp hG hF;refine Ac.none rfl ?_;have e7:a.tmps.getD 7 undef=.pointer (some ⟨w0.heap.size+1,0,none⟩):=(hin 2 7 rfl (hp ⟨2,.data⟩ (by simp) rfl)).trans (hF 2 (hp ⟨2,.data⟩ (by simp) rfl));have CC:=SOF.out w hG;obtain ⟨C0,C1,C2,D0,D1,D2⟩:=CC;refine Does.val (.slice A2 n2 c2) (w':=w) ?_ ⟨Below.refl _ _,rfl,hG⟩;go_simp
   · intro listed σ w a hin hout hl hla hs hc hp hG hF;refine Ac.none rfl ?_;have e6:a.tmps.getD 6 undef=.slice A n c:=(hin 1 6 rfl (hp ⟨1,.data⟩ (by simp) rfl)).trans (hF 1 (hp ⟨1,.data⟩ (by simp) rfl));have e8:a.tmps.getD 8 undef=.slice A2 n2 c2:=(hin 3 8 rfl (hp ⟨3,.data⟩ (by simp) rfl)).trans (hF 3 (hp ⟨3,.data⟩ (by simp) rfl))
     refine Does.val (.slice (some ⟨w.heap.size,0,none⟩) 2 2) (w':=w.alloc (.cells #[.slice A n c,.slice A2 n2 c2] 27)) ?_ ⟨Ae w _,⟨w.heap.size,rfl,Aw.new _ _ _⟩,hG.next (Ae w _)⟩;simp only[Array.getD_eq_getD_getElem?]at e6 e8;go_simp
   · intro listed σ w a hin hout hl hla hs hc hp hG hF;refine Ac.none rfl ?_;have e9:=hin 4 9 rfl (hp ⟨4,.data⟩ (by simp) rfl);obtain ⟨g4,ev4,x4⟩:=hF 4 (hp ⟨4,.data⟩ (by simp) rfl);rw[ev4]at e9;refine Does.call ?_ (IB g4 2 A A2 n c n2 c2 k ps qs w (x4.cell 0 _ rfl) (x4.cell 1 _ rfl) (HPA.out.below hG) (HPB.out.below hG) hn hn2) ?_
     · go_simp
     · rintro e w' ⟨A,n,c,rfl,hp,h1,h2,hb⟩;exact ⟨_,rfl,hb,⟨A,n,c,rfl,hp,h1,h2⟩,hG.next hb⟩
   · intro listed σ w a hin hout hl hla hs hc hp hG hF;refine Ac.none rfl ?_;have e2:a.tmps.getD 2 undef=.pointer (some ⟨w0.heap.size,0,none⟩):=hout 2 (Af (by kernel_rfl));refine Does.val (.pointer (some ⟨w0.heap.size,1,none⟩)) (w':=w) ?_ ⟨Below.refl _ _,rfl,hG⟩;simp only[Array.getD_eq_getD_getElem?]at e2;go_simp
   · intro listed σ w a hin hout hl hla hs hc hp hG hF;refine Ac.none rfl ?_;have e11:a.tmps.getD 11 undef=.pointer (some ⟨w0.heap.size,1,none⟩):=(hin 6 11 rfl (hp ⟨6,.data⟩ (by simp) rfl)).trans (hF 6 (hp ⟨6,.data⟩ (by simp) rfl));have CC:=SOF.out w hG;obtain ⟨C0,C1,C2,D0,D1,D2⟩:=CC;refine Does.val (.agg #[.bool s,.slice B m d]) (w':=w) ?_ ⟨Below.refl _ _,rfl,hG⟩;go_simp
   · intro listed σ w a hin hout hl hla hs hc hp hG hF;refine Ac.none rfl ?_;have e3:a.tmps.getD 3 undef=.pointer (some ⟨w0.heap.size+1,0,none⟩):=hout 3 (Af (by kernel_rfl));refine Does.val (.pointer (some ⟨w0.heap.size+1,1,none⟩)) (w':=w) ?_ ⟨Below.refl _ _,rfl,hG⟩;simp only[Array.getD_eq_getD_getElem?]at e3;go_simp
   · intro listed σ w a hin hout hl hla hs hc hp hG hF;refine Ac.none rfl ?_;have e13:a.tmps.getD 13 undef=.pointer (some ⟨w0.heap.size+1,1,none⟩):=(hin 8 13 rfl (hp ⟨8,.data⟩ (by simp) rfl)).trans (hF 8 (hp ⟨8,.data⟩ (by simp) rfl));have CC:=SOF.out w hG;obtain ⟨C0,C1,C2,D0,D1,D2⟩:=CC;refine Does.val (.agg #[.bool s2,.slice B2 m2 d2]) (w':=w) ?_ ⟨Below.refl _ _,rfl,hG⟩;go_simp
   · intro listed σ w a hin hout hl hla hs hc hp hG hF;refine Ac.none rfl ?_;have e12:a.tmps.getD 12 undef=.agg #[.bool s,.slice B m d]:=(hin 7 12 rfl (hp ⟨7,.data⟩ (by simp) rfl)).trans (hF 7 (hp ⟨7,.data⟩ (by simp) rfl));have e14:a.tmps.getD 14 undef=.agg #[.bool s2,.slice B2 m2 d2]:=(hin 9 14 rfl (hp ⟨9,.data⟩ (by simp) rfl)).trans (hF 9 (hp ⟨9,.data⟩ (by simp) rfl))
     refine Does.call ?_ (JL (.agg #[.bool s,.slice B m d]) (.agg #[.bool s2,.slice B2 m2 d2]) K KM k w (HKA.out.below hG) (HKB.out.below hG) (by omega)) ?_
     · go_simp
     · rintro e w' ⟨v,rfl,z,hb⟩;exact ⟨_,rfl,hb,(by obtain ⟨s,B,m,d,rfl⟩:=z.form;exact ⟨s,B,m,d,rfl,z⟩),hG.next hb⟩
   · intro listed σ w a hin hout hl hla hs hc hp hG hF;refine Ac.none rfl ?_;have e10:=hin 5 10 rfl (hp ⟨5,.data⟩ (by simp) rfl);obtain ⟨A5,n5,c5,ev5,p5,q5,r5⟩:=hF 5 (hp ⟨5,.data⟩ (by simp) rfl);rw[ev5]at e10;have e15:=hin 10 15 rfl (hp ⟨10,.data⟩ (by simp) rfl);obtain ⟨s10,B10,m10,d10,ev10,z10⟩:=hF 10 (hp ⟨10,.data⟩ (by simp) rfl);rw[ev10]at e15
     refine Does.val (.agg #[.slice A5 n5 c5,.bool s10,.slice B10 m10 d10]) (w':=w) ?_ ⟨Below.refl _ _,⟨A5,n5,c5,s10,B10,m10,d10,rfl,⟨_,p5.mono (by omega),rfl⟩,q5,r5,z10.in_⟩,hG⟩;simp only[Array.getD_eq_getD_getElem?]at e10 e15;go_simp
   · intro listed σ w a hin hout hl hla hs hc hp hG hF;refine Ac.none rfl ?_;have e16:=hin 11 16 rfl (hp ⟨11,.data⟩ (by simp) rfl);have z11:=hF 11 (hp ⟨11,.data⟩ (by simp) rfl);refine Does.call ?_ (HPL.out w _ z11) ?_
     · go_simp
     · rintro e w' ⟨v,rfl,z,hb⟩;exact ⟨_,rfl,hb,z,hG.next hb⟩
 · intro o ho;injection ho with ho;subst ho
   intro listed σ w a hall hin hout hG hF;refine Ac.none rfl ?_;have e4:a.tmps.getD 4 undef=.pointer (some ⟨w0.heap.size+1+1,0,none⟩):=hout 4 (LC (by kernel_rfl));have e17:=hin 12 17 rfl (by decide);have z12:=hF 12 (by decide);have z12:=hF 12 (by decide);obtain ⟨A8,n8,c8,s8,B8,m8,d8,ev8⟩:=An.form z12;rw[ev8]at e17 z12;have HR8:=Ad (R0.out.next hG);have HT8:=Ad (T0.out.next hG)
   refine Does.store_box (T:=33) (cells:=#[.slice A8 n8 c8,.bool s8,.slice B8 m8 d8]) rfl e4 e17 HR8.out (by kernel_rfl) rfl (by simp[Value.oneCell']) (fun w2 x9 o9=>?_)
   rw[show fin _ σ undef _=(Act.put (Act.put (Act.put (Act.put (Act.put (Act.put (Act.put (Act.put (Act.put (Act.put (Act.put (Act.put (Act.put (Act.put _ (some 5) (σ 0)) (some 6) (σ 1)) (some 7) (σ 2)) (some 8) (σ 3)) (some 9) (σ 4)) (some 10) (σ 5)) (some 11) (σ 6)) (some 12) (σ 7)) (some 13) (σ 8)) (some 14) (σ 9)) (some 15) (σ 10)) (some 16) (σ 11)) (some 17) (σ 12)) none undef) from (Bn hall).trans rfl]
   simp only[Act.put,List.setIfInBounds_toArray,List.set_cons_zero,List.set_cons_succ];have HZ8:=Ad (z12.only HR8.out o9);have HO:=Ad o9;generalize σ 0=tt0 at *;generalize σ 1=tt1 at *;generalize σ 2=tt2 at *;generalize σ 3=tt3 at *;generalize σ 4=tt4 at *;generalize σ 5=tt5 at *;generalize σ 6=tt6 at *;generalize σ 7=tt7 at *;generalize σ 8=tt8 at *;generalize σ 9=tt9 at *;generalize σ 10=tt10 at *;generalize σ 11=tt11 at *;generalize σ 12=tt12 at *
   clear hF hG hall hin hout SOF z12 o9 e4 e17 ev8;go_wp2_with fail;refine Bw rfl rfl x9 rfl ?_;exact Bm.eq (Bm.mono ⟨_,rfl,HZ8.out,AH HT8.out (by omega) HO.out⟩ (by have:=HLL.out;omega)) (by rw[Bi]) rfl
theorem DW (v u:Value) (L M:List (Int×Int)) (K KM:Int) (k:Nat) (w0:World) (hv:Dw w0 v L K k) (hu:Dw w0 u M KM k) (hl:L.length<=500000) (hm:M.length<=500000) (hk:k<=10995116) :
   Calls Tryz.prog 45 #[v,u] w0 (Bm (norm (L++M.map fun p=>(p.1,-1*p.2))) (K-KM) (k+M.length+1+(L.length+M.length)) w0):=by
 have hv0:=hv;have hu0:=hu;obtain ⟨A,n,c,s,B,m,d,rfl,-⟩:=hv;obtain ⟨A2,n2,c2,s2,B2,m2,d2,rfl,-⟩:=hu;obtain ⟨z0,z1,z2,z3,z4⟩:=BQ 33 33 33 w0 #[.slice A n c,.bool s,.slice B m d] #[.slice A2 n2 c2,.bool s2,.slice B2 m2 d2] #[.slice none 0 0,.bool false,.slice none 0 0];go_enter Tryz.func45,Tryz.ntmps45;go_wp2_with fail
 generalize hW0:(((w0.alloc (.cells #[.slice A n c,.bool s,.slice B m d] 33)).alloc (.cells #[.slice A2 n2 c2,.bool s2,.slice B2 m2 d2] 33)).alloc (.cells #[.slice none 0 0,.bool false,.slice none 0 0] 33))=W0 at *;clear hW0;have HB:=Ad (hu0.below z3);have HA:=Ad (hv0.below z3);have R0:=Ad z2;have T0:=Ad z3
 have HAD:=Ad (fun W v (h:An W v (norm (M.map fun p=>(p.1,-1*p.2))) (-KM) (k+M.length)) (hb:Below W0.heap.size W0 W)=>(show Calls Tryz.prog 83 #[.agg #[.slice A n c,.bool s,.slice B m d],v] W (Bm (norm (L++norm (M.map fun p=>(p.1,-1*p.2)))) (K+-KM) (k+M.length+1+(L.length+M.length)) W) from by have hq:=AR (M.map fun p=>(p.1,-1*p.2));rw[List.length_map]at hq;exact (QG _ v L _ K (-KM) (k+M.length) W ((HA.out.below hb).mono (by omega)) h.in_ hl (by omega) (by omega)).mono (fun e w' h=>h.mono (by omega))))
 unfold Bm at HAD
 have SOF:=Ad (show ∀W,Below W0.heap.size W0 W->(W.cell? ⟨w0.heap.size,0,none⟩=some (.slice A n c)/\W.cell? ⟨w0.heap.size,1,none⟩=some (.bool s)/\W.cell? ⟨w0.heap.size,2,none⟩=some (.slice B m d)/\W.cell? ⟨w0.heap.size+1,0,none⟩=some (.slice A2 n2 c2)/\W.cell? ⟨w0.heap.size+1,1,none⟩=some (.bool s2)/\W.cell? ⟨w0.heap.size+1,2,none⟩=some (.slice B2 m2 d2)) from fun W h=>⟨(z0.next h).c0,(z0.next h).c1,(z0.next h).c2,(z1.next h).c0,(z1.next h).c1,(z1.next h).c2⟩)
 clear z0 z1 z2 z3 z4 hv0 hu0
 refine AJ (by kernel_rfl) (by kernel_rfl) (by kernel_rfl) (by kernel_rfl) (fun w w'=>Below w.heap.size w w') (fun j v w=>match j with|0=>v=.agg #[.slice A n c,.bool s,.slice B m d]|1=>v=.agg #[.slice A2 n2 c2,.bool s2,.slice B2 m2 d2]|2=>An w v (norm (M.map fun p=>(p.1,-1*p.2))) (-KM) (k+M.length)|3=>An w v (norm (L++norm (M.map fun p=>(p.1,-1*p.2)))) (K+-KM) (k+M.length+1+(L.length+M.length))|_=>True) (fun _ _ w=>Below W0.heap.size W0 w) ?_ (fun _=>Ak W0 1) ?_ ?_
 · intro j v w w' hT h;match j,h with
   |0,h=>exact h
   |1,h=>exact h
   |2,h=>exact h.below hT
   |3,h=>exact h.below hT
   |j+4,h=>trivial
 · refine ⟨?_,?_,?_,?_,trivial⟩
   · intro listed σ w a hin hout hl hla hs hc hp hG hF;refine Ac.none rfl ?_;have e2:a.tmps.getD 2 undef=.pointer (some ⟨w0.heap.size,0,none⟩):=hout 2 (Af (by kernel_rfl));have CC:=SOF.out w hG;obtain ⟨C0,C1,C2,D0,D1,D2⟩:=CC;refine Does.val (.agg #[.slice A n c,.bool s,.slice B m d]) (w':=w) ?_ ⟨Below.refl _ _,rfl,hG⟩;go_simp
   · intro listed σ w a hin hout hl hla hs hc hp hG hF;refine Ac.none rfl ?_;have e3:a.tmps.getD 3 undef=.pointer (some ⟨w0.heap.size+1,0,none⟩):=hout 3 (Af (by kernel_rfl));have CC:=SOF.out w hG;obtain ⟨C0,C1,C2,D0,D1,D2⟩:=CC;refine Does.val (.agg #[.slice A2 n2 c2,.bool s2,.slice B2 m2 d2]) (w':=w) ?_ ⟨Below.refl _ _,rfl,hG⟩;go_simp
   · intro listed σ w a hin hout hl hla hs hc hp hG hF;refine Ac.none rfl ?_;have e6:a.tmps.getD 6 undef=.agg #[.slice A2 n2 c2,.bool s2,.slice B2 m2 d2]:=(hin 1 6 rfl (hp ⟨1,.data⟩ (by simp) rfl)).trans (hF 1 (hp ⟨1,.data⟩ (by simp) rfl));refine Does.call ?_ (Gt _ M KM k w (HB.out.below hG) (by omega) (by omega)) ?_
     · go_simp
     · rintro e w' ⟨v,rfl,z,hb⟩;exact ⟨_,rfl,hb,z,hG.next hb⟩
   · intro listed σ w a hin hout hl hla hs hc hp hG hF;refine Ac.none rfl ?_;have e5:a.tmps.getD 5 undef=.agg #[.slice A n c,.bool s,.slice B m d]:=(hin 0 5 rfl (hp ⟨0,.data⟩ (by simp) rfl)).trans (hF 0 (hp ⟨0,.data⟩ (by simp) rfl));have e7:=hin 2 7 rfl (hp ⟨2,.data⟩ (by simp) rfl);have z2:=hF 2 (hp ⟨2,.data⟩ (by simp) rfl);refine Does.call ?_ (HAD.out w _ z2 hG) ?_
     · go_simp
     · rintro e w' ⟨v,rfl,z,hb⟩;exact ⟨_,rfl,hb,z,hG.next hb⟩
 · intro o ho;injection ho with ho;subst ho
   intro listed σ w a hall hin hout hG hF;refine Ac.none rfl ?_;have e4:a.tmps.getD 4 undef=.pointer (some ⟨w0.heap.size+1+1,0,none⟩):=hout 4 (LC (by kernel_rfl));have e8:=hin 3 8 rfl (by decide);have z3:=hF 3 (by decide);have z3:=hF 3 (by decide);obtain ⟨A8,n8,c8,s8,B8,m8,d8,ev8⟩:=An.form z3;rw[ev8]at e8 z3;have HR8:=Ad (R0.out.next hG);have HT8:=Ad (T0.out.next hG)
   refine Does.store_box (T:=33) (cells:=#[.slice A8 n8 c8,.bool s8,.slice B8 m8 d8]) rfl e4 e8 HR8.out (by kernel_rfl) rfl (by simp[Value.oneCell']) (fun w2 x9 o9=>?_);rw[show fin _ σ undef _=(Act.put (Act.put (Act.put (Act.put (Act.put _ (some 5) (σ 0)) (some 6) (σ 1)) (some 7) (σ 2)) (some 8) (σ 3)) none undef) from (Bn hall).trans rfl];simp only[Act.put,List.setIfInBounds_toArray,List.set_cons_zero,List.set_cons_succ];have HZ8:=Ad (z3.only HR8.out o9);have HO:=Ad o9
   generalize σ 0=tt0 at *;generalize σ 1=tt1 at *;generalize σ 2=tt2 at *;generalize σ 3=tt3 at *;clear hF hG hall hin hout SOF z3 o9 e4 e8 ev8;go_wp2_with fail;refine Bw rfl rfl x9 rfl ?_;exact Bm.eq ⟨_,rfl,HZ8.out,AH HT8.out (by omega) HO.out⟩ (Gn (fun _=>rfl) (fun x=>by rw[DI];simp)) (by omega)
end
section
open Go.RowKit
open Tm
def Ud (w0 W1:World) (L:List (Int×Int)) (x:Int) (k q:Nat) (wr:World):Prop:=
 ∃s A n c,AY wr (w0.heap.size+1+1) #[.bool s,.slice A n c]/\Au wr (.agg #[.bool s,.slice A n c]) (AF (L.take q) x) (k+q)/\Below (w0.heap.size+1+1) W1 wr
end
section
open Go.RowKit
open Tm
def ints (xs:List Int):List Value:=xs.map fun x=>Value.int .i64 x
theorem LM (xs:List Int):(ints xs).length=xs.length:=by simp[ints]
theorem LO (xs ys:List Int):ints (xs++ys)=ints xs++ints ys:=by simp[ints]
theorem QH (xs:List Int) (i:Nat) (x:Int) (h:xs[i]?=some x):(ints xs)[i]?=some (.int .i64 x):=by simp[ints,h]
def EX (w:World) (A:Option Addr) (n:Nat) (xs:List Int):Prop:=xs.length=n/\(0<n->∃b o,A=some ⟨b,o,none⟩/\∀j u,(ints xs)[j]?=some u->w.cell? ⟨b,o+j,none⟩=some u)
theorem EX.below {w w':World} {A:Option Addr} {n:Nat} {xs:List Int} (h:EX w A n xs) (hb:Below w.heap.size w w'):EX w' A n xs:=by refine ⟨h.1,fun hn=>?_⟩;obtain ⟨b,o,e,hc⟩:=h.2 hn;refine ⟨b,o,e,fun j u hu=>?_⟩;have h1:=hc j u hu;have hlt:=World.block_lt_of_cell? w _ h1;exact (World.cell?_of_block (w:=w) (a:=⟨b,o+j,none⟩) (hb.block b hlt)).trans h1
theorem EX.at_ {w:World} {A:Option Addr} {n i:Nat} {xs:List Int} (h:EX w A n xs) (hi:i<n):∃(b o:Nat) (x:Int),A=some ⟨b,o,none⟩/\b<w.heap.size/\xs[i]?=some x/\w.cell? ⟨b,o+i,none⟩=some (.int .i64 x):=by obtain ⟨b,o,e,hc⟩:=h.2 (by omega);have hx:xs[i]?=some (xs[i]'(by rw[h.1];exact hi)):=List.getElem?_eq_getElem _;have h1:=hc i _ (QH xs i _ hx);exact ⟨b,o,_,e,World.block_lt_of_cell? w _ h1,hx,h1⟩
theorem Az.ints_in {w:World} {base n c:Nat} {A:Option Addr} {xs:List Int} (h:Az 3 1 w base (.slice A n c) n (ints xs)):EX w A n xs:=by
 have hl:xs.length=n:=by have:=h.1;rw[LM]at this;omega
 refine ⟨hl,fun hn=>?_⟩;obtain ⟨g,rfl,-,-,hc⟩:=h.cell hn;exact ⟨g,0,rfl,fun j u hu=>by rw[Nat.zero_add];exact (hc j u hu).1⟩
theorem QI:(Tryz.prog.info? 3).map (fun i=>(i.zero,i.size,i.bytes))=some (some (.int .i64 0),1,8):=by kernel_rfl
theorem TS (w:World) (x:Int) (T:TypeId):(w.alloc (.cells #[.int .i64 x] T)).cell? ⟨w.heap.size,0,none⟩=some (.int .i64 x):=by rw[cell_of_row _ _ 0 _ _ _ (heap_alloc_new _ _)];rfl
theorem Gu {w:World} {ops:Array Oper} {rest:List Oper} {o:Oper} {a:Act} {Q:Exit->Act->World->Prop} (hgd:o.guard=none) (s x:Operand)
   (ho:o.op=.call { callee:=.builtin .append,args:=#[s,x],argTypes:=#[54,54] }) (base:Nat) (v:Value) (xs:List Int) (hs:a.eval s=v) (hown:Az 3 1 w base v xs.length (ints xs))
   (g:Nat) (y:Int) (hx:a.eval x=.slice (some ⟨g,0,none⟩) 1 1) (hc:w.cell? ⟨g,0,none⟩=some (.int .i64 y)) (hn:xs.length<=1099511627) (hbase:base<=w.heap.size)
   (h:∀v' w',Az 3 1 w' base v' (xs++[y]).length (ints (xs++[y]))->w.grownBy w' v.ownBlock->wpList Tryz.prog ops Q rest (a.put o.dst v') w'):wpList Tryz.prog ops Q (o::rest) a w:=by
 obtain ⟨i0,hi0,hz0,hz1,hz2⟩:=info_parts QI;refine Cz hgd s x 54 ho base 3 i0 _ 1 8 Tryz.underlying54 hi0 hz0 hz1 hz2 rfl (by decide) (fun u hu=>by simp[Value.cells]at hu;subst hu;exact NL.i64 _) v xs.length (ints xs) hs hown ⟨g,0,none⟩ 1 1 [.int .i64 y] hx rfl
   (fun j u hu=>?_) (fun u hu=>by simp at hu;subst hu;rfl) (fun u hu=>by simp at hu;subst hu;exact NL.i64 _) (by unfold maxLen;omega) (by omega) hbase ?_
 · cases j with
   |zero=>simp at hu;subst hu;exact hc
   |succ j=>simp at hu
 · intro v' w' h1 h2;refine h v' w' ?_ h2;rw[LO,List.length_append];exact h1
def QJ (v:Int):Bool->List Int->List Int
 |dn,[]=>if dn then [] else [v]
 |dn,u::us=>(if !dn&&decide (v<=u) then [v] else [])++((if u≠v then [u] else [])++QJ v (dn || decide (v<=u)) us)
def S3 (xs:List Int) (w:World) (e:Ending) (w':World):Prop:=∃A c,e=.returned (.slice A xs.length c)/\EX w' A xs.length xs/\xs.length<=c/\c<=9223372036854775807/\Below w.heap.size w w'
def Uz (w0:World) (v:Int) (xs:List Int) (q:Nat) (dn:Bool) (sv:Value) (wr:World):Prop:=
 ∃os:List Int,Az 3 1 wr w0.heap.size sv os.length (ints os)/\os++QJ v dn (xs.drop q)=QJ v false xs/\Below w0.heap.size w0 wr/\os.length<=2*q
end
section
open Go.RowKit
open Tm
def Ue (w0:World) (L:List (Int×Int)) (q:Nat) (A:Option Addr) (m c:Nat) (wr:World):Prop:=EX wr A m (U8 L (L.take q) [])/\Below (w0.heap.size+1) (w0.alloc (.cells #[] 3)) wr
end
section
open Go.RowKit
open Tm
def Fl (W2:World) (g:Nat) (L:List (Int×Int)) (K:Int) (f:Int->Int) (j q:Nat) (wr:World):Prop:=
 ∃(rs:List PV) (A:Option Addr) (c:Nat) (s:Bool) (B:Option Addr) (m d:Nat),Aw 33 wr g #[.slice A q c,.bool s,.slice B m d]/\Az 59 3 wr W2.heap.size (.slice A q c) q (flat rs)/\rs.length=q /\
  Ca rs=(L.take q).map (fun p=>(p.1,f p.2))/\(∀p∈rs,Au wr p.num p.Z j)/\Au wr (.agg #[.bool s,.slice B m d]) (f K) j/\Ao g W2 wr/\Kp W2 wr
theorem Fl.step {W2 W6 w:World} {g q c4 m4 d4 c2 kj:Nat} {A4 B4 A2:Option Addr} {s4:Bool} {L:List (Int×Int)} {K pv pZ:Int} {f:Int->Int} {rs:List PV} {p2:PV}
   (xg:Aw 33 W6 g #[.slice A4 q c4,.bool s4,.slice B4 m4 d4]) (lr:Az 59 3 W6 W2.heap.size (.slice A4 q c4) q (flat rs)) (hrl:rs.length=q) (hlin:Ca rs=(L.take q).map (fun p=>(p.1,f p.2)))
   (hrz:∀p∈rs,Au W6 p.num p.Z kj) (zK:Au W6 (.agg #[.bool s4,.slice B4 m4 d4]) (f K) kj) (oW:Ao g W2 W6) (kW:Kp W2 W6) (hL:L[q]?=some (pv,pZ)) (h1:p2.v=pv) (h2:p2.Z=f pZ)
   (l2:Az 59 3 w W2.heap.size (.slice A2 (q+1) c2) (rs++[p2]).length (flat (rs++[p2]))) (z2:Au w p2.num p2.Z kj) (tg:Tg (Value.slice A4 q c4).ownBlock W6 w) :
   Fl W2 g L K f kj (q+1) (w.setCell ⟨g,0,none⟩ (.slice A2 (q+1) c2)):=by
 have hne:some g≠(Value.slice A4 q c4).ownBlock:=fun e=>lr.offTerm xg e.symm
 have x9:=xg.grown tg.1 hne;have o9:=CK w g 0 (.slice A2 (q+1) c2);have hk:=x9.kp (QB _ _ _ _ _ _ _) o9;have hlen:(rs++[p2]).length=q+1:=by simp[hrl]
 rw[hlen]at l2;have oW9:Ao g W2 w:=⟨tg.1.os.trans oW.os,tg.1.tape.trans oW.tape,tg.1.output.trans oW.output,Nat.le_trans oW.size tg.1.size,fun b hb hbn=> (tg.1.block b (Nat.lt_of_lt_of_le hb oW.size) (fun e=>by have:=(lr.lt b e.symm).1;omega)).trans (oW.block b hb hbn)⟩
 refine ⟨rs++[p2],A2,c2,s4,B4,m4,d4,x9.set_0 _,l2.onlyTerm x9 o9,hlen,?_,fun x hx=>?_,(zK.kp tg.2).kp hk,oW9.trans o9,(kW.trans tg.2).trans hk⟩
 · rw[Bi,hlin,List.take_add_one,hL,List.map_append];simp[Ca,PV.part,h1,h2]
 · rcases List.mem_append.1 hx with hx|hx
   · exact ((hrz x hx).kp tg.2).kp hk
   · simp at hx;subst hx;exact z2.kp hk
end
end Go.Proofs.YtemfjdedjcjegaaGreatDoor
