/- Texts of one seat, put together: ConcatP TermC RCoef. -/
import Derived.Test.YtmedjkhmadfjlaaGreatR17
set_option linter.unusedVariables false
set_option linter.unusedSimpArgs false
set_option maxRecDepth 100000
set_option maxHeartbeats 16000000
namespace Go.Proofs.YtmedjkhmadfjlaaGreat
section
open Go.RowKit
open Tm
theorem Gx {P:Program} {w:World} (base:Nat) (t ty e:TypeId) (i:TypeInfo) (size:Nat) (ht:P.underlying t=some (.slice e)) (hi:P.info? e=some i)
   (v:Value) (n c:Nat) (xs:List Value) (hown:AF e size w base v n xs):(Builtin.append_ #[t,t] ty #[v,.slice none 0 c]).run P w=.ok v w:=by
 rcases hown.2 with ⟨rfl,rfl⟩|⟨g,cap,cur,rfl,_,_,hnc,_⟩
 · simp[Builtin.append_,run_underlying ht,sizeOf,typeInfo,hi,Builtin.lenOf,Builtin.firstCells]
 · simp[Builtin.append_,run_underlying ht,sizeOf,typeInfo,hi,Builtin.lenOf,Builtin.firstCells,hnc,storeCells]
theorem Eb {w:World} {ops:Array Oper} {rest:List Oper} {o:Oper} {a:Act} {Q:Exit->Act->World->Prop} (hgd:o.guard=none) (s x:Operand)
   (ho:o.op=.call { callee:=.builtin .append,args:=#[s,x],argTypes:=#[34,34] }) (base:Nat) (v:Value) (ps:List PV) (hs:a.eval s=v) (hown:AF 47 3 w base v ps.length (flat ps))
   (A:Option Addr) (m c k:Nat) (qs:List PV) (hx:a.eval x=.slice A m c) (hq:AJ w A m qs k) (hn:ps.length+m<=1099511627776) (hbase:base<=w.heap.size)
   (h:∀v' w',AF 47 3 w' base v' (ps++qs).length (flat (ps++qs))->w.grownBy w' v.ownBlock->wpList Tryz.prog ops Q rest (a.put o.dst v') w'):wpList Tryz.prog ops Q (o::rest) a w:=by
 rcases A with _|⟨b,q,sp⟩
 · obtain rfl:m=0:=by
     rcases Nat.eq_zero_or_pos m with h0|h0
     · exact h0
     · obtain ⟨b,o,e,-⟩:=hq.2.1 h0;cases e
   obtain rfl:qs=[]:=List.eq_nil_of_length_eq_zero hq.1;obtain ⟨i0,hi0,hz0,hz1,hz2⟩:=info_parts CR;refine wpList_plain hgd fun K hK=>?_
   have hrun:=Gx (P:=Tryz.prog) (w:=w) base 34 o.type 47 i0 3 Tryz.underlying34 hi0 v ps.length c (flat ps) hown;unfold Oper.wp;rw[Bn ho hs hx hrun];exact hK _ _ (h v w (by rw[List.append_nil];exact hown) ⟨rfl,rfl,rfl,Nat.le_refl _,fun _ _ _=>rfl⟩)
 · rcases Nat.eq_zero_or_pos m with h0|h0
   · subst h0;obtain rfl:qs=[]:=List.eq_nil_of_length_eq_zero hq.1;obtain ⟨i0,hi0,hz0,hz1,hz2⟩:=info_parts CR;exact Df hgd s x 34 ho base 47 i0 _ 3 40 Tryz.underlying34 hi0 hz0 hz1 hz2 rfl (by decide) BK v ps.length (flat ps) hs hown ⟨b,q,sp⟩ 0 c [] hx rfl
       (fun j u hu=>by simp at hu) (fun u hu=>by cases hu) (fun u hu=>by cases hu) (by unfold maxLen;omega) (by omega) hbase (fun v' w' h1 h2=>h v' w' (by rw[List.append_nil];simpa using h1) h2)
   · obtain ⟨b',q',e,hc⟩:=hq.2.1 h0;injection e with e
     injection e with e1 e2 e3
     subst e1 e2 e3;exact Bv hgd s x ho base v ps hs hown b q m c qs hx hq.1 hc hn hbase h
def JS (ps qs:List PV) (k:Nat) (w:World) (e:Ending) (w':World):Prop:=∃A n c,e=.returned (.slice A n c)/\AJ w' A n (ps++qs) k/\n<=c/\c<=9223372036854775807/\Below w.heap.size w w'
theorem JU (gs cs:Nat) (A B:Option Addr) (n c m d k:Nat) (ps qs:List PV) (w:World) (h0:w.cell? ⟨gs,0,none⟩=some (.slice A n c)) (h1:w.cell? ⟨gs,1,none⟩=some (.slice B m d)) (hp:AJ w A n ps k) (hq:AJ w B m qs k) (hn:n<=500000) (hm:m<=500000) :
  Calls Tryz.prog 140 #[.slice (some ⟨gs,0,none⟩) 2 cs] w (JS ps qs k w):=by
 have hpl:=Ac hp.1;have hql:=Ac hq.1;have hlt:=World.block_lt_of_cell? w _ h0;go_enter Tryz.func140,Tryz.ntmps140;go_wp2_with fail;go_loop [3,11] (fun s i=>∃q t:Nat,i=.int .i64 q/\s=.int .i64 t/\((q=0/\t=0)\/(q=1/\t=n)\/(q=2/\t=n+m))) (fun _ i=>2-(intOf i).toNat)
 case atStart=>exact ⟨0,0,rfl,rfl,.inl ⟨rfl,rfl⟩⟩
 case round=>
  obtain ⟨q,t,rfl,rfl,⟨rfl,rfl⟩|⟨rfl,rfl⟩|⟨rfl,rfl⟩⟩:=hrel
  · go_wp2_with fail;go_round
    case rel=>exact ⟨1,n,by go_num,by go_num,.inr (.inl ⟨rfl,rfl⟩)⟩
    case measure=>simp[intOf]<;>omega
  · go_wp2_with fail;go_round
    case rel=>exact ⟨2,t+m,by go_num,by go_num,.inr (.inr ⟨rfl,rfl⟩)⟩
    case measure=>simp[intOf]<;>omega
  · have hgr:=fun W=>Hm (n+m) W (by omega)
    have e2:((n+m:Nat):Int)=(n:Int)+(m:Int):=(by omega);rw[e2]at hgr;clear e2;go_wp2_with fail;refine (hgr _).mono ?_;rintro e w1 ⟨A1,c1,rfl,l1,b1⟩;have HP:=Ac hp;have HQ:=Ac hq;have H0:=Ac h0;have H1:=Ac h1;have HL:=Ac l1;have HB:=Ac b1;clear hp hq h0 h1 hgr l1 b1;go_wp2_with fail
    go_loopw [6,27] (fun v i wr=>∃(q:Nat) (rs:List PV),i=.int .i64 q/\Hid (AF 47 3 wr w.heap.size v rs.length (flat rs))/\Hid (Below w.heap.size w wr)/\((q=0/\rs=[])\/(q=1/\rs=ps)\/(q=2/\rs=ps++qs))) (fun _ i _=>2-(intOf i).toNat)
    case atStart=>exact ⟨0,[],rfl,HL,HB,.inl ⟨rfl,rfl⟩⟩
    case round=>
     obtain ⟨q,rs,rfl,HR,hB2,⟨rfl,rfl⟩|⟨rfl,rfl⟩|⟨rfl,rfl⟩⟩:=hrel
     · have y0:=(hB2.out.cell (p:=⟨gs,0,none⟩) hlt).trans H0.out;go_wp2_with (at_builtin;refine Eb rfl _ _ rfl w.heap.size _ [] rfl HR.out A n c k ps rfl (HP.out.below hB2.out) (by simp;omega) hB2.out.size ?_;intro v' w2 l2 g2);have HL2:=Ac (show AF 47 3 w2 w.heap.size v' ps.length (flat ps) by simpa using l2);have HB2:=Ac (HR.out.old hB2.out g2 (Nat.le_refl _) (Nat.le_refl _));clear l2 g2 y0;go_wp2_with fail;go_roundw
       case rel=>exact ⟨1,ps,by go_num,HL2,HB2,.inr (.inl ⟨rfl,rfl⟩)⟩
       case measure=>simp[intOf]<;>omega
     · have y1:=(hB2.out.cell (p:=⟨gs,1,none⟩) hlt).trans H1.out;have hle:rs.length+m<=1099511627776:=(by have:=hpl.out;omega);go_wp2_with (at_builtin;refine Eb rfl _ _ rfl w.heap.size _ rs rfl HR.out B m d k qs rfl (HQ.out.below hB2.out) hle hB2.out.size ?_;intro v' w2 l2 g2);have HL2:=Ac (show AF 47 3 w2 w.heap.size v' (rs++qs).length (flat (rs++qs)) by simpa using l2);have HB2:=Ac (HR.out.old hB2.out g2 (Nat.le_refl _) (Nat.le_refl _));clear l2 g2 y1;go_wp2_with fail
       go_roundw
       case rel=>exact ⟨2,rs++qs,by go_num,HL2,HB2,.inr (.inr ⟨rfl,rfl⟩)⟩
       case measure=>simp[intOf]<;>omega
     · obtain ⟨A9,c9,rfl,h91,h92,-⟩:=HR.out.len;have HX:=Ac (HR.out.parts rfl (fun p hp=>by
        rcases List.mem_append.1 hp with h|h
        · exact (HP.out.2.2 p h).below hB2.out
        · exact (HQ.out.2.2 p h).below hB2.out))
       clear HR;go_wp2_with fail;go_ret
       exact ⟨A9,_,c9,rfl,HX.out,h91,h92,hB2.out⟩
end
section
open Go.RowKit
open Tm
theorem Sm (v u:Value) (L M:List (Int×Int)) (K KM:Int) (k:Nat) (w0:World) (hv:D9 w0 v L K k) (hu:D9 w0 u M KM k) (hl:L.length<=500000) (hm:M.length<=500000) (hk:k<=109951162) :
   Calls Tryz.prog 93 #[v,u] w0 (BG (norm (L++M)) (K+KM) (k+1+(L.length+M.length)) w0):=by
 obtain ⟨A,n,c,s,B,m,d,rfl,⟨ps,hps,rfl⟩,hc1,hc2,hK⟩:=hv;obtain ⟨A2,n2,c2,s2,B2,m2,d2,rfl,⟨qs,hqs,rfl⟩,hc3,hc4,hK2⟩:=hu;have hn:n<=500000:=by have:=hps.1;unfold Cl at hl;rw[List.length_map]at hl;omega
 have hn2:n2<=500000:=by have:=hqs.1;unfold Cl at hm;rw[List.length_map]at hm;omega
 have HLL:=Ac (show (Cl ps).length=ps.length/\(Cl qs).length=qs.length from ⟨by simp[Cl],by simp[Cl]⟩);obtain ⟨z0,z1,z2,z3,z4⟩:=Cc 40 40 40 w0 #[.slice A n c,.bool s,.slice B m d] #[.slice A2 n2 c2,.bool s2,.slice B2 m2 d2] #[.slice none 0 0,.bool false,.slice none 0 0];go_enter Tryz.func93,Tryz.ntmps93;go_wp2_with fail
 generalize hW0:(((w0.alloc (.cells #[.slice A n c,.bool s,.slice B m d] 40)).alloc (.cells #[.slice A2 n2 c2,.bool s2,.slice B2 m2 d2] 40)).alloc (.cells #[.slice none 0 0,.bool false,.slice none 0 0] 40))=W0 at *;clear hW0;have HPA:=Ac (hps.below z3);have HPB:=Ac (hqs.below z3);have HKA:=Ac (hK.below z3);have HKB:=Ac (hK2.below z3);have R0:=Ac z2;have T0:=Ac z3
 have HPL:=Ac (fun W v (h:D9 W v (Cl (ps++qs)) (K+KM) (k+1))=>(show Calls Tryz.prog 59 #[v] W (BG (norm (Cl (ps++qs))) (K+KM) (k+1+(ps.length+qs.length)) W) from by have h1:=Fx v _ _ (k+1) W h (by rw[Bu,List.length_append,HLL.out.1,HLL.out.2];have:=hps.1;have:=hqs.1;omega) (by omega);rw[Bu,List.length_append,HLL.out.1,HLL.out.2]at h1;rw[Bu];exact h1))
 unfold BG at HPL
 have SOF:=Ac (show ∀W,Below W0.heap.size W0 W->(W.cell? ⟨w0.heap.size,0,none⟩=some (.slice A n c)/\W.cell? ⟨w0.heap.size,1,none⟩=some (.bool s)/\W.cell? ⟨w0.heap.size,2,none⟩=some (.slice B m d)/\W.cell? ⟨w0.heap.size+1,0,none⟩=some (.slice A2 n2 c2)/\W.cell? ⟨w0.heap.size+1,1,none⟩=some (.bool s2)/\W.cell? ⟨w0.heap.size+1,2,none⟩=some (.slice B2 m2 d2)) from fun W h=>⟨(z0.next h).c0,(z0.next h).c1,(z0.next h).c2,(z1.next h).c0,(z1.next h).c1,(z1.next h).c2⟩)
 clear z0 z1 z2 z3 z4 hps hqs hK hK2
 refine AW (by kernel_rfl) (by kernel_rfl) (by kernel_rfl) (by kernel_rfl) (fun w w'=>Below w.heap.size w w') (fun j v w=>match j with|0=>v=.pointer (some ⟨w0.heap.size,0,none⟩)|1=>v=.slice A n c|2=>v=.pointer (some ⟨w0.heap.size+1,0,none⟩)|3=>v=.slice A2 n2 c2|4=>∃gs,v=.slice (some ⟨gs,0,none⟩) 2 2/\AK 34 w gs #[.slice A n c,.slice A2 n2 c2]|5=>∃A n c,v=.slice A n c/\AJ w A n (ps++qs) k/\n<=c/\c<=9223372036854775807|6=>v=.pointer (some ⟨w0.heap.size,1,none⟩)|7=>v=.agg #[.bool s,.slice B m d]|8=>v=.pointer (some ⟨w0.heap.size+1,1,none⟩)|9=>v=.agg #[.bool s2,.slice B2 m2 d2]|10=>∃s B m d,v=.agg #[.bool s,.slice B m d]/\Au w (.agg #[.bool s,.slice B m d]) (K+KM) (k+1)|11=>D9 w v (Cl (ps++qs)) (K+KM) (k+1)|12=>Aw w v (norm (Cl (ps++qs))) (K+KM) (k+1+(ps.length+qs.length))|_=>True) (fun _ _ w=>Below W0.heap.size W0 w) ?_ (fun _=>Ap W0 1) ?_ ?_
 · intro j v w w' hT h;match j,h with
   |0,h=>exact h
   |1,h=>exact h
   |2,h=>exact h
   |3,h=>exact h
   |4,h=>exact (by obtain ⟨g,e,h2⟩:=h;exact ⟨g,e,h2.next hT⟩)
   |5,h=>exact (by obtain ⟨A,n,c,e,h1,h2,h3⟩:=h;exact ⟨A,n,c,e,h1.below hT,h2,h3⟩)
   |6,h=>exact h
   |7,h=>exact h
   |8,h=>exact h
   |9,h=>exact h
   |10,h=>exact (by obtain ⟨s,B,m,d,e,z⟩:=h;exact ⟨s,B,m,d,e,z.below hT⟩)
   |11,h=>exact h.below hT
   |12,h=>exact h.below hT
   |j+13,h=>trivial
 · refine ⟨?_,?_,?_,?_,?_,?_,?_,?_,?_,?_,?_,?_,?_,trivial⟩
   · intro l9 σ w a hin hout hl hla hs hc hp hG hF;refine Ad.none rfl ?_;have e2:a.tmps.getD 2 undef=.pointer (some ⟨w0.heap.size,0,none⟩):=hout 2 (Ae (by kernel_rfl));refine Does.val (.pointer (some ⟨w0.heap.size,0,none⟩)) (w':=w) ?_ ⟨Below.refl _ _,rfl,hG⟩;simp only[Array.getD_eq_getD_getElem?]at e2;go_simp
   · intro l9 σ w a hin hout hl hla hs hc hp hG hF;refine Ad.none rfl ?_;have e5:a.tmps.getD 5 undef=.pointer (some ⟨w0.heap.size,0,none⟩):=Am (hin 0 5) rfl (hp ⟨0,.data⟩ (by simp) rfl) (hF 0);have CC:=SOF.out w hG;obtain ⟨C0,C1,C2,D0,D1,D2⟩:=CC;refine Does.val (.slice A n c) (w':=w) ?_ ⟨Below.refl _ _,rfl,hG⟩;go_simp
   · intro l9 σ w a hin hout hl hla hs hc hp hG hF;refine Ad.none rfl ?_;have e3:a.tmps.getD 3 undef=.pointer (some ⟨w0.heap.size+1,0,none⟩):=hout 3 (Ae (by kernel_rfl));refine Does.val (.pointer (some ⟨w0.heap.size+1,0,none⟩)) (w':=w) ?_ ⟨Below.refl _ _,rfl,hG⟩;simp only[Array.getD_eq_getD_getElem?]at e3;go_simp
   · intro l9 σ w a hin hout hl hla hs hc hp hG hF;refine Ad.none rfl ?_;have e7:a.tmps.getD 7 undef=.pointer (some ⟨w0.heap.size+1,0,none⟩):=Am (hin 2 7) rfl (hp ⟨2,.data⟩ (by simp) rfl) (hF 2);have CC:=SOF.out w hG;obtain ⟨C0,C1,C2,D0,D1,D2⟩:=CC;refine Does.val (.slice A2 n2 c2) (w':=w) ?_ ⟨Below.refl _ _,rfl,hG⟩;go_simp
   · intro l9 σ w a hin hout hl hla hs hc hp hG hF;refine Ad.none rfl ?_;have e6:a.tmps.getD 6 undef=.slice A n c:=Am (hin 1 6) rfl (hp ⟨1,.data⟩ (by simp) rfl) (hF 1);have e8:a.tmps.getD 8 undef=.slice A2 n2 c2:=Am (hin 3 8) rfl (hp ⟨3,.data⟩ (by simp) rfl) (hF 3);refine Does.val (.slice (some ⟨w.heap.size,0,none⟩) 2 2) (w':=w.alloc (.cells #[.slice A n c,.slice A2 n2 c2] 34)) ?_ ⟨Af w _,⟨w.heap.size,rfl,AK.new _ _ _⟩,hG.next (Af w _)⟩
     simp only[Array.getD_eq_getD_getElem?]at e6 e8;go_simp
   · intro l9 σ w a hin hout hl hla hs hc hp hG hF;refine Ad.none rfl ?_;have e9:=hin 4 9 rfl (hp ⟨4,.data⟩ (by simp) rfl);obtain ⟨g4,ev4,x4⟩:=hF 4 (hp ⟨4,.data⟩ (by simp) rfl);rw[ev4]at e9;refine Does.call ?_ (JU g4 2 A A2 n c n2 c2 k ps qs w (x4.cell 0 _ rfl) (x4.cell 1 _ rfl) (HPA.out.below hG) (HPB.out.below hG) hn hn2) ?_
     · go_simp
     · rintro e w' ⟨A,n,c,rfl,hp,h1,h2,hb⟩;exact ⟨_,rfl,hb,⟨A,n,c,rfl,hp,h1,h2⟩,hG.next hb⟩
   · intro l9 σ w a hin hout hl hla hs hc hp hG hF;refine Ad.none rfl ?_;have e2:a.tmps.getD 2 undef=.pointer (some ⟨w0.heap.size,0,none⟩):=hout 2 (Ae (by kernel_rfl));refine Does.val (.pointer (some ⟨w0.heap.size,1,none⟩)) (w':=w) ?_ ⟨Below.refl _ _,rfl,hG⟩;simp only[Array.getD_eq_getD_getElem?]at e2;go_simp
   · intro l9 σ w a hin hout hl hla hs hc hp hG hF;refine Ad.none rfl ?_;have e11:a.tmps.getD 11 undef=.pointer (some ⟨w0.heap.size,1,none⟩):=Am (hin 6 11) rfl (hp ⟨6,.data⟩ (by simp) rfl) (hF 6);have CC:=SOF.out w hG;obtain ⟨C0,C1,C2,D0,D1,D2⟩:=CC;refine Does.val (.agg #[.bool s,.slice B m d]) (w':=w) ?_ ⟨Below.refl _ _,rfl,hG⟩;go_simp
   · intro l9 σ w a hin hout hl hla hs hc hp hG hF;refine Ad.none rfl ?_;have e3:a.tmps.getD 3 undef=.pointer (some ⟨w0.heap.size+1,0,none⟩):=hout 3 (Ae (by kernel_rfl));refine Does.val (.pointer (some ⟨w0.heap.size+1,1,none⟩)) (w':=w) ?_ ⟨Below.refl _ _,rfl,hG⟩;simp only[Array.getD_eq_getD_getElem?]at e3;go_simp
   · intro l9 σ w a hin hout hl hla hs hc hp hG hF;refine Ad.none rfl ?_;have e13:a.tmps.getD 13 undef=.pointer (some ⟨w0.heap.size+1,1,none⟩):=Am (hin 8 13) rfl (hp ⟨8,.data⟩ (by simp) rfl) (hF 8);have CC:=SOF.out w hG;obtain ⟨C0,C1,C2,D0,D1,D2⟩:=CC;refine Does.val (.agg #[.bool s2,.slice B2 m2 d2]) (w':=w) ?_ ⟨Below.refl _ _,rfl,hG⟩;go_simp
   · intro l9 σ w a hin hout hl hla hs hc hp hG hF;refine Ad.none rfl ?_;have e12:a.tmps.getD 12 undef=.agg #[.bool s,.slice B m d]:=Am (hin 7 12) rfl (hp ⟨7,.data⟩ (by simp) rfl) (hF 7);have e14:a.tmps.getD 14 undef=.agg #[.bool s2,.slice B2 m2 d2]:=Am (hin 9 14) rfl (hp ⟨9,.data⟩ (by simp) rfl) (hF 9);refine Does.call ?_ (ML (.agg #[.bool s,.slice B m d]) (.agg #[.bool s2,.slice B2 m2 d2]) K KM k w (HKA.out.below hG) (HKB.out.below hG) (by omega)) ?_
     · go_simp
     · rintro e w' ⟨v,rfl,z,hb⟩;exact ⟨_,rfl,hb,(by obtain ⟨s,B,m,d,rfl⟩:=z.form;exact ⟨s,B,m,d,rfl,z⟩),hG.next hb⟩
   · intro l9 σ w a hin hout hl hla hs hc hp hG hF;refine Ad.none rfl ?_;have e10:=hin 5 10 rfl (hp ⟨5,.data⟩ (by simp) rfl);obtain ⟨A5,n5,c5,ev5,p5,q5,r5⟩:=hF 5 (hp ⟨5,.data⟩ (by simp) rfl);rw[ev5]at e10;have e15:=hin 10 15 rfl (hp ⟨10,.data⟩ (by simp) rfl);obtain ⟨s10,B10,m10,d10,ev10,z10⟩:=hF 10 (hp ⟨10,.data⟩ (by simp) rfl);rw[ev10]at e15
     refine Does.val (.agg #[.slice A5 n5 c5,.bool s10,.slice B10 m10 d10]) (w':=w) ?_ ⟨Below.refl _ _,⟨A5,n5,c5,s10,B10,m10,d10,rfl,⟨_,p5.mono (by omega),rfl⟩,q5,r5,z10.in_⟩,hG⟩;simp only[Array.getD_eq_getD_getElem?]at e10 e15;go_simp
   · intro l9 σ w a hin hout hl hla hs hc hp hG hF;refine Ad.none rfl ?_;have e16:=hin 11 16 rfl (hp ⟨11,.data⟩ (by simp) rfl);have z11:=hF 11 (hp ⟨11,.data⟩ (by simp) rfl);refine Does.call ?_ (HPL.out w _ z11) ?_
     · go_simp
     · rintro e w' ⟨v,rfl,z,hb⟩;exact ⟨_,rfl,hb,z,hG.next hb⟩
 · intro o ho;injection ho with ho;subst ho
   intro l9 σ w a hall hin hout hG hF;refine Ad.none rfl ?_;have e4:a.tmps.getD 4 undef=.pointer (some ⟨w0.heap.size+1+1,0,none⟩):=hout 4 (KH (by kernel_rfl));have e17:=hin 12 17 rfl (by decide);have z12:=hF 12 (by decide);have z12:=hF 12 (by decide);obtain ⟨A8,n8,c8,s8,B8,m8,d8,ev8⟩:=Aw.form z12;rw[ev8]at e17 z12;have HR8:=Ac (R0.out.next hG);have HT8:=Ac (T0.out.next hG)
   refine Does.store_box (T:=40) (cells:=#[.slice A8 n8 c8,.bool s8,.slice B8 m8 d8]) rfl e4 e17 HR8.out (by kernel_rfl) rfl (by simp[Value.oneCell']) (fun w2 x9 o9=>?_)
   rw[show fin _ σ undef _=(Act.put (Act.put (Act.put (Act.put (Act.put (Act.put (Act.put (Act.put (Act.put (Act.put (Act.put (Act.put (Act.put (Act.put _ (some 5) (σ 0)) (some 6) (σ 1)) (some 7) (σ 2)) (some 8) (σ 3)) (some 9) (σ 4)) (some 10) (σ 5)) (some 11) (σ 6)) (some 12) (σ 7)) (some 13) (σ 8)) (some 14) (σ 9)) (some 15) (σ 10)) (some 16) (σ 11)) (some 17) (σ 12)) none undef) from (Bt hall).trans rfl]
   simp only[Act.put,List.setIfInBounds_toArray,List.set_cons_zero,List.set_cons_succ];have HZ8:=Ac (z12.only HR8.out o9);have HO:=Ac o9;generalize σ 0=tt0 at *;generalize σ 1=tt1 at *;generalize σ 2=tt2 at *;generalize σ 3=tt3 at *;generalize σ 4=tt4 at *;generalize σ 5=tt5 at *;generalize σ 6=tt6 at *;generalize σ 7=tt7 at *;generalize σ 8=tt8 at *;generalize σ 9=tt9 at *;generalize σ 10=tt10 at *;generalize σ 11=tt11 at *;generalize σ 12=tt12 at *
   clear hF hG hall hin hout SOF z12 o9 e4 e17 ev8;go_wp2_with fail;refine BJ rfl rfl x9 rfl ?_;exact BG.eq (BG.mono ⟨_,rfl,HZ8.out,AE HT8.out (by omega) HO.out⟩ (by have:=HLL.out;omega)) (by rw[Bu]) rfl
theorem FS (v u:Value) (L M:List (Int×Int)) (K KM:Int) (k:Nat) (w0:World) (hv:D9 w0 v L K k) (hu:D9 w0 u M KM k) (hl:L.length<=500000) (hm:M.length<=500000) (hk:k<=10995116) :
   Calls Tryz.prog 74 #[v,u] w0 (BG (norm (L++M.map fun p=>(p.1,-1*p.2))) (K-KM) (k+M.length+1+(L.length+M.length)) w0):=by
 have hv0:=hv;have hu0:=hu;obtain ⟨A,n,c,s,B,m,d,rfl,-⟩:=hv;obtain ⟨A2,n2,c2,s2,B2,m2,d2,rfl,-⟩:=hu;obtain ⟨z0,z1,z2,z3,z4⟩:=Cc 40 40 40 w0 #[.slice A n c,.bool s,.slice B m d] #[.slice A2 n2 c2,.bool s2,.slice B2 m2 d2] #[.slice none 0 0,.bool false,.slice none 0 0];go_enter Tryz.func74,Tryz.ntmps74;go_wp2_with fail
 generalize hW0:(((w0.alloc (.cells #[.slice A n c,.bool s,.slice B m d] 40)).alloc (.cells #[.slice A2 n2 c2,.bool s2,.slice B2 m2 d2] 40)).alloc (.cells #[.slice none 0 0,.bool false,.slice none 0 0] 40))=W0 at *;clear hW0;have HB:=Ac (hu0.below z3);have HA:=Ac (hv0.below z3);have R0:=Ac z2;have T0:=Ac z3
 have HAD:=Ac (fun W v (h:Aw W v (norm (M.map fun p=>(p.1,-1*p.2))) (-KM) (k+M.length)) (hb:Below W0.heap.size W0 W)=>(show Calls Tryz.prog 93 #[.agg #[.slice A n c,.bool s,.slice B m d],v] W (BG (norm (L++norm (M.map fun p=>(p.1,-1*p.2)))) (K+-KM) (k+M.length+1+(L.length+M.length)) W) from by have hq:=Bz (M.map fun p=>(p.1,-1*p.2));rw[List.length_map]at hq;exact (Sm _ v L _ K (-KM) (k+M.length) W ((HA.out.below hb).mono (by omega)) h.in_ hl (by omega) (by omega)).mono (fun e w' h=>h.mono (by omega))))
 unfold BG at HAD
 have SOF:=Ac (show ∀W,Below W0.heap.size W0 W->(W.cell? ⟨w0.heap.size,0,none⟩=some (.slice A n c)/\W.cell? ⟨w0.heap.size,1,none⟩=some (.bool s)/\W.cell? ⟨w0.heap.size,2,none⟩=some (.slice B m d)/\W.cell? ⟨w0.heap.size+1,0,none⟩=some (.slice A2 n2 c2)/\W.cell? ⟨w0.heap.size+1,1,none⟩=some (.bool s2)/\W.cell? ⟨w0.heap.size+1,2,none⟩=some (.slice B2 m2 d2)) from fun W h=>⟨(z0.next h).c0,(z0.next h).c1,(z0.next h).c2,(z1.next h).c0,(z1.next h).c1,(z1.next h).c2⟩)
 clear z0 z1 z2 z3 z4 hv0 hu0
 refine AW (by kernel_rfl) (by kernel_rfl) (by kernel_rfl) (by kernel_rfl) (fun w w'=>Below w.heap.size w w') (fun j v w=>match j with|0=>v=.agg #[.slice A n c,.bool s,.slice B m d]|1=>v=.agg #[.slice A2 n2 c2,.bool s2,.slice B2 m2 d2]|2=>Aw w v (norm (M.map fun p=>(p.1,-1*p.2))) (-KM) (k+M.length)|3=>Aw w v (norm (L++norm (M.map fun p=>(p.1,-1*p.2)))) (K+-KM) (k+M.length+1+(L.length+M.length))|_=>True) (fun _ _ w=>Below W0.heap.size W0 w) ?_ (fun _=>Ap W0 1) ?_ ?_
 · intro j v w w' hT h;match j,h with
   |0,h=>exact h
   |1,h=>exact h
   |2,h=>exact h.below hT
   |3,h=>exact h.below hT
   |j+4,h=>trivial
 · refine ⟨?_,?_,?_,?_,trivial⟩
   · intro l9 σ w a hin hout hl hla hs hc hp hG hF;refine Ad.none rfl ?_;have e2:a.tmps.getD 2 undef=.pointer (some ⟨w0.heap.size,0,none⟩):=hout 2 (Ae (by kernel_rfl));have CC:=SOF.out w hG;obtain ⟨C0,C1,C2,D0,D1,D2⟩:=CC;refine Does.val (.agg #[.slice A n c,.bool s,.slice B m d]) (w':=w) ?_ ⟨Below.refl _ _,rfl,hG⟩;go_simp
   · intro l9 σ w a hin hout hl hla hs hc hp hG hF;refine Ad.none rfl ?_;have e3:a.tmps.getD 3 undef=.pointer (some ⟨w0.heap.size+1,0,none⟩):=hout 3 (Ae (by kernel_rfl));have CC:=SOF.out w hG;obtain ⟨C0,C1,C2,D0,D1,D2⟩:=CC;refine Does.val (.agg #[.slice A2 n2 c2,.bool s2,.slice B2 m2 d2]) (w':=w) ?_ ⟨Below.refl _ _,rfl,hG⟩;go_simp
   · intro l9 σ w a hin hout hl hla hs hc hp hG hF;refine Ad.none rfl ?_;have e6:a.tmps.getD 6 undef=.agg #[.slice A2 n2 c2,.bool s2,.slice B2 m2 d2]:=Am (hin 1 6) rfl (hp ⟨1,.data⟩ (by simp) rfl) (hF 1);refine Does.call ?_ (JR _ M KM k w (HB.out.below hG) (by omega) (by omega)) ?_
     · go_simp
     · rintro e w' ⟨v,rfl,z,hb⟩;exact ⟨_,rfl,hb,z,hG.next hb⟩
   · intro l9 σ w a hin hout hl hla hs hc hp hG hF;refine Ad.none rfl ?_;have e5:a.tmps.getD 5 undef=.agg #[.slice A n c,.bool s,.slice B m d]:=Am (hin 0 5) rfl (hp ⟨0,.data⟩ (by simp) rfl) (hF 0);have e7:=hin 2 7 rfl (hp ⟨2,.data⟩ (by simp) rfl);have z2:=hF 2 (hp ⟨2,.data⟩ (by simp) rfl);refine Does.call ?_ (HAD.out w _ z2 hG) ?_
     · go_simp
     · rintro e w' ⟨v,rfl,z,hb⟩;exact ⟨_,rfl,hb,z,hG.next hb⟩
 · intro o ho;injection ho with ho;subst ho
   intro l9 σ w a hall hin hout hG hF;refine Ad.none rfl ?_;have e4:a.tmps.getD 4 undef=.pointer (some ⟨w0.heap.size+1+1,0,none⟩):=hout 4 (KH (by kernel_rfl));have e8:=hin 3 8 rfl (by decide);have z3:=hF 3 (by decide);have z3:=hF 3 (by decide);obtain ⟨A8,n8,c8,s8,B8,m8,d8,ev8⟩:=Aw.form z3;rw[ev8]at e8 z3;have HR8:=Ac (R0.out.next hG);have HT8:=Ac (T0.out.next hG)
   refine Does.store_box (T:=40) (cells:=#[.slice A8 n8 c8,.bool s8,.slice B8 m8 d8]) rfl e4 e8 HR8.out (by kernel_rfl) rfl (by simp[Value.oneCell']) (fun w2 x9 o9=>?_);rw[show fin _ σ undef _=(Act.put (Act.put (Act.put (Act.put (Act.put _ (some 5) (σ 0)) (some 6) (σ 1)) (some 7) (σ 2)) (some 8) (σ 3)) none undef) from (Bt hall).trans rfl];simp only[Act.put,List.setIfInBounds_toArray,List.set_cons_zero,List.set_cons_succ];have HZ8:=Ac (z3.only HR8.out o9);have HO:=Ac o9
   generalize σ 0=tt0 at *;generalize σ 1=tt1 at *;generalize σ 2=tt2 at *;generalize σ 3=tt3 at *;clear hF hG hall hin hout SOF z3 o9 e4 e8 ev8;go_wp2_with fail;refine BJ rfl rfl x9 rfl ?_;exact BG.eq ⟨_,rfl,HZ8.out,AE HT8.out (by omega) HO.out⟩ (ED (fun _=>rfl) (fun x=>by rw[DJ];simp)) (by omega)
end
section
open Go.RowKit
open Tm
theorem Ex (L:List (Int×Int)) (q:Nat) (u c x:Int) (h:L[q]?=some (u,c)):AB (L.take (q+1)) x=AB (L.take q) x+(if u=x/\0<=x then c else 0):=by rw[List.take_add_one,h,CK];simp[AB]
def Ho (w0 W1:World) (L:List (Int×Int)) (x:Int) (k q:Nat) (wr:World):Prop:=
 ∃s A n c,AH wr (w0.heap.size+1+1) #[.bool s,.slice A n c]/\Au wr (.agg #[.bool s,.slice A n c]) (AB (L.take q) x) (k+q)/\Below (w0.heap.size+1+1) W1 wr
theorem Gk (v:Value) (L:List (Int×Int)) (K x:Int) (k:Nat) (w0:World) (hv:D9 w0 v L K k) (hl:L.length<=1099511) (hk:k<=1099511627):Calls Tryz.prog 91 #[v,.int .i64 x] w0 (Cn (AB L x) (k+L.length) w0):=by
 obtain ⟨A,n,c,s,B,m,d,rfl,hp,hc1,hc2,-⟩:=hv;have hn:=hp.len;obtain ⟨z0,z1,z2,z3,z4⟩:=Cc 40 38 38 w0 #[.slice A n c,.bool s,.slice B m d] #[.bool false,.slice none 0 0] #[.bool false,.slice none 0 0];have x0:=z0.c0;rw[hn]at hl;have HN:=Ac hn;clear hn;go_enter Tryz.func91,Tryz.ntmps91;go_wp2_with fail
 generalize hW1:(((w0.alloc (.cells #[.slice A n c,.bool s,.slice B m d] 40)).alloc (.cells #[.bool false,.slice none 0 0] 38)).alloc (.cells #[.bool false,.slice none 0 0] 38))=W1 at *;clear hW1 x0;have HS:=Ac (show Ho w0 W1 L x k 0 W1 from ⟨false,none,0,0,z2,Au.zero _ _,Below.refl _ _⟩);have R0:=Ac z1;have T0:=Ac z3;have HZ4:=Ac z4;have HP0:=Ac hp;have Z0:=Ac z0;clear z0 z1 z2 z3 z4 hp
 go_loopw [6] (fun i wr=>∃q:Nat,q<=n/\i=.int .i64 q/\Hid (Ho w0 W1 L x k q wr)) (fun i _=>n-(intOf i).toNat)
 case atStart=>exact ⟨0,Nat.zero_le _,rfl,HS⟩
 case round=>
  obtain ⟨q,hq,rfl,HR⟩:=hrel;obtain ⟨s5,A5,n5,c5,b5,zz5,hB⟩:=HR.out;have hBW:w0.heap.size+1+1<=W1.heap.size:=by have:=HZ4.out;omega
  have zt:=Z0.out.below hB (by omega);have hT:Below w0.heap.size w0 wr:=T0.out.trans (hB.mono (by omega));have x0:=zt.c0;by_cases hqn:q<n
  · have hPw:FE wr A n L k:=by
      obtain ⟨ps,h1,h2⟩:=HP0.out;exact ⟨ps,h1.below hT,h2⟩
    obtain ⟨bb,o,p,rfl,hlt,hLp,c0,c1,c2,hz⟩:=hPw.at_ hqn;by_cases hpx:p.v=x
    · by_cases hx0:0<=x
      · have HC:=Ac (show AB (L.take q) x+p.Z=AB (L.take (q+1)) x by rw[Ex L q _ _ x hLp,if_pos ⟨hpx,hx0⟩]);have hbb:(p.v==x)=true:=(by simpa using hpx);have HZ:=Ac hz;have HZ5:=Ac zz5;generalize hY:AB (L.take q) x=Y at *;clear hY hz zz5 hLp hpx HR;have HB5:=Ac b5;have HZT:=Ac zt;have HBB:=Ac hB;have HTT:=Ac hT;have b50:=b5.c0;have b51:=b5.c1;go_wp2_with fail;clear b50 b51 x0
        have HA:=Ac (fun W (h:Below wr.heap.size wr W)=>Jb (.agg #[.bool s5,.slice A5 n5 c5]) (.agg #[.bool p.s,.slice p.B p.m p.d]) Y p.Z (k+q) W ((HZ5.out.in_).below h) ((HZ.out.mono (by omega)).below h) (by omega))
        have SOF:=Ac (show ∀W,Below wr.heap.size wr W->(W.cell? ⟨w0.heap.size+1+1,0,none⟩=some (.bool s5)/\W.cell? ⟨w0.heap.size+1+1,1,none⟩=some (.slice A5 n5 c5)/\W.cell? ⟨w0.heap.size,0,none⟩=some (.slice (some ⟨bb,o,none⟩) n c)/\W.cell? ⟨bb,o+q*3+1,none⟩=some (.bool p.s)/\W.cell? ⟨bb,o+q*3+2,none⟩=some (.slice p.B p.m p.d)) from fun W h=>⟨(HB5.out.next h).c0,(HB5.out.next h).c1,(HZT.out.next h).c0,(h.cell (p:=⟨bb,o+q*3+1,none⟩) hlt).trans c1,(h.cell (p:=⟨bb,o+q*3+2,none⟩) hlt).trans c2⟩)
        clear b5 zt c0 c1 c2 hB hT
        refine AW (by kernel_rfl) (by kernel_rfl) (by kernel_rfl) (by kernel_rfl) (fun w w'=>Below w.heap.size w w') (fun j v w=>match j with|0=>v=.agg #[.bool s5,.slice A5 n5 c5]|1=>v=.pointer (some ⟨w0.heap.size,0,none⟩)|2=>v=.slice (some ⟨bb,o,none⟩) n c|3=>v=.int .i64 (q:Int)|4=>v=.pointer (some ⟨bb,o+q*3,none⟩)|5=>v=.pointer (some ⟨bb,o+q*3+1,none⟩)|6=>v=.agg #[.bool p.s,.slice p.B p.m p.d]|7=>Au w v (Y+p.Z) (k+q+1)|_=>True) (fun _ _ w=>Below wr.heap.size wr w) ?_ (fun _=>Ap wr 1) ?_ ?_
        · intro j v w w' hT h;match j,h with
          |0,h=>exact h
          |1,h=>exact h
          |2,h=>exact h
          |3,h=>exact h
          |4,h=>exact h
          |5,h=>exact h
          |6,h=>exact h
          |7,h=>exact h.below hT
          |j+8,h=>trivial
        · refine ⟨?_,?_,?_,?_,?_,?_,?_,?_,trivial⟩
          · intro l9 σ w a hin hout hl hla hs hc hp hG hF;refine Ad.none rfl ?_;have e5:a.tmps.getD 5 undef=.pointer (some ⟨w0.heap.size+1+1,0,none⟩):=hout 5 (Ae (by kernel_rfl));have CC:=SOF.out w hG;obtain ⟨C0,C1,C2,D0,D1⟩:=CC;refine Does.val (.agg #[.bool s5,.slice A5 n5 c5]) (w':=w) ?_ ⟨Below.refl _ _,rfl,hG⟩;go_simp
          · intro l9 σ w a hin hout hl hla hs hc hp hG hF;refine Ad.none rfl ?_;have e2:a.tmps.getD 2 undef=.pointer (some ⟨w0.heap.size,0,none⟩):=hout 2 (Ae (by kernel_rfl));refine Does.val (.pointer (some ⟨w0.heap.size,0,none⟩)) (w':=w) ?_ ⟨Below.refl _ _,rfl,hG⟩;simp only[Array.getD_eq_getD_getElem?]at e2;go_simp
          · intro l9 σ w a hin hout hl hla hs hc hp hG hF;refine Ad.none rfl ?_;have e28:a.tmps.getD 28 undef=.pointer (some ⟨w0.heap.size,0,none⟩):=Am (hin 1 28) rfl (hp ⟨1,.data⟩ (by simp) rfl) (hF 1);have CC:=SOF.out w hG;obtain ⟨C0,C1,C2,D0,D1⟩:=CC;refine Does.val (.slice (some ⟨bb,o,none⟩) n c) (w':=w) ?_ ⟨Below.refl _ _,rfl,hG⟩;go_simp
          · intro l9 σ w a hin hout hl hla hs hc hp hG hF;refine Ad.none rfl ?_;have e6:a.tmps.getD 6 undef=.int .i64 (q:Int):=hout 6 (Ae (by kernel_rfl));refine Does.val (.int .i64 (q:Int)) (w':=w) ?_ ⟨Below.refl _ _,rfl,hG⟩;simp only[Array.getD_eq_getD_getElem?]at e6;go_simp
          · intro l9 σ w a hin hout hl hla hs hc hp hG hF;refine Ad.none rfl ?_;have e29:a.tmps.getD 29 undef=.slice (some ⟨bb,o,none⟩) n c:=Am (hin 2 29) rfl (hp ⟨2,.data⟩ (by simp) rfl) (hF 2);have e30:a.tmps.getD 30 undef=.int .i64 (q:Int):=Am (hin 3 30) rfl (hp ⟨3,.data⟩ (by simp) rfl) (hF 3);refine Does.val (.pointer (some ⟨bb,o+q*3,none⟩)) (w':=w) ?_ ⟨Below.refl _ _,rfl,hG⟩;simp only[Array.getD_eq_getD_getElem?]at e29 e30;go_simp
            (try (intro hh;exfalso;omega))
          · intro l9 σ w a hin hout hl hla hs hc hp hG hF;refine Ad.none rfl ?_;have e31:a.tmps.getD 31 undef=.pointer (some ⟨bb,o+q*3,none⟩):=Am (hin 4 31) rfl (hp ⟨4,.data⟩ (by simp) rfl) (hF 4);refine Does.val (.pointer (some ⟨bb,o+q*3+1,none⟩)) (w':=w) ?_ ⟨Below.refl _ _,rfl,hG⟩;simp only[Array.getD_eq_getD_getElem?]at e31;go_simp
          · intro l9 σ w a hin hout hl hla hs hc hp hG hF;refine Ad.none rfl ?_;have e32:a.tmps.getD 32 undef=.pointer (some ⟨bb,o+q*3+1,none⟩):=Am (hin 5 32) rfl (hp ⟨5,.data⟩ (by simp) rfl) (hF 5);have CC:=SOF.out w hG;obtain ⟨C0,C1,C2,D0,D1⟩:=CC;refine Does.val (.agg #[.bool p.s,.slice p.B p.m p.d]) (w':=w) ?_ ⟨Below.refl _ _,rfl,hG⟩;go_simp
          · intro l9 σ w a hin hout hl hla hs hc hp hG hF;refine Ad.none rfl ?_;have e27:a.tmps.getD 27 undef=.agg #[.bool s5,.slice A5 n5 c5]:=Am (hin 0 27) rfl (hp ⟨0,.data⟩ (by simp) rfl) (hF 0);have e33:a.tmps.getD 33 undef=.agg #[.bool p.s,.slice p.B p.m p.d]:=Am (hin 6 33) rfl (hp ⟨6,.data⟩ (by simp) rfl) (hF 6);refine Does.call ?_ (HA.out w hG) ?_
            · go_simp
            · rintro e w' ⟨v,rfl,z,hb⟩;exact ⟨_,rfl,hb,z,hG.next hb⟩
        · intro o ho;injection ho with ho;subst ho
          intro l9 σ w a hall hin hout hG hF;refine Ad.none rfl ?_;have e5:a.tmps.getD 5 undef=.pointer (some ⟨w0.heap.size+1+1,0,none⟩):=hout 5 (KH (by kernel_rfl));have e34:=hin 7 34 rfl (by decide);have z7:=hF 7 (by decide);have z7:=hF 7 (by decide);obtain ⟨s8,A8,n8,c8,ev8⟩:=Au.form z7;rw[ev8]at e34 z7;have HX:=Ac (HB5.out.next hG)
          refine Does.store_box (T:=38) (cells:=#[.bool s8,.slice A8 n8 c8]) rfl e5 e34 (AH.box HX.out) (by kernel_rfl) rfl (by simp[Value.oneCell']) (fun w2 x9 o9=>?_);rw[show fin _ σ undef _=(Act.put (Act.put (Act.put (Act.put (Act.put (Act.put (Act.put (Act.put (Act.put _ (some 27) (σ 0)) (some 28) (σ 1)) (some 29) (σ 2)) (some 30) (σ 3)) (some 31) (σ 4)) (some 32) (σ 5)) (some 33) (σ 6)) (some 34) (σ 7)) none undef) from (Bt hall).trans rfl]
          simp only[Act.put,List.setIfInBounds_toArray,List.set_cons_zero,List.set_cons_succ];have HE:=Ac (show Ho w0 W1 L x k (q+1) w2 from ⟨s8,A8,n8,c8,x9,by rw[<-HC.out];exact (z7.only HX.out o9).mono (by omega),(HBB.out.trans (hG.mono (Nat.le_trans hBW HBB.out.size))).trans (o9.below (Nat.le_trans hBW (Nat.le_trans HBB.out.size hG.size)) (Nat.le_refl _))⟩)
          generalize σ 0=tt0 at *;generalize σ 1=tt1 at *;generalize σ 2=tt2 at *;generalize σ 3=tt3 at *;generalize σ 4=tt4 at *;generalize σ 5=tt5 at *;generalize σ 6=tt6 at *;generalize σ 7=tt7 at *;clear hF hG hall hin hout SOF HA z7 x9 o9 e5 e34 ev8;go_wp2_with fail;go_roundw
          case rel=>exact ⟨q+1,by omega,by go_num,HE⟩
          case measure=>simp[intOf]<;>omega
      · have HE:=Ac (show Ho w0 W1 L x k (q+1) wr from ⟨s5,A5,n5,c5,b5,by rw[Ex L q _ _ x hLp,if_neg (fun h=>hx0 h.2),Int.add_zero];exact zz5.mono (by omega),hB⟩);have hbb:(p.v==x)=true:=(by simpa using hpx);clear zz5 hLp hpx HR hz b5;go_wp2_with fail;go_roundw
        case rel=>exact ⟨q+1,by omega,by go_num,HE⟩
        case measure=>simp[intOf]<;>omega
    · have HE:=Ac (show Ho w0 W1 L x k (q+1) wr from ⟨s5,A5,n5,c5,b5,by rw[Ex L q _ _ x hLp,if_neg (fun h=>hpx h.1),Int.add_zero];exact zz5.mono (by omega),hB⟩);have hbb:(p.v==x)=false:=(by simpa using hpx);clear zz5 hLp hpx HR hz b5;go_wp2_with fail;go_roundw
      case rel=>exact ⟨q+1,by omega,by go_num,HE⟩
      case measure=>simp[intOf]<;>omega
  · obtain rfl:q=n:=(by omega);have HL:=Ac (show AB (L.take q) x=AB L x by rw[List.take_of_length_le (by rw[HN.out];exact Nat.le_refl _)]);have b50:=b5.c0;have b51:=b5.c1;have k1:AH wr (w0.heap.size+1) #[.bool false,.slice none 0 0]:=AK.below R0.out hB (by omega);have HZ5:=Ac zz5;have HT:=Ac hT;clear zz5 b5 HR hT;go_wp2_with (with_reducible refine An rfl _ _ rfl (w0.heap.size+1) _ _ _ _ rfl rfl _ _ k1 ?_;intro w3 k3 ho3);refine Ay rfl rfl k3 rfl ?_
    refine ⟨_,rfl,?_,AE HT.out (by omega) ho3⟩;rw[HN.out,<-HL.out];exact HZ5.out.only k1 ho3
end
end Go.Proofs.YtmedjkhmadfjlaaGreat
