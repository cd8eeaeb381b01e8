/- Texts of one seat, put together: ExprS2 ExprRw. -/
import Derived.Test.YtgohmojcopajoaaGreatDoorP24
set_option linter.unusedVariables false
set_option linter.unusedSimpArgs false
set_option maxRecDepth 100000
set_option maxHeartbeats 16000000
namespace Go.Proofs.YtgohmojcopajoaaGreatDoor
section
open Go.RowKit
open Lx Ex
def Ye:Nat:=0
theorem Bq.shape {S:Nat->Prop} {w:World} {t:GT} {vs:List Value} (h:Bq S w t vs):∃(kd:Int) (Al:Option Addr) (nl cl:Nat) (Ar:Option Addr) (nr cr:Nat) (op:Int) (p q:ByteArray) (A:Option Addr) (n c:Nat),vs=[.int .i64 kd,.slice Al nl cl,.slice Ar nr cr,.int .i64 op,.string p,.string q,.slice A n c]:=by cases h;exact ⟨_,_,_,_,_,_,_,_,_,_,_,_,_,rfl⟩
inductive FO:GT->Prop where
 |mk (k op:Int) (l r:List Mn) (p q:ByteArray) (kids:List GT):l.length<=1000000->r.length<=1000000->kids.length<=1000000->(∀(j:Nat) (t:GT),kids[j]?=some t->FO t)->FO (.mk k l r op p q kids)
theorem Sc {S:Nat->Prop} {W0:World} {t:GT} {vs:List Value} (h1:Bq S W0 t vs):FO t->∀(w0:World) (S':Nat->Prop) (us:List Value),Below W0.heap.size W0 w0->Bq S' w0 t us->Calls Tryz.prog 14 #[.agg vs.toArray,.agg us.toArray] w0 (Eu w0):=by
 induction h1 with
 |mk kd op l r p q kids Al Ar A nl cl nr cr n c ba oa cs g1 g2 g3 g4 g5 g6 g7 g8 g9 g10 g11 g12 ih=>
  intro hsm w0 S' us hb0 h2;cases h2 with
  |mk _ _ _ _ _ _ _ Bl Br B Cc dl nr2 dr n2 d bb ob cs2 f1 f2 f3 f4 f5 f6 f7 f8 f9 f10 f11 f12=>
   cases hsm with
   |mk _ _ _ _ _ _ _ z1 z2 z3 z4=>
   obtain rfl:Cc=nl:=f1.1.symm.trans g1.1;obtain rfl:nr2=nr:=f2.1.symm.trans g2.1;obtain rfl:n2=n:=f3.symm.trans g3;show Calls _ _ #[.agg #[.int .i64 kd,.slice Al Cc cl,.slice Ar nr2 cr,.int .i64 op,.string p,.string q,.slice A n2 c],.agg #[.int .i64 kd,.slice Bl Cc dl,.slice Br nr2 dr,.int .i64 op,.string p,.string q,.slice B n2 d]] w0 _
   have hs1:=fun W (hW:Below w0.heap.size w0 W)=>Gh S S' Al Bl Cc cl dl l W ((g1.keep (As.of_below hb0)).keep (As.of_below hW)) (f1.keep (As.of_below hW)) (by rw[<-g1.1];omega)
   have hs2:=fun W (hW:Below w0.heap.size w0 W)=>Gh S S' Ar Br nr2 cr dr r W ((g2.keep (As.of_below hb0)).keep (As.of_below hW)) (f2.keep (As.of_below hW)) (by rw[<-g2.1];omega)
   have HS1:=Aa hs1;have HS2:=Aa hs2;unfold Eu at HS1 HS2;obtain ⟨x0,x1,x2,-⟩:=Aw 33 33 w0 #[.int .i64 kd,.slice Al Cc cl,.slice Ar nr2 cr,.int .i64 op,.string p,.string q,.slice A n2 c] #[.int .i64 kd,.slice Bl Cc dl,.slice Br nr2 dr,.int .i64 op,.string p,.string q,.slice B n2 d];have HB:=Aa x2;have X0:=Aa x0;have X1:=Aa x1;have zx0:=x0.lt;have zx1:=x1.lt;have hnn:(((n2:Int)) != (n2:Int))=false:=(by simp);have hn2:n2<=1000000:=(by omega);have G10:=Aa g10;have F10:=Aa f10
   have HSTEP:=Aa (show ∀qx,qx<n2->∀wr,Below w0.heap.size w0 wr->∃(kd1:Int) (Al1:Option Addr) (nl1:Nat) (cl1:Nat) (Ar1:Option Addr) (nr1:Nat) (cr1:Nat) (op1:Int) (p1:ByteArray) (q1:ByteArray) (A1:Option Addr) (n1:Nat) (c1:Nat) (kd9:Int) (Al9:Option Addr) (nl9:Nat) (cl9:Nat) (Ar9:Option Addr) (nr9:Nat) (cr9:Nat) (op9:Int) (p9:ByteArray) (q9:ByteArray) (A9:Option Addr) (n9:Nat) (c9:Nat),(wr.cell? ⟨ba,oa+qx*7,none⟩=some (.int .i64 kd1)/\wr.cell? ⟨ba,oa+qx*7+1,none⟩=some (.slice Al1 nl1 cl1)/\wr.cell? ⟨ba,oa+qx*7+2,none⟩=some (.slice Ar1 nr1 cr1)/\wr.cell? ⟨ba,oa+qx*7+3,none⟩=some (.int .i64 op1)/\wr.cell? ⟨ba,oa+qx*7+4,none⟩=some (.string p1)/\wr.cell? ⟨ba,oa+qx*7+5,none⟩=some (.string q1)/\wr.cell? ⟨ba,oa+qx*7+6,none⟩=some (.slice A1 n1 c1)/\wr.cell? ⟨bb,ob+qx*7,none⟩=some (.int .i64 kd9)/\wr.cell? ⟨bb,ob+qx*7+1,none⟩=some (.slice Al9 nl9 cl9)/\wr.cell? ⟨bb,ob+qx*7+2,none⟩=some (.slice Ar9 nr9 cr9)/\wr.cell? ⟨bb,ob+qx*7+3,none⟩=some (.int .i64 op9)/\wr.cell? ⟨bb,ob+qx*7+4,none⟩=some (.string p9)/\wr.cell? ⟨bb,ob+qx*7+5,none⟩=some (.string q9)/\wr.cell? ⟨bb,ob+qx*7+6,none⟩=some (.slice A9 n9 c9))/\(∀W,Below wr.heap.size wr W->Calls Tryz.prog 14 #[.agg #[.int .i64 kd1,.slice Al1 nl1 cl1,.slice Ar1 nr1 cr1,.int .i64 op1,.string p1,.string q1,.slice A1 n1 c1],.agg #[.int .i64 kd9,.slice Al9 nl9 cl9,.slice Ar9 nr9 cr9,.int .i64 op9,.string p9,.string q9,.slice A9 n9 c9]] W (Eu W)) from by
    intro qx hq wr hwr;have hk:qx<kids.length:=(by omega);have ht:kids[qx]?=some kids[qx]:=List.getElem?_eq_getElem hk;obtain ⟨kd1,Al1,nl1,cl1,Ar1,nr1,cr1,op1,p1,q1,A1,n1,c1,e1⟩:=(g12 qx _ ht).shape;obtain ⟨kd9,Al9,nl9,cl9,Ar9,nr9,cr9,op9,p9,q9,A9,n9,c9,e2⟩:=(f12 qx _ ht).shape;have cc1:=(g11 qx hq).2;have cc2:=(f11 qx hq).2;have hwa:=hb0.next hwr
    have d1:∀m u,(cs qx)[m]?=some u->wr.cell? ⟨ba,oa+qx*7+m,none⟩=some u:=fun m u hu=>(Ah hwa (g10 (by omega)).2.2).trans (cc1 m u hu)
    have d2:∀m u,(cs2 qx)[m]?=some u->wr.cell? ⟨bb,ob+qx*7+m,none⟩=some u:=fun m u hu=>(Ah hwr (f10 (by omega)).2.2).trans (cc2 m u hu)
    rw[e1]at d1;rw[e2]at d2;refine ⟨kd1,Al1,nl1,cl1,Ar1,nr1,cr1,op1,p1,q1,A1,n1,c1,kd9,Al9,nl9,cl9,Ar9,nr9,cr9,op9,p9,q9,A9,n9,c9,⟨d1 0 _ rfl,d1 1 _ rfl,d1 2 _ rfl,d1 3 _ rfl,d1 4 _ rfl,d1 5 _ rfl,d1 6 _ rfl,d2 0 _ rfl,d2 1 _ rfl,d2 2 _ rfl,d2 3 _ rfl,d2 4 _ rfl,d2 5 _ rfl,d2 6 _ rfl⟩,fun W hW=>?_⟩;have:=ih qx _ ht (z4 qx _ ht) W S' (cs2 qx) (hwa.next hW) ((f12 qx _ ht).keep (As.of_below (hwr.next hW)));rw[e1,e2]at this;exact this)
   clear g1 g2 g3 g4 g5 g6 g7 g8 g9 g10 g11 g12 f1 f2 f3 f4 f5 f6 f7 f8 f9 f10 f11 f12 ih z1 z2 z3 z4 hs1 hs2 x0 x1 x2;have u0:=X0.out.cell 0 _ rfl;have u1:=X0.out.cell 1 _ rfl;have u2:=X0.out.cell 2 _ rfl;have u3:=X0.out.cell 3 _ rfl;have u4:=X0.out.cell 4 _ rfl;have u5:=X0.out.cell 5 _ rfl;have u6:=X0.out.cell 6 _ rfl;have v0:=X1.out.cell 0 _ rfl;have v1:=X1.out.cell 1 _ rfl;have v2:=X1.out.cell 2 _ rfl;have v3:=X1.out.cell 3 _ rfl;have v4:=X1.out.cell 4 _ rfl
   have v5:=X1.out.cell 5 _ rfl;have v6:=X1.out.cell 6 _ rfl;go_enter Tryz.func14,Tryz.ntmps14;go_wp2_with fail;refine (HS1.out _ HB.out).mono ?_;rintro e w1 ⟨rfl,bq⟩;have HB1:=Aa (HB.out.next bq);have X01:=Aa (X0.out.next bq);have X11:=Aa (X1.out.next bq);clear u0 u1 u2 u3 u4 u5 u6 v0 v1 v2 v3 v4 v5 v6 bq;have u2:=X01.out.cell 2 _ rfl;have v2:=X11.out.cell 2 _ rfl;go_wp2_with fail;refine (HS2.out _ HB1.out).mono ?_;rintro e w2 ⟨rfl,bq⟩;have HB2:=Aa (HB1.out.next bq)
   have X02:=Aa (X01.out.next bq);have X12:=Aa (X11.out.next bq);clear u2 v2 bq;have u6:=X02.out.cell 6 _ rfl;have v6:=X12.out.cell 6 _ rfl;go_wp2_with fail;clear u6 v6;go_loopw [5] (fun i wr=>∃q:Nat,q<=n2/\i=.int .i64 q/\Hid (Below w2.heap.size w2 wr)) (fun i _=>n2-(intOf i).toNat)
   case atStart=>exact ⟨0,Nat.zero_le _,rfl,Aa (Below.refl _ _)⟩
   case round=>
    obtain ⟨qx,hq,rfl,HR⟩:=hrel;have X0r:=X02.out.next HR.out;have X1r:=X12.out.next HR.out;have u6:=X0r.cell 6 _ rfl;have v6:=X1r.cell 6 _ rfl;by_cases hqn:qx<n2
    · obtain ⟨kd1,Al1,nl1,cl1,Ar1,nr1,cr1,op1,p1,q1,A1,n1,c1,kd9,Al9,nl9,cl9,Ar9,nr9,cr9,op9,p9,q9,A9,n9,c9,⟨d0,d1,d2,d3,d4,d5,d6,e0,e1,e2,e3,e4,e5,e6⟩,hrec⟩:=HSTEP.out qx hqn wr (HB2.out.next HR.out);have HREC:=Aa hrec;unfold Eu at HREC;obtain ⟨rfl,-,hba⟩:=G10.out (by omega);obtain ⟨rfl,-,hbb⟩:=F10.out (by omega);have hba2:ba<wr.heap.size:=World.block_lt_of_cell? wr _ d0;have hbb2:bb<wr.heap.size:=World.block_lt_of_cell? wr _ e0;have hxa:=X0r.lt;have hxb:=X1r.lt
      have SOF:=Aa (show ∀W,Below wr.heap.size wr W->(W.cell? ⟨w0.heap.size,6,none⟩=some (.slice (some ⟨ba,oa,none⟩) n2 c)/\W.cell? ⟨w0.heap.size+1,6,none⟩=some (.slice (some ⟨bb,ob,none⟩) n2 d)/\W.cell? ⟨ba,oa+qx*7,none⟩=some (.int .i64 kd1)/\W.cell? ⟨ba,oa+qx*7+1,none⟩=some (.slice Al1 nl1 cl1)/\W.cell? ⟨ba,oa+qx*7+2,none⟩=some (.slice Ar1 nr1 cr1)/\W.cell? ⟨ba,oa+qx*7+3,none⟩=some (.int .i64 op1)/\W.cell? ⟨ba,oa+qx*7+4,none⟩=some (.string p1)/\W.cell? ⟨ba,oa+qx*7+5,none⟩=some (.string q1)/\W.cell? ⟨ba,oa+qx*7+6,none⟩=some (.slice A1 n1 c1)/\W.cell? ⟨bb,ob+qx*7,none⟩=some (.int .i64 kd9)/\W.cell? ⟨bb,ob+qx*7+1,none⟩=some (.slice Al9 nl9 cl9)/\W.cell? ⟨bb,ob+qx*7+2,none⟩=some (.slice Ar9 nr9 cr9)/\W.cell? ⟨bb,ob+qx*7+3,none⟩=some (.int .i64 op9)/\W.cell? ⟨bb,ob+qx*7+4,none⟩=some (.string p9)/\W.cell? ⟨bb,ob+qx*7+5,none⟩=some (.string q9)/\W.cell? ⟨bb,ob+qx*7+6,none⟩=some (.slice A9 n9 c9)) from fun W h=>⟨(Ah h hxa).trans u6,(Ah h hxb).trans v6,(Ah h hba2).trans d0,(Ah h hba2).trans d1,(Ah h hba2).trans d2,(Ah h hba2).trans d3,(Ah h hba2).trans d4,(Ah h hba2).trans d5,(Ah h hba2).trans d6,(Ah h hbb2).trans e0,(Ah h hbb2).trans e1,(Ah h hbb2).trans e2,(Ah h hbb2).trans e3,(Ah h hbb2).trans e4,(Ah h hbb2).trans e5,(Ah h hbb2).trans e6⟩)
      go_upto_region 6 with fail;clear d0 d1 d2 d3 d4 d5 d6 e0 e1 e2 e3 e4 e5 e6 u6 v6 hrec
      refine AJ (by kernel_rfl) (by kernel_rfl) (by kernel_rfl) (fun w w'=>Below w.heap.size w w') (fun j v w=>match j with|0=>v=.pointer (some ⟨w0.heap.size,6,none⟩)|1=>v=.slice (some ⟨ba,oa,none⟩) n2 c|2=>v=.int .i64 (qx:Int)|3=>v=.pointer (some ⟨ba,oa+qx*7,none⟩)|4=>v=.agg #[.int .i64 kd1,.slice Al1 nl1 cl1,.slice Ar1 nr1 cr1,.int .i64 op1,.string p1,.string q1,.slice A1 n1 c1]|5=>v=.pointer (some ⟨w0.heap.size+1,6,none⟩)|6=>v=.slice (some ⟨bb,ob,none⟩) n2 d|7=>v=.int .i64 (qx:Int)|8=>v=.pointer (some ⟨bb,ob+qx*7,none⟩)|9=>v=.agg #[.int .i64 kd9,.slice Al9 nl9 cl9,.slice Ar9 nr9 cr9,.int .i64 op9,.string p9,.string q9,.slice A9 n9 c9]|10=>v=.bool true|11=>v=.bool false|_=>True) (fun _ _ w=>Below wr.heap.size wr w) ?_ (fun _=>Ai wr 1) ?_ ?_
      · intro j v w w' hT h;match j,h with
        |0,h=>exact h
        |1,h=>exact h
        |2,h=>exact h
        |3,h=>exact h
        |4,h=>exact h
        |5,h=>exact h
        |6,h=>exact h
        |7,h=>exact h
        |8,h=>exact h
        |9,h=>exact h
        |10,h=>exact h
        |11,h=>exact h
        |j+12,h=>trivial
      · refine ⟨?_,?_,?_,?_,?_,?_,?_,?_,?_,?_,?_,?_,trivial⟩
        · intro listed σ w a hin hout hl hc hp hG hF;refine Ac.none rfl ?_;have e2:a.tmps.getD 2 undef=.pointer (some ⟨w0.heap.size,0,none⟩):=hout 2 (Af (by kernel_rfl));refine Does.val (.pointer (some ⟨w0.heap.size,6,none⟩)) (w':=w) ?_ ⟨Below.refl _ _,rfl,hG⟩;simp only[Array.getD_eq_getD_getElem?]at e2;go_simp
        · intro listed σ w a hin hout hl hc hp hG hF;refine Ac.none rfl ?_;have e64:a.tmps.getD 64 undef=.pointer (some ⟨w0.heap.size,6,none⟩):=(hin 0 64 rfl (hp ⟨0,.data⟩ (by simp) rfl)).trans (hF 0 (hp ⟨0,.data⟩ (by simp) rfl));have CC:=SOF.out w hG;obtain ⟨C0,C1,D0,D1,D2,D3,D4,D5,D6,E0,E1,E2,E3,E4,E5,E6⟩:=CC;refine Does.val (.slice (some ⟨ba,oa,none⟩) n2 c) (w':=w) ?_ ⟨Below.refl _ _,rfl,hG⟩;go_simp
        · intro listed σ w a hin hout hl hc hp hG hF;refine Ac.none rfl ?_;have e5:a.tmps.getD 5 undef=.int .i64 (qx:Int):=hout 5 (Af (by kernel_rfl));refine Does.val (.int .i64 (qx:Int)) (w':=w) ?_ ⟨Below.refl _ _,rfl,hG⟩;simp only[Array.getD_eq_getD_getElem?]at e5;go_simp
        · intro listed σ w a hin hout hl hc hp hG hF;refine Ac.none rfl ?_;have e65:a.tmps.getD 65 undef=.slice (some ⟨ba,oa,none⟩) n2 c:=(hin 1 65 rfl (hp ⟨1,.data⟩ (by simp) rfl)).trans (hF 1 (hp ⟨1,.data⟩ (by simp) rfl));have e66:a.tmps.getD 66 undef=.int .i64 (qx:Int):=(hin 2 66 rfl (hp ⟨2,.data⟩ (by simp) rfl)).trans (hF 2 (hp ⟨2,.data⟩ (by simp) rfl));refine Does.val (.pointer (some ⟨ba,oa+qx*7,none⟩)) (w':=w) ?_ ⟨Below.refl _ _,rfl,hG⟩
          simp only[Array.getD_eq_getD_getElem?]at e65 e66;go_simp;(try (intro hh;exfalso;omega))
        · intro listed σ w a hin hout hl hc hp hG hF;refine Ac.none rfl ?_;have e67:a.tmps.getD 67 undef=.pointer (some ⟨ba,oa+qx*7,none⟩):=(hin 3 67 rfl (hp ⟨3,.data⟩ (by simp) rfl)).trans (hF 3 (hp ⟨3,.data⟩ (by simp) rfl));have CC:=SOF.out w hG;obtain ⟨C0,C1,D0,D1,D2,D3,D4,D5,D6,E0,E1,E2,E3,E4,E5,E6⟩:=CC
          refine Does.val (.agg #[.int .i64 kd1,.slice Al1 nl1 cl1,.slice Ar1 nr1 cr1,.int .i64 op1,.string p1,.string q1,.slice A1 n1 c1]) (w':=w) ?_ ⟨Below.refl _ _,rfl,hG⟩;go_simp
        · intro listed σ w a hin hout hl hc hp hG hF;refine Ac.none rfl ?_;have e3:a.tmps.getD 3 undef=.pointer (some ⟨w0.heap.size+1,0,none⟩):=hout 3 (Af (by kernel_rfl));refine Does.val (.pointer (some ⟨w0.heap.size+1,6,none⟩)) (w':=w) ?_ ⟨Below.refl _ _,rfl,hG⟩;simp only[Array.getD_eq_getD_getElem?]at e3;go_simp
        · intro listed σ w a hin hout hl hc hp hG hF;refine Ac.none rfl ?_;have e69:a.tmps.getD 69 undef=.pointer (some ⟨w0.heap.size+1,6,none⟩):=(hin 5 69 rfl (hp ⟨5,.data⟩ (by simp) rfl)).trans (hF 5 (hp ⟨5,.data⟩ (by simp) rfl));have CC:=SOF.out w hG;obtain ⟨C0,C1,D0,D1,D2,D3,D4,D5,D6,E0,E1,E2,E3,E4,E5,E6⟩:=CC;refine Does.val (.slice (some ⟨bb,ob,none⟩) n2 d) (w':=w) ?_ ⟨Below.refl _ _,rfl,hG⟩;go_simp
        · intro listed σ w a hin hout hl hc hp hG hF;refine Ac.none rfl ?_;have e5:a.tmps.getD 5 undef=.int .i64 (qx:Int):=hout 5 (Af (by kernel_rfl));refine Does.val (.int .i64 (qx:Int)) (w':=w) ?_ ⟨Below.refl _ _,rfl,hG⟩;simp only[Array.getD_eq_getD_getElem?]at e5;go_simp
        · intro listed σ w a hin hout hl hc hp hG hF;refine Ac.none rfl ?_;have e70:a.tmps.getD 70 undef=.slice (some ⟨bb,ob,none⟩) n2 d:=(hin 6 70 rfl (hp ⟨6,.data⟩ (by simp) rfl)).trans (hF 6 (hp ⟨6,.data⟩ (by simp) rfl));have e71:a.tmps.getD 71 undef=.int .i64 (qx:Int):=(hin 7 71 rfl (hp ⟨7,.data⟩ (by simp) rfl)).trans (hF 7 (hp ⟨7,.data⟩ (by simp) rfl));refine Does.val (.pointer (some ⟨bb,ob+qx*7,none⟩)) (w':=w) ?_ ⟨Below.refl _ _,rfl,hG⟩
          simp only[Array.getD_eq_getD_getElem?]at e70 e71;go_simp;(try (intro hh;exfalso;omega))
        · intro listed σ w a hin hout hl hc hp hG hF;refine Ac.none rfl ?_;have e72:a.tmps.getD 72 undef=.pointer (some ⟨bb,ob+qx*7,none⟩):=(hin 8 72 rfl (hp ⟨8,.data⟩ (by simp) rfl)).trans (hF 8 (hp ⟨8,.data⟩ (by simp) rfl));have CC:=SOF.out w hG;obtain ⟨C0,C1,D0,D1,D2,D3,D4,D5,D6,E0,E1,E2,E3,E4,E5,E6⟩:=CC
          refine Does.val (.agg #[.int .i64 kd9,.slice Al9 nl9 cl9,.slice Ar9 nr9 cr9,.int .i64 op9,.string p9,.string q9,.slice A9 n9 c9]) (w':=w) ?_ ⟨Below.refl _ _,rfl,hG⟩;go_simp
        · intro listed σ w a hin hout hl hc hp hG hF;refine Ac.none rfl ?_;have e68:a.tmps.getD 68 undef=.agg #[.int .i64 kd1,.slice Al1 nl1 cl1,.slice Ar1 nr1 cr1,.int .i64 op1,.string p1,.string q1,.slice A1 n1 c1]:=(hin 4 68 rfl (hp ⟨4,.data⟩ (by simp) rfl)).trans (hF 4 (hp ⟨4,.data⟩ (by simp) rfl))
          have e73:a.tmps.getD 73 undef=.agg #[.int .i64 kd9,.slice Al9 nl9 cl9,.slice Ar9 nr9 cr9,.int .i64 op9,.string p9,.string q9,.slice A9 n9 c9]:=(hin 9 73 rfl (hp ⟨9,.data⟩ (by simp) rfl)).trans (hF 9 (hp ⟨9,.data⟩ (by simp) rfl));refine Does.call ?_ (HREC.out w hG) ?_
          · go_simp
          · rintro e w' ⟨rfl,hb⟩;exact ⟨_,rfl,hb,rfl,hG.next hb⟩
        · intro listed σ w a hin hout hl hc hp hG hF;refine Ac.none rfl ?_;have e74:a.tmps.getD 74 undef=.bool true:=(hin 10 74 rfl (hp ⟨10,.data⟩ (by simp) rfl)).trans (hF 10 (hp ⟨10,.data⟩ (by simp) rfl));refine Does.val (.bool false) (w':=w) ?_ ⟨Below.refl _ _,rfl,hG⟩;simp only[Array.getD_eq_getD_getElem?]at e74;go_simp
      · intro listed σ W9 hall hG hF;rw[show mid _ σ listed _=(Act.put (Act.put (Act.put (Act.put (Act.put (Act.put (Act.put (Act.put (Act.put (Act.put (Act.put (Act.put _ (some 64) (σ 0)) (some 65) (σ 1)) (some 66) (σ 2)) (some 67) (σ 3)) (some 68) (σ 4)) (some 69) (σ 5)) (some 70) (σ 6)) (some 71) (σ 7)) (some 72) (σ 8)) (some 73) (σ 9)) (some 74) (σ 10)) (some 75) (σ 11)) from (AZ hall).trans rfl];generalize σ 0=tt0;generalize σ 1=tt1;generalize σ 2=tt2
        generalize σ 3=tt3;generalize σ 4=tt4;generalize σ 5=tt5;generalize σ 6=tt6;generalize σ 7=tt7;generalize σ 8=tt8;generalize σ 9=tt9;generalize σ 10=tt10;rw[show σ 11=.bool false from hF 11 (by decide)];simp only[Act.put,List.setIfInBounds_toArray,List.set_cons_zero,List.set_cons_succ];have TG:=hG;clear hF hG hall;clear σ;have HR2:=Aa (HR.out.next TG);clear SOF TG HREC;go_wp2_with fail;go_roundw
        case rel=>exact ⟨qx+1,by omega,by go_num,HR2⟩
        case measure=>simp[intOf];omega
    · go_wp2_with fail;go_ret
      exact ⟨rfl,HB2.out.next HR.out⟩
end
section
open Go.RowKit
open Lx Ex
inductive Oz:GT->Prop where
 |mk (k op:Int) (l r:List Mn) (p q:ByteArray) (kids:List GT):On l->On r->l.length<=4611686018427387903->r.length<=4611686018427387903->(∀t∈kids,Oz t)->Oz (.mk k l r op p q kids)
theorem Bq.parts {S:Nat->Prop} {w:World} {t:GT} {kd:Int} {Al:Option Addr} {nl cl:Nat} {Ar:Option Addr} {nr cr:Nat} {op:Int} {p q:ByteArray} {A:Option Addr} {n c:Nat} (h:Bq S w t [.int .i64 kd,.slice Al nl cl,.slice Ar nr cr,.int .i64 op,.string p,.string q,.slice A n c]):∃l r ks,t=.mk kd l r op p q ks/\De S w Al nl l/\De S w Ar nr r/\ks.length=n/\nl<=cl/\cl<=9223372036854775807/\nr<=cr/\cr<=9223372036854775807/\n<=c/\c<=9223372036854775807 /\
  ∀j,j<n->∃b o u k2 Al2 Cc cl2 Ar2 nr2 cr2 op2 p2 q2 A2 n2 c2,A=some ⟨b,o,none⟩/\S b/\b<w.heap.size/\ks[j]?=some u/\Bq S w u [.int .i64 k2,.slice Al2 Cc cl2,.slice Ar2 nr2 cr2,.int .i64 op2,.string p2,.string q2,.slice A2 n2 c2] /\
   w.cell? ⟨b,o+j*7,none⟩=some (.int .i64 k2)/\w.cell? ⟨b,o+j*7+1,none⟩=some (.slice Al2 Cc cl2)/\w.cell? ⟨b,o+j*7+2,none⟩=some (.slice Ar2 nr2 cr2)/\w.cell? ⟨b,o+j*7+3,none⟩=some (.int .i64 op2)/\w.cell? ⟨b,o+j*7+4,none⟩=some (.string p2)/\w.cell? ⟨b,o+j*7+5,none⟩=some (.string q2)/\w.cell? ⟨b,o+j*7+6,none⟩=some (.slice A2 n2 c2):=by
 cases h with
 |mk _ _ l r _ _ ks _ _ _ _ _ _ _ _ _ b o cs h1 h2 h3 h4 h5 h6 h7 h8 h9 h10 h11 h12=>
  refine ⟨l,r,ks,rfl,h1,h2,h3,h4,h5,h6,h7,h8,h9,fun j hj=>?_⟩;have hl:j<ks.length:=by rw[h3];exact hj
  have ht:=h12 j _ (List.getElem?_eq_getElem hl);obtain ⟨k2,Al2,Cc,cl2,Ar2,nr2,cr2,op2,p2,q2,A2,n2,c2,hv⟩:=ht.shape;have hc:=(h11 j hj).2;rw[hv]at ht hc;exact ⟨b,o,ks[j],_,_,_,_,_,_,_,_,_,_,_,_,_,(h10 (by omega)).1,(h10 (by omega)).2.1,(h10 (by omega)).2.2,List.getElem?_eq_getElem hl,ht,hc 0 _ rfl,hc 1 _ rfl,hc 2 _ rfl,hc 3 _ rfl,hc 4 _ rfl,hc 5 _ rfl,hc 6 _ rfl⟩
theorem FE (S:Nat->Prop) (t:GT) (kd:Int) (Al:Option Addr) (nl cl:Nat) (Ar:Option Addr) (nr cr:Nat) (op:Int) (p q:ByteArray) (A:Option Addr) (n c:Nat) (w0:World) (h:Bq S w0 t [.int .i64 kd,.slice Al nl cl,.slice Ar nr cr,.int .i64 op,.string p,.string q,.slice A n c]) (hz:Oz t) (h9:nl<=4611686018427387903) (h8:nr<=4611686018427387903):Calls Tryz.prog 26 #[.agg #[.int .i64 kd,.slice Al nl cl,.slice Ar nr cr,.int .i64 op,.string p,.string q,.slice A n c]] w0 (BG (Lu t) w0):=by
 obtain ⟨l,r,ks,rfl,hl,hr,hk,hl1,hl2,hr1,hr2,-⟩:=h.parts;obtain ⟨hzl,hzr⟩:On l/\On r:=by cases hz with|mk _ _ _ _ _ _ _ h1 h2 _ _ _=>exact ⟨h1,h2⟩
 obtain ⟨x1,hb,-⟩:=Ax 33 w0 #[.int .i64 kd,.slice Al nl cl,.slice Ar nr cr,.int .i64 op,.string p,.string q,.slice A n c];have HB:=Aa hb;have X1:=Aa x1;have c0:=x1.cell 0 _ rfl;have c1:=x1.cell 1 _ rfl;have c2:=x1.cell 2 _ rfl;have c3:=x1.cell 3 _ rfl;have c4:=x1.cell 4 _ rfl;have c5:=x1.cell 5 _ rfl;have c6:=x1.cell 6 _ rfl;have HL:=Aa (fun W (hb:Below w0.heap.size w0 W) (h9:nl<=4611686018427387903)=>Dw S Al nl cl l W (hl.keep (As.of_below hb)) h9 hzl)
 have HR:=Aa (fun W (hb:Below w0.heap.size w0 W) (h9:nr<=4611686018427387903)=>Dw S Ar nr cr r W (hr.keep (As.of_below hb)) h9 hzr);have HCL:=Aa hl.1;have HCR:=Aa hr.1;have hbe:Lu (.mk kd l r op p q ks)=(decide (kd=2)&&decide (p=eS)&&decide (q=eS)&&decide (n=0)&&decide (0<=op)&&decide (op<6)&&BF l&&BF r):=by rw[Lu,hk]
 rw[hbe];clear h hz hl hr hk hb x1 hbe hzl hzr;by_cases hp:p=eS
 case neg=> have g1:=Cz hp;have HZ:=Aa (show (decide (kd=2)&&decide (p=eS)&&decide (q=eS)&&decide (n=0)&&decide (0<=op)&&decide (op<6)&&BF l&&BF r)=false from by simp[hp]);generalize (decide (kd=2)&&decide (p=eS)&&decide (q=eS)&&decide (n=0)&&decide (0<=op)&&decide (op<6)&&BF l&&BF r)=BB at *;clear hp;go_enter Tryz.func26,Tryz.ntmps26;go_wp2_with fail;all_goals (go_ret;exact ⟨by rw[HZ.out];rfl,Ae w0 _⟩)
 have g1:=D9 hp;by_cases hq:q=eS
 case neg=> have g2:=Cz hq;have HZ:=Aa (show (decide (kd=2)&&decide (p=eS)&&decide (q=eS)&&decide (n=0)&&decide (0<=op)&&decide (op<6)&&BF l&&BF r)=false from by simp[hq]);generalize (decide (kd=2)&&decide (p=eS)&&decide (q=eS)&&decide (n=0)&&decide (0<=op)&&decide (op<6)&&BF l&&BF r)=BB at *;clear hp hq;go_enter Tryz.func26,Tryz.ntmps26;go_wp2_with fail;all_goals (go_ret;exact ⟨by rw[HZ.out];rfl,Ae w0 _⟩)
 have g2:=D9 hq;by_cases hn:n=0
 case neg=> have g3:((n:Int)==0)=false:=(by simp;omega);have HZ:=Aa (show (decide (kd=2)&&decide (p=eS)&&decide (q=eS)&&decide (n=0)&&decide (0<=op)&&decide (op<6)&&BF l&&BF r)=false from by simp[hn]);generalize (decide (kd=2)&&decide (p=eS)&&decide (q=eS)&&decide (n=0)&&decide (0<=op)&&decide (op<6)&&BF l&&BF r)=BB at *;clear hp hq hn;go_enter Tryz.func26,Tryz.ntmps26;go_wp2_with fail;all_goals (go_ret;exact ⟨by rw[HZ.out];rfl,Ae w0 _⟩)
 have g3:((n:Int)==0)=true:=by simp;omega
 by_cases h0:0<=op
 case neg=> have HZ:=Aa (show (decide (kd=2)&&decide (p=eS)&&decide (q=eS)&&decide (n=0)&&decide (0<=op)&&decide (op<6)&&BF l&&BF r)=false from by simp[h0]);generalize (decide (kd=2)&&decide (p=eS)&&decide (q=eS)&&decide (n=0)&&decide (0<=op)&&decide (op<6)&&BF l&&BF r)=BB at *;clear hp hq hn;go_enter Tryz.func26,Tryz.ntmps26;go_wp2_with fail;all_goals (go_ret;exact ⟨by rw[HZ.out];rfl,Ae w0 _⟩)
 by_cases h6:op<6
 case neg=> have HZ:=Aa (show (decide (kd=2)&&decide (p=eS)&&decide (q=eS)&&decide (n=0)&&decide (0<=op)&&decide (op<6)&&BF l&&BF r)=false from by simp[h6]);generalize (decide (kd=2)&&decide (p=eS)&&decide (q=eS)&&decide (n=0)&&decide (0<=op)&&decide (op<6)&&BF l&&BF r)=BB at *;clear hp hq hn;go_enter Tryz.func26,Tryz.ntmps26;go_wp2_with fail;all_goals (go_ret;exact ⟨by rw[HZ.out];rfl,Ae w0 _⟩)
 by_cases h2:kd=2
 case neg=> have g4:(kd==2)=false:=(by simpa using h2);have HZ:=Aa (show (decide (kd=2)&&decide (p=eS)&&decide (q=eS)&&decide (n=0)&&decide (0<=op)&&decide (op<6)&&BF l&&BF r)=false from by simp[h2]);generalize (decide (kd=2)&&decide (p=eS)&&decide (q=eS)&&decide (n=0)&&decide (0<=op)&&decide (op<6)&&BF l&&BF r)=BB at *;clear hp hq hn h2;go_enter Tryz.func26,Tryz.ntmps26;go_wp2_with fail;all_goals (go_ret;exact ⟨by rw[HZ.out];rfl,Ae w0 _⟩)
 have g4:(kd==2)=true:=by simp[h2]
 have HE:=Aa (show (decide (kd=2)&&decide (p=eS)&&decide (q=eS)&&decide (n=0)&&decide (0<=op)&&decide (op<6)&&BF l&&BF r)=(BF l&&BF r) from by simp[h2,hp,hq,hn,h0,h6]);generalize (decide (kd=2)&&decide (p=eS)&&decide (q=eS)&&decide (n=0)&&decide (0<=op)&&decide (op<6)&&BF l&&BF r)=BB at *;clear h2 hp hq hn;go_enter Tryz.func26,Tryz.ntmps26;go_wp2_with fail;refine (HL.out _ HB.out h9).mono ?_;rintro e w2 ⟨rfl,b2⟩;have HB2:=Aa (HB.out.next b2)
 have c2:=(X1.out.next b2).cell 2 _ rfl;clear b2 c0 c1 c3 c4 c5 c6 g1 g2 g3 g4;generalize BF l=bl at *;cases bl
 · have HP:=Aa (show BG BB w0 (.returned (.bool false)) w2 from ⟨by rw[HE.out];rfl,HB2.out⟩);go_wp2_with fail;go_ret
   exact HP.out
 · go_wp2_with fail;refine (HR.out _ HB2.out h8).mono ?_;rintro e w3 ⟨rfl,b3⟩;have HP:=Aa (show BG BB w0 (.returned (.bool (BF r))) w3 from ⟨by rw[HE.out];rfl,HB2.out.next b3⟩);clear b3;go_wp2_with fail;go_ret
   exact HP.out
end
end Go.Proofs.YtgohmojcopajoaaGreatDoor
