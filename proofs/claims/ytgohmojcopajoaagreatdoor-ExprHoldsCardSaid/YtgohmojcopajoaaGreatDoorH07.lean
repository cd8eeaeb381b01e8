/- Texts of one seat, put together: ExprC1 ExprC2 ExprC3 ExprC4. -/
import Derived.Test.YtgohmojcopajoaaGreatDoorH05
import Derived.Test.YtgohmojcopajoaaGreatDoorH06
set_option linter.unusedVariables false
set_option linter.unusedSimpArgs false
set_option maxRecDepth 100000
set_option maxHeartbeats 16000000
namespace Go.Proofs.YtgohmojcopajoaaGreatDoor
section
open Go.RowKit
open Lx Ex
theorem Wq {w:World} {A:Option Addr} {n:Nat} {ts:List TK} (h:Q9 w A n ts) (i:Nat) (hn:0<n):∃b o,A=some ⟨b,o,none⟩/\b<w.heap.size/\w.cell? ⟨b,o+min i (n-1)*4,none⟩=some (.int .i64 (hd ts i).kind)/\w.cell? ⟨b,o+min i (n-1)*4+1,none⟩=some (.string (hd ts i).text)/\w.cell? ⟨b,o+min i (n-1)*4+2,none⟩=some (.int .i64 (hd ts i).line)/\w.cell? ⟨b,o+min i (n-1)*4+3,none⟩=some (.int .i64 (hd ts i).col):=by
 obtain ⟨b,o,t,e,hlt,ht,c0,c1,c2,c3⟩:=h.at_ (i:=min i (n-1)) (by omega);have h2:=SF ts i (by rw[h.1];exact hn);rw[h.1,ht]at h2;injection h2 with h2
 subst h2;exact ⟨b,o,e,hlt,c0,c1,c2,c3⟩
def TK.agg (t:TK):Value:=.agg #[.int .i64 (t.kind:Int),.string t.text,.int .i64 (t.line:Int),.int .i64 (t.col:Int)]
theorem I6 {fn:Func} {R:Ending->World->Prop} {a:Act} {w:World} {g p:Nat} {cs:Array Value} (hres:fn.results=#[.cell p 113]) (hp:a.tmps.getD p undef=.pointer (some ⟨g,0,none⟩)) (h4:cs.size=4)
  (hb:Am 113 w g cs) (hd:a.defers=[]) (hR:R (.returned (.agg cs)) w):bodyPost Tryz.prog fn R .ret a w:=
 bodyPost_ret (results_cell_row hres _ _ g _ cs _ _ hp hb Tryz.underlying113 rfl (by rw[h4];kernel_rfl)) hd hR
def Ga (t:TK) (w:World) (e:Ending) (w':World):Prop:=e=.returned (.agg #[.int .i64 (t.kind:Int),.string t.text,.int .i64 (t.line:Int),.int .i64 (t.col:Int)])/\Below w.heap.size w w'
theorem BK (D:CD) (g i:Nat) (w0:World) (h:Cg D g w0 i):Calls Tryz.prog 52 #[.pointer (some ⟨g,0,none⟩)] w0 (Ga (hd D.ts i) w0):=by
 have hf:=h.fits;have hfew:=h.good.few;have hcm:=h.good.cm;have hc0:=h.c0;have hc1:=h.c1;have hlt:=h.lt;have hx:=Am.new 113 w0 #[.int .i64 0,.string ⟨#[]⟩,.int .i64 0,.int .i64 0];have hb:=Ae w0 (.cells #[.int .i64 0,.string ⟨#[]⟩,.int .i64 0,.int .i64 0] 113);have hcb:=h.below hb;have e0:=hcb.c0;have e1:=hcb.c1;by_cases hn:D.n=0
 · have hh:hd D.ts i=SD:=Om _ _ (by rw[h.len];exact hn);rw[hh];have HB:=Aa hb;rw[hn]at e0;clear hh hf hfew hcm hc0 hc1 hb h hn;go_enter Tryz.func52,Tryz.ntmps52;go_wp2_with (with_reducible refine Ab rfl 113 _ _ rfl w0.heap.size #[.int .i64 5,.string ⟨#[]⟩,.int .i64 0,.int .i64 0] rfl rfl _ hx (by kernel_rfl) rfl (by simp[Value.oneCell']) ?_;intro w3 k3 ho3);refine I6 rfl rfl rfl k3 rfl ?_;exact ⟨rfl,HB.out.trans (ho3.below HB.out.size (Nat.le_refl _))⟩
 · have hpos:0<D.n:=(by omega);obtain ⟨b,o,hA,hlb,d0,d1,d2,d3⟩:=Wq hcb.kin i hpos;rw[hA]at e0;have HB:=Aa hb;have HX:=Aa hx;have hgl:=hcb.lt;have hq:((min i (D.n-1):Nat):Int)=min (max (i:Int) 0) ((D.n:Int)-1):=(by omega);generalize hd D.ts i=t at *;generalize hqq:min i (D.n-1)=q at *;have hqn:q<D.n:=(by omega);have g8:max (i:Int) 0=(i:Int):=(by omega);have g15:min (i:Int) ((D.n:Int)-1)=(q:Int):=(by omega);have G8:=Aa g8;have G15:=Aa g15
   have SOF:=Aa (show ∀W,Below (w0.alloc (.cells #[.int .i64 0,.string ⟨#[]⟩,.int .i64 0,.int .i64 0] 113)).heap.size (w0.alloc (.cells #[.int .i64 0,.string ⟨#[]⟩,.int .i64 0,.int .i64 0] 113)) W->(W.cell? ⟨g,0,none⟩=some (.slice (some ⟨b,o,none⟩) D.n D.c)/\W.cell? ⟨g,1,none⟩=some (.int .i64 (i:Int))/\W.cell? ⟨b,o+q*4,none⟩=some (.int .i64 (t.kind:Int))/\W.cell? ⟨b,o+q*4+1,none⟩=some (.string t.text)/\W.cell? ⟨b,o+q*4+2,none⟩=some (.int .i64 (t.line:Int))/\W.cell? ⟨b,o+q*4+3,none⟩=some (.int .i64 (t.col:Int))) from fun W h=>⟨(Af h hgl).trans e0,(Af h hgl).trans e1,(Af h hlb).trans d0,(Af h hlb).trans d1,(Af h hlb).trans d2,(Af h hlb).trans d3⟩)
   clear hf hc0 hc1 hb hx h hA hq hcb hqq g8 g15 d0 d1 d2 d3;go_enter Tryz.func52,Tryz.ntmps52;go_wp2_with fail;clear e0 e1;generalize hW0:w0.alloc (.cells #[.int .i64 0,.string ⟨#[]⟩,.int .i64 0,.int .i64 0] 113)=W0 at *;clear hW0
   refine BI (by kernel_rfl) (by kernel_rfl) (by kernel_rfl) (by kernel_rfl) (fun w w'=>Below w.heap.size w w') (fun j v w=>match j with|0=>v=.pointer (some ⟨g,0,none⟩)|1=>v=.pointer (some ⟨g,0,none⟩)|2=>v=.pointer (some ⟨g,0,none⟩)|3=>v=.slice (some ⟨b,o,none⟩) D.n D.c|4=>v=.pointer (some ⟨g,0,none⟩)|5=>v=.pointer (some ⟨g,0,none⟩)|6=>v=.pointer (some ⟨g,1,none⟩)|7=>v=.int .i64 (i:Int)|8=>v=.int .i64 (i:Int)|9=>v=.pointer (some ⟨g,0,none⟩)|10=>v=.pointer (some ⟨g,0,none⟩)|11=>v=.pointer (some ⟨g,0,none⟩)|12=>v=.slice (some ⟨b,o,none⟩) D.n D.c|13=>v=.int .i64 (D.n)|14=>v=.int .i64 ((D.n:Int)-1)|15=>v=.int .i64 (q:Int)|16=>v=.pointer (some ⟨b,o+q*4,none⟩)|17=>v=.agg #[.int .i64 (t.kind:Int),.string t.text,.int .i64 (t.line:Int),.int .i64 (t.col:Int)]|_=>True) (fun _ _ w=>Below W0.heap.size W0 w) ?_ (fun _=>Ao W0 1) ?_ ?_
   · intro j v w w' hT h;match j,h with
     |0,h=>exact h
     |1,h=>exact h
     |2,h=>exact h
     |3,h=>exact h
     |4,h=>exact h
     |5,h=>exact h
     |6,h=>exact h
     |7,h=>exact h
     |8,h=>exact h
     |9,h=>exact h
     |10,h=>exact h
     |11,h=>exact h
     |12,h=>exact h
     |13,h=>exact h
     |14,h=>exact h
     |15,h=>exact h
     |16,h=>exact h
     |17,h=>exact h
     |j+18,h=>trivial
   · refine ⟨?_,?_,?_,?_,?_,?_,?_,?_,?_,?_,?_,?_,?_,?_,?_,?_,?_,?_,trivial⟩
     · intro listed σ w a hin hout hl hla hs hc hp hG hF;refine Ac.none rfl ?_;have e0:a.tmps.getD 0 undef=.pointer (some ⟨g,0,none⟩):=hout 0 (Ag (by kernel_rfl));refine Does.val (.pointer (some ⟨g,0,none⟩)) (w':=w) ?_ ⟨Below.refl _ _,rfl,hG⟩;simp only[Array.getD_eq_getD_getElem?]at e0;go_simp
     · intro listed σ w a hin hout hl hla hs hc hp hG hF;refine Ac.none rfl ?_;have e14:a.tmps.getD 14 undef=.pointer (some ⟨g,0,none⟩):=(hin 0 14 rfl (hp ⟨0,.data⟩ (by simp) rfl)).trans (hF 0 (hp ⟨0,.data⟩ (by simp) rfl));refine Does.val (.pointer (some ⟨g,0,none⟩)) (w':=w) ?_ ⟨Below.refl _ _,rfl,hG⟩;simp only[Array.getD_eq_getD_getElem?]at e14;go_simp
     · intro listed σ w a hin hout hl hla hs hc hp hG hF;refine Ac.none rfl ?_;have e15:a.tmps.getD 15 undef=.pointer (some ⟨g,0,none⟩):=(hin 1 15 rfl (hp ⟨1,.data⟩ (by simp) rfl)).trans (hF 1 (hp ⟨1,.data⟩ (by simp) rfl));refine Does.val (.pointer (some ⟨g,0,none⟩)) (w':=w) ?_ ⟨Below.refl _ _,rfl,hG⟩;simp only[Array.getD_eq_getD_getElem?]at e15;go_simp
     · intro listed σ w a hin hout hl hla hs hc hp hG hF;refine Ac.none rfl ?_;have e16:a.tmps.getD 16 undef=.pointer (some ⟨g,0,none⟩):=(hin 2 16 rfl (hp ⟨2,.data⟩ (by simp) rfl)).trans (hF 2 (hp ⟨2,.data⟩ (by simp) rfl));have CC:=SOF.out w hG;obtain ⟨C0,C1,C2,C3,C4,C5⟩:=CC;refine Does.val (.slice (some ⟨b,o,none⟩) D.n D.c) (w':=w) ?_ ⟨Below.refl _ _,rfl,hG⟩;go_simp
     · intro listed σ w a hin hout hl hla hs hc hp hG hF;refine Ac.none rfl ?_;have e0:a.tmps.getD 0 undef=.pointer (some ⟨g,0,none⟩):=hout 0 (Ag (by kernel_rfl));refine Does.val (.pointer (some ⟨g,0,none⟩)) (w':=w) ?_ ⟨Below.refl _ _,rfl,hG⟩;simp only[Array.getD_eq_getD_getElem?]at e0;go_simp
     · intro listed σ w a hin hout hl hla hs hc hp hG hF;refine Ac.none rfl ?_;have e18:a.tmps.getD 18 undef=.pointer (some ⟨g,0,none⟩):=(hin 4 18 rfl (hp ⟨4,.data⟩ (by simp) rfl)).trans (hF 4 (hp ⟨4,.data⟩ (by simp) rfl));refine Does.val (.pointer (some ⟨g,0,none⟩)) (w':=w) ?_ ⟨Below.refl _ _,rfl,hG⟩;simp only[Array.getD_eq_getD_getElem?]at e18;go_simp
     · intro listed σ w a hin hout hl hla hs hc hp hG hF;refine Ac.none rfl ?_;have e19:a.tmps.getD 19 undef=.pointer (some ⟨g,0,none⟩):=(hin 5 19 rfl (hp ⟨5,.data⟩ (by simp) rfl)).trans (hF 5 (hp ⟨5,.data⟩ (by simp) rfl));refine Does.val (.pointer (some ⟨g,1,none⟩)) (w':=w) ?_ ⟨Below.refl _ _,rfl,hG⟩;simp only[Array.getD_eq_getD_getElem?]at e19;go_simp
     · intro listed σ w a hin hout hl hla hs hc hp hG hF;refine Ac.none rfl ?_;have e20:a.tmps.getD 20 undef=.pointer (some ⟨g,1,none⟩):=(hin 6 20 rfl (hp ⟨6,.data⟩ (by simp) rfl)).trans (hF 6 (hp ⟨6,.data⟩ (by simp) rfl));have CC:=SOF.out w hG;obtain ⟨C0,C1,C2,C3,C4,C5⟩:=CC;refine Does.val (.int .i64 (i:Int)) (w':=w) ?_ ⟨Below.refl _ _,rfl,hG⟩;go_simp
     · intro listed σ w a hin hout hl hla hs hc hp hG hF;refine Ac.none rfl ?_;have e21:a.tmps.getD 21 undef=.int .i64 (i:Int):=(hin 7 21 rfl (hp ⟨7,.data⟩ (by simp) rfl)).trans (hF 7 (hp ⟨7,.data⟩ (by simp) rfl));refine Does.val (.int .i64 (i:Int)) (w':=w) ?_ ⟨Below.refl _ _,rfl,hG⟩;simp only[Array.getD_eq_getD_getElem?]at e21;go_simp;intro hh;omega
     · intro listed σ w a hin hout hl hla hs hc hp hG hF;refine Ac.none rfl ?_;have e0:a.tmps.getD 0 undef=.pointer (some ⟨g,0,none⟩):=hout 0 (Ag (by kernel_rfl));refine Does.val (.pointer (some ⟨g,0,none⟩)) (w':=w) ?_ ⟨Below.refl _ _,rfl,hG⟩;simp only[Array.getD_eq_getD_getElem?]at e0;go_simp
     · intro listed σ w a hin hout hl hla hs hc hp hG hF;refine Ac.none rfl ?_;have e23:a.tmps.getD 23 undef=.pointer (some ⟨g,0,none⟩):=(hin 9 23 rfl (hp ⟨9,.data⟩ (by simp) rfl)).trans (hF 9 (hp ⟨9,.data⟩ (by simp) rfl));refine Does.val (.pointer (some ⟨g,0,none⟩)) (w':=w) ?_ ⟨Below.refl _ _,rfl,hG⟩;simp only[Array.getD_eq_getD_getElem?]at e23;go_simp
     · intro listed σ w a hin hout hl hla hs hc hp hG hF;refine Ac.none rfl ?_;have e24:a.tmps.getD 24 undef=.pointer (some ⟨g,0,none⟩):=(hin 10 24 rfl (hp ⟨10,.data⟩ (by simp) rfl)).trans (hF 10 (hp ⟨10,.data⟩ (by simp) rfl));refine Does.val (.pointer (some ⟨g,0,none⟩)) (w':=w) ?_ ⟨Below.refl _ _,rfl,hG⟩;simp only[Array.getD_eq_getD_getElem?]at e24;go_simp
     · intro listed σ w a hin hout hl hla hs hc hp hG hF;refine Ac.none rfl ?_;have e25:a.tmps.getD 25 undef=.pointer (some ⟨g,0,none⟩):=(hin 11 25 rfl (hp ⟨11,.data⟩ (by simp) rfl)).trans (hF 11 (hp ⟨11,.data⟩ (by simp) rfl));have CC:=SOF.out w hG;obtain ⟨C0,C1,C2,C3,C4,C5⟩:=CC;refine Does.val (.slice (some ⟨b,o,none⟩) D.n D.c) (w':=w) ?_ ⟨Below.refl _ _,rfl,hG⟩;go_simp
     · intro listed σ w a hin hout hl hla hs hc hp hG hF;refine Ac.none rfl ?_;have e26:a.tmps.getD 26 undef=.slice (some ⟨b,o,none⟩) D.n D.c:=(hin 12 26 rfl (hp ⟨12,.data⟩ (by simp) rfl)).trans (hF 12 (hp ⟨12,.data⟩ (by simp) rfl));refine Does.val (.int .i64 (D.n)) (w':=w) ?_ ⟨Below.refl _ _,rfl,hG⟩;simp only[Array.getD_eq_getD_getElem?]at e26;go_simp
     · intro listed σ w a hin hout hl hla hs hc hp hG hF;refine Ac.none rfl ?_;have e27:a.tmps.getD 27 undef=.int .i64 (D.n):=(hin 13 27 rfl (hp ⟨13,.data⟩ (by simp) rfl)).trans (hF 13 (hp ⟨13,.data⟩ (by simp) rfl));refine Does.val (.int .i64 ((D.n:Int)-1)) (w':=w) ?_ ⟨Below.refl _ _,rfl,hG⟩;simp only[Array.getD_eq_getD_getElem?]at e27;go_simp;exact IntWalk.i64_in _ (by omega)
     · intro listed σ w a hin hout hl hla hs hc hp hG hF;refine Ac.none rfl ?_;have e22:a.tmps.getD 22 undef=.int .i64 (i:Int):=(hin 8 22 rfl (hp ⟨8,.data⟩ (by simp) rfl)).trans (hF 8 (hp ⟨8,.data⟩ (by simp) rfl));have e28:a.tmps.getD 28 undef=.int .i64 ((D.n:Int)-1):=(hin 14 28 rfl (hp ⟨14,.data⟩ (by simp) rfl)).trans (hF 14 (hp ⟨14,.data⟩ (by simp) rfl));refine Does.val (.int .i64 (q:Int)) (w':=w) ?_ ⟨Below.refl _ _,rfl,hG⟩
       simp only[Array.getD_eq_getD_getElem?]at e22 e28;go_simp;have h15:=G15.out;split<;>omega
     · intro listed σ w a hin hout hl hla hs hc hp hG hF;refine Ac.none rfl ?_;have e17:a.tmps.getD 17 undef=.slice (some ⟨b,o,none⟩) D.n D.c:=(hin 3 17 rfl (hp ⟨3,.data⟩ (by simp) rfl)).trans (hF 3 (hp ⟨3,.data⟩ (by simp) rfl));have e29:a.tmps.getD 29 undef=.int .i64 (q:Int):=(hin 15 29 rfl (hp ⟨15,.data⟩ (by simp) rfl)).trans (hF 15 (hp ⟨15,.data⟩ (by simp) rfl));refine Does.val (.pointer (some ⟨b,o+q*4,none⟩)) (w':=w) ?_ ⟨Below.refl _ _,rfl,hG⟩
       simp only[Array.getD_eq_getD_getElem?]at e17 e29;go_simp;(try (intro hh;exfalso;omega))
     · intro listed σ w a hin hout hl hla hs hc hp hG hF;refine Ac.none rfl ?_;have e30:a.tmps.getD 30 undef=.pointer (some ⟨b,o+q*4,none⟩):=(hin 16 30 rfl (hp ⟨16,.data⟩ (by simp) rfl)).trans (hF 16 (hp ⟨16,.data⟩ (by simp) rfl));have CC:=SOF.out w hG;obtain ⟨C0,C1,C2,C3,C4,C5⟩:=CC;refine Does.val (.agg #[.int .i64 (t.kind:Int),.string t.text,.int .i64 (t.line:Int),.int .i64 (t.col:Int)]) (w':=w) ?_ ⟨Below.refl _ _,rfl,hG⟩;go_simp
   · intro o ho;injection ho with ho;subst ho
     intro listed σ w a hall hin hout hG hF;refine Ac.none rfl ?_;have e2:a.tmps.getD 2 undef=.pointer (some ⟨w0.heap.size,0,none⟩):=hout 2 (MI (by kernel_rfl));have e31:a.tmps.getD 31 undef=.agg #[.int .i64 (t.kind:Int),.string t.text,.int .i64 (t.line:Int),.int .i64 (t.col:Int)]:=(hin 17 31 rfl (by decide)).trans (hF 17 (by decide));have HBX:=Aa (HX.out.next hG);have HBB:=Aa (HB.out.next hG)
     refine Does.store_box (T:=113) (cells:=#[.int .i64 (t.kind:Int),.string t.text,.int .i64 (t.line:Int),.int .i64 (t.col:Int)]) rfl e2 e31 HBX.out (by kernel_rfl) rfl (by simp[Value.oneCell']) (fun w2 x9 o9=>?_)
     rw[show IW _ σ undef _=(Act.put (Act.put (Act.put (Act.put (Act.put (Act.put (Act.put (Act.put (Act.put (Act.put (Act.put (Act.put (Act.put (Act.put (Act.put (Act.put (Act.put (Act.put (Act.put _ (some 14) (σ 0)) (some 15) (σ 1)) (some 16) (σ 2)) (some 17) (σ 3)) (some 18) (σ 4)) (some 19) (σ 5)) (some 20) (σ 6)) (some 21) (σ 7)) (some 22) (σ 8)) (some 23) (σ 9)) (some 24) (σ 10)) (some 25) (σ 11)) (some 26) (σ 12)) (some 27) (σ 13)) (some 28) (σ 14)) (some 29) (σ 15)) (some 30) (σ 16)) (some 31) (σ 17)) none undef) from (CL hall).trans rfl]
     simp only[Act.put,List.setIfInBounds_toArray,List.set_cons_zero,List.set_cons_succ];have HO:=Aa o9
     generalize σ 0=tt0 at *;generalize σ 1=tt1 at *;generalize σ 2=tt2 at *;generalize σ 3=tt3 at *;generalize σ 4=tt4 at *;generalize σ 5=tt5 at *;generalize σ 6=tt6 at *;generalize σ 7=tt7 at *;generalize σ 8=tt8 at *;generalize σ 9=tt9 at *;generalize σ 10=tt10 at *;generalize σ 11=tt11 at *;generalize σ 12=tt12 at *;generalize σ 13=tt13 at *;generalize σ 14=tt14 at *;generalize σ 15=tt15 at *;generalize σ 16=tt16 at *;generalize σ 17=tt17 at *
     clear hF hG hall hin hout SOF o9 e2 e31;go_wp2_with fail;refine I6 rfl rfl rfl x9 rfl ?_;exact ⟨rfl,HBB.out.trans (HO.out.below HBB.out.size (Nat.le_refl _))⟩
end
section
open Go.RowKit
open Lx Ex
def SI (g i:Nat) (w:World) (e:Ending) (w':World):Prop:=e=.returned (.tuple #[])/\Ai g w w'/\∀D,Cg D g w i->i+1+(rd D.ts (i+1)).length<=1099511627776->Cg D g w' (i+1)
theorem Jt (D:CD) (g i:Nat) (w0:World) (h:Cg D g w0 i):Calls Tryz.prog 100 #[.pointer (some ⟨g,0,none⟩)] w0 (SI g i w0):=by
 have hf:=h.fits;have e1:=h.c1;have hgl:=h.lt;have ef:∀W,Below w0.heap.size w0 W->W.frozen? ⟨g,1,none⟩=false:=fun W hW=>(h.below hW).box.fr 1
 have HK:=Aa (fun W (hW:Below w0.heap.size w0 W)=>(⟨(AE hW).trans (Hk W g 1 (.int .i64 ((i:Int)+1))),fun D hD hh=>(hD.below hW).set (i+1) hh⟩:Ai g w0 (W.setCell ⟨g,1,none⟩ (.int .i64 ((i:Int)+1)))/\∀D,Cg D g w0 i->i+1+(rd D.ts (i+1)).length<=1099511627776->Cg D g (W.setCell ⟨g,1,none⟩ (.int .i64 (((i+1:Nat)):Int))) (i+1)))
 have SOF:=Aa (show ∀W,Below w0.heap.size w0 W->(W.cell? ⟨g,1,none⟩=some (.int .i64 (i:Int))/\W.frozen? ⟨g,1,none⟩=false) from fun W h=>⟨(Af h hgl).trans e1,ef W h⟩);clear ef e1 h;go_enter Tryz.func100,Tryz.ntmps100;go_wp2_with fail
 refine BI (by kernel_rfl) (by kernel_rfl) (by kernel_rfl) (by kernel_rfl) (fun w w'=>Below w.heap.size w w') (fun j v w=>match j with|0=>v=.pointer (some ⟨g,0,none⟩)|1=>v=.pointer (some ⟨g,0,none⟩)|2=>v=.pointer (some ⟨g,0,none⟩)|3=>v=.pointer (some ⟨g,1,none⟩)|4=>v=.int .i64 (i:Int)|5=>v=.pointer (some ⟨g,0,none⟩)|6=>v=.pointer (some ⟨g,0,none⟩)|7=>v=.pointer (some ⟨g,1,none⟩)|8=>v=.int .i64 (i:Int)|9=>v=.int .i64 ((i:Int)+1)|10=>v=.int .i64 ((i:Int)+1)|11=>v=.pointer (some ⟨g,0,none⟩)|12=>v=.pointer (some ⟨g,1,none⟩)|_=>True) (fun _ _ w=>Below w0.heap.size w0 w) ?_ (fun _=>Ao w0 1) ?_ ?_
 · intro j v w w' hT h;match j,h with
   |0,h=>exact h
   |1,h=>exact h
   |2,h=>exact h
   |3,h=>exact h
   |4,h=>exact h
   |5,h=>exact h
   |6,h=>exact h
   |7,h=>exact h
   |8,h=>exact h
   |9,h=>exact h
   |10,h=>exact h
   |11,h=>exact h
   |12,h=>exact h
   |j+13,h=>trivial
 · refine ⟨?_,?_,?_,?_,?_,?_,?_,?_,?_,?_,?_,?_,?_,trivial⟩
   · intro listed σ w a hin hout hl hla hs hc hp hG hF;refine Ac.none rfl ?_;have e0:a.tmps.getD 0 undef=.pointer (some ⟨g,0,none⟩):=hout 0 (Ag (by kernel_rfl));refine Does.val (.pointer (some ⟨g,0,none⟩)) (w':=w) ?_ ⟨Below.refl _ _,rfl,hG⟩;simp only[Array.getD_eq_getD_getElem?]at e0;go_simp
   · intro listed σ w a hin hout hl hla hs hc hp hG hF;refine Ac.none rfl ?_;have e0:a.tmps.getD 0 undef=.pointer (some ⟨g,0,none⟩):=hout 0 (Ag (by kernel_rfl));refine Does.val (.pointer (some ⟨g,0,none⟩)) (w':=w) ?_ ⟨Below.refl _ _,rfl,hG⟩;simp only[Array.getD_eq_getD_getElem?]at e0;go_simp
   · intro listed σ w a hin hout hl hla hs hc hp hG hF;refine Ac.none rfl ?_;have e3:a.tmps.getD 3 undef=.pointer (some ⟨g,0,none⟩):=(hin 1 3 rfl (hp ⟨1,.data⟩ (by simp) rfl)).trans (hF 1 (hp ⟨1,.data⟩ (by simp) rfl));refine Does.val (.pointer (some ⟨g,0,none⟩)) (w':=w) ?_ ⟨Below.refl _ _,rfl,hG⟩;simp only[Array.getD_eq_getD_getElem?]at e3;go_simp
   · intro listed σ w a hin hout hl hla hs hc hp hG hF;refine Ac.none rfl ?_;have e4:a.tmps.getD 4 undef=.pointer (some ⟨g,0,none⟩):=(hin 2 4 rfl (hp ⟨2,.data⟩ (by simp) rfl)).trans (hF 2 (hp ⟨2,.data⟩ (by simp) rfl));refine Does.val (.pointer (some ⟨g,1,none⟩)) (w':=w) ?_ ⟨Below.refl _ _,rfl,hG⟩;simp only[Array.getD_eq_getD_getElem?]at e4;go_simp
   · intro listed σ w a hin hout hl hla hs hc hp hG hF;refine Ac.none rfl ?_;have e5:a.tmps.getD 5 undef=.pointer (some ⟨g,1,none⟩):=(hin 3 5 rfl (hp ⟨3,.data⟩ (by simp) rfl)).trans (hF 3 (hp ⟨3,.data⟩ (by simp) rfl));have CC:=SOF.out w hG;obtain ⟨C0,C1⟩:=CC;refine Does.val (.int .i64 (i:Int)) (w':=w) ?_ ⟨Below.refl _ _,rfl,hG⟩;go_simp
   · intro listed σ w a hin hout hl hla hs hc hp hG hF;refine Ac.none rfl ?_;have e0:a.tmps.getD 0 undef=.pointer (some ⟨g,0,none⟩):=hout 0 (Ag (by kernel_rfl));refine Does.val (.pointer (some ⟨g,0,none⟩)) (w':=w) ?_ ⟨Below.refl _ _,rfl,hG⟩;simp only[Array.getD_eq_getD_getElem?]at e0;go_simp
   · intro listed σ w a hin hout hl hla hs hc hp hG hF;refine Ac.none rfl ?_;have e7:a.tmps.getD 7 undef=.pointer (some ⟨g,0,none⟩):=(hin 5 7 rfl (hp ⟨5,.data⟩ (by simp) rfl)).trans (hF 5 (hp ⟨5,.data⟩ (by simp) rfl));refine Does.val (.pointer (some ⟨g,0,none⟩)) (w':=w) ?_ ⟨Below.refl _ _,rfl,hG⟩;simp only[Array.getD_eq_getD_getElem?]at e7;go_simp
   · intro listed σ w a hin hout hl hla hs hc hp hG hF;refine Ac.none rfl ?_;have e8:a.tmps.getD 8 undef=.pointer (some ⟨g,0,none⟩):=(hin 6 8 rfl (hp ⟨6,.data⟩ (by simp) rfl)).trans (hF 6 (hp ⟨6,.data⟩ (by simp) rfl));refine Does.val (.pointer (some ⟨g,1,none⟩)) (w':=w) ?_ ⟨Below.refl _ _,rfl,hG⟩;simp only[Array.getD_eq_getD_getElem?]at e8;go_simp
   · intro listed σ w a hin hout hl hla hs hc hp hG hF;refine Ac.none rfl ?_;have e9:a.tmps.getD 9 undef=.pointer (some ⟨g,1,none⟩):=(hin 7 9 rfl (hp ⟨7,.data⟩ (by simp) rfl)).trans (hF 7 (hp ⟨7,.data⟩ (by simp) rfl));have CC:=SOF.out w hG;obtain ⟨C0,C1⟩:=CC;refine Does.val (.int .i64 (i:Int)) (w':=w) ?_ ⟨Below.refl _ _,rfl,hG⟩;go_simp
   · intro listed σ w a hin hout hl hla hs hc hp hG hF;refine Ac.none rfl ?_;have e10:a.tmps.getD 10 undef=.int .i64 (i:Int):=(hin 8 10 rfl (hp ⟨8,.data⟩ (by simp) rfl)).trans (hF 8 (hp ⟨8,.data⟩ (by simp) rfl));refine Does.val (.int .i64 ((i:Int)+1)) (w':=w) ?_ ⟨Below.refl _ _,rfl,hG⟩;simp only[Array.getD_eq_getD_getElem?]at e10;go_simp;exact IntWalk.i64_in _ (by omega)
   · intro listed σ w a hin hout hl hla hs hc hp hG hF;refine Ac.none rfl ?_;have e6:a.tmps.getD 6 undef=.int .i64 (i:Int):=(hin 4 6 rfl (hp ⟨4,.data⟩ (by simp) rfl)).trans (hF 4 (hp ⟨4,.data⟩ (by simp) rfl));have e11:a.tmps.getD 11 undef=.int .i64 ((i:Int)+1):=(hin 9 11 rfl (hp ⟨9,.data⟩ (by simp) rfl)).trans (hF 9 (hp ⟨9,.data⟩ (by simp) rfl));refine Does.val (.int .i64 ((i:Int)+1)) (w':=w) ?_ ⟨Below.refl _ _,rfl,hG⟩;simp only[Array.getD_eq_getD_getElem?]at e6 e11
     go_simp;intro hh;omega
   · intro listed σ w a hin hout hl hla hs hc hp hG hF;refine Ac.none rfl ?_;have e2:a.tmps.getD 2 undef=.pointer (some ⟨g,0,none⟩):=(hin 0 2 rfl (hp ⟨0,.data⟩ (by simp) rfl)).trans (hF 0 (hp ⟨0,.data⟩ (by simp) rfl));refine Does.val (.pointer (some ⟨g,0,none⟩)) (w':=w) ?_ ⟨Below.refl _ _,rfl,hG⟩;simp only[Array.getD_eq_getD_getElem?]at e2;go_simp
   · intro listed σ w a hin hout hl hla hs hc hp hG hF;refine Ac.none rfl ?_;have e13:a.tmps.getD 13 undef=.pointer (some ⟨g,0,none⟩):=(hin 11 13 rfl (hp ⟨11,.data⟩ (by simp) rfl)).trans (hF 11 (hp ⟨11,.data⟩ (by simp) rfl));refine Does.val (.pointer (some ⟨g,1,none⟩)) (w':=w) ?_ ⟨Below.refl _ _,rfl,hG⟩;simp only[Array.getD_eq_getD_getElem?]at e13;go_simp
 · intro o ho;injection ho with ho;subst ho
   intro listed σ w a hall hin hout hG hF;refine Ac.none rfl ?_;have e14:a.tmps.getD 14 undef=.pointer (some ⟨g,1,none⟩):=(hin 12 14 rfl (by decide)).trans (hF 12 (by decide));have e12:a.tmps.getD 12 undef=.int .i64 ((i:Int)+1):=(hin 10 12 rfl (by decide)).trans (hF 10 (by decide));have CC:=SOF.out w hG;obtain ⟨C0,C1⟩:=CC;have HKK:=Aa (HK.out w hG);refine Does.skip (w':=w.setCell ⟨g,1,none⟩ (.int .i64 ((i:Int)+1))) ?_ ?_
   · simp only[Array.getD_eq_getD_getElem?]at e14 e12;go_simp
   rw[show IW _ σ undef _=(Act.put (Act.put (Act.put (Act.put (Act.put (Act.put (Act.put (Act.put (Act.put (Act.put (Act.put (Act.put (Act.put (Act.put _ (some 2) (σ 0)) (some 3) (σ 1)) (some 4) (σ 2)) (some 5) (σ 3)) (some 6) (σ 4)) (some 7) (σ 5)) (some 8) (σ 6)) (some 9) (σ 7)) (some 10) (σ 8)) (some 11) (σ 9)) (some 12) (σ 10)) (some 13) (σ 11)) (some 14) (σ 12)) none undef) from (CL hall).trans rfl]
   simp only[Act.put,List.setIfInBounds_toArray,List.set_cons_zero,List.set_cons_succ];generalize σ 0=tt0 at *;generalize σ 1=tt1 at *;generalize σ 2=tt2 at *;generalize σ 3=tt3 at *;generalize σ 4=tt4 at *;generalize σ 5=tt5 at *;generalize σ 6=tt6 at *;generalize σ 7=tt7 at *;generalize σ 8=tt8 at *;generalize σ 9=tt9 at *;generalize σ 10=tt10 at *;generalize σ 11=tt11 at *;generalize σ 12=tt12 at *;clear hF hG hall hin hout SOF C0 C1 e12 e14;go_wp2_with fail
   exact bodyPost_end (results_none rfl _ _ _) rfl ⟨rfl,HKK.out.1,HKK.out.2⟩
end
section
open Go.RowKit
open Lx Ex
theorem Is {a b:ByteArray} (h:a≠b):(a.toList==b.toList)=false:=by rw[beq_eq_false_iff_ne];intro e;rw[Lib.toList_data,Lib.toList_data]at e;exact h (ByteArray.ext (Array.toList_inj.1 e))
def KX (b:Bool) (w:World) (e:Ending) (w':World):Prop:=e=.returned (.bool b)/\Below w.heap.size w w'
theorem MJ (D:CD) (g i:Nat) (s:ByteArray) (w:World) (h:Cg D g w i):Calls Tryz.prog 99 #[.pointer (some ⟨g,0,none⟩),.string s] w (KX (AV s (rd D.ts i)) w):=by
 have ha:=BK D g i w h;have HI:=Aa (On s D.ts i);generalize AV s (rd D.ts i)=r at *;generalize hd D.ts i=t at *;obtain ⟨k,tx,l,c⟩:=t;unfold Ga at ha;dsimp only at ha HI
 by_cases ht:tx=s
 · subst ht;by_cases h2:k=2
   · subst h2;obtain rfl:r=true:=(by rw[HI.out];simp);clear HI h;go_enter Tryz.func99,Tryz.ntmps99;go_wp2_with fail;refine ha.mono ?_;rintro e w1 ⟨rfl,b1⟩;go_wp2_with fail;go_ret
     exact ⟨rfl,b1.next (Ae _ _)⟩
   · have g2:((k:Int)==2)=false:=(by simp;omega);by_cases h1:k=1
     · subst h1;obtain rfl:r=true:=(by rw[HI.out];simp);clear HI h h2;go_enter Tryz.func99,Tryz.ntmps99;go_wp2_with fail;refine ha.mono ?_;rintro e w1 ⟨rfl,b1⟩;go_wp2_with fail;go_ret
       exact ⟨rfl,b1.next (Ae _ _)⟩
     · have g1:((k:Int)==1)=false:=(by simp;omega);by_cases h4:k=4
       · subst h4;obtain rfl:r=true:=(by rw[HI.out];simp);clear HI h h2 h1;go_enter Tryz.func99,Tryz.ntmps99;go_wp2_with fail;refine ha.mono ?_;rintro e w1 ⟨rfl,b1⟩;go_wp2_with fail;go_ret
         exact ⟨rfl,b1.next (Ae _ _)⟩
       · have g4:((k:Int)==4)=false:=(by simp;omega);obtain rfl:r=false:=(by rw[HI.out];simp;omega);clear HI h h2 h1 h4;go_enter Tryz.func99,Tryz.ntmps99;go_wp2_with fail;refine ha.mono ?_;rintro e w1 ⟨rfl,b1⟩;go_wp2_with fail;go_ret
         exact ⟨rfl,b1.next (Ae _ _)⟩
 · have ht2:=Is ht;obtain rfl:r=false:=(by rw[HI.out,decide_eq_false ht];rfl);clear HI h ht;go_enter Tryz.func99,Tryz.ntmps99;go_wp2_with fail;refine ha.mono ?_;rintro e w1 ⟨rfl,b1⟩;go_wp2_with fail;go_ret
   exact ⟨rfl,b1.next (Ae _ _)⟩
def AB (D:CD) (g:Nat) (i':Nat) (w w':World):Prop:=Ai g w w'/\Cg D g w' i'
theorem AB.below {D:CD} {g i':Nat} {a b c:World} (h:AB D g i' a b) (k:Below b.heap.size b c):AB D g i' a c:=⟨h.1.next k,h.2.below k⟩
theorem AB.of_below {D:CD} {g i:Nat} {a b:World} (h:Cg D g a i) (k:Below a.heap.size a b):AB D g i a b:=⟨AE k,h.below k⟩
theorem AB.trans {D:CD} {g i i':Nat} {a b c:World} (h:AB D g i a b) (k:AB D g i' b c):AB D g i' a c:=⟨h.1.trans k.1,k.2⟩
theorem AB.refl {D:CD} {g i:Nat} {a:World} (h:Cg D g a i):AB D g i a a:=⟨Ai.refl _ _,h⟩
theorem AB.fresh {D:CD} {g i' i0 r:Nat} {a b c:World} (h0:Cg D g a i0) (h:AB D g i' a b) (k:Ai r b c) (hr:a.heap.size<=r):AB D g i' a c:=⟨h.1.fresh k hr,h0.fresh h.2 k hr⟩
def Ct (D:CD) (g i:Nat) (s:ByteArray) (w:World) (e:Ending) (w':World):Prop:=
 e=.returned (.bool (AV s (rd D.ts i)))/\AB D g (if AV s (rd D.ts i)=true then i+1 else i) w w'
theorem Dl (D:CD) (g i:Nat) (s:ByteArray) (w:World) (h:Cg D g w i):Calls Tryz.prog 53 #[.pointer (some ⟨g,0,none⟩),.string s] w (Ct D g i s w):=by
 have hs:=MJ D g i s w h;unfold KX at hs;have HT:=Aa (show ∀w',AB D g (if AV s (rd D.ts i)=true then i+1 else i) w w'->Ct D g i s w (.returned (.bool (AV s (rd D.ts i)))) w' from fun w' h=>⟨rfl,h⟩);have HC:=Aa h;cases hr:AV s (rd D.ts i) with
 |false=>
  rw[hr]at hs HT;rw[if_neg (by decide)]at HT;clear h hr;go_enter Tryz.func53,Tryz.ntmps53;go_wp2_with fail;refine hs.mono ?_;rintro e w1 ⟨rfl,b1⟩;go_wp2_with fail;go_ret
  exact HT.out _ (.of_below HC.out b1)
 |true=>
  have HST:=Aa (BZ h.good.ends hr);rw[hr]at hs HT;rw[if_pos rfl]at HT;have hsk:=fun W (hW:Below w.heap.size w W)=>Jt D g i W (HC.out.below hW)
  have HSK:=Aa hsk;clear h hr hsk;go_enter Tryz.func53,Tryz.ntmps53;go_wp2_with fail;refine hs.mono ?_;rintro e w1 ⟨rfl,b1⟩;go_wp2_with fail;refine (HSK.out _ b1).mono ?_;rintro e w2 ⟨rfl,o2,k2⟩;have HP:=Aa (HT.out w2 ⟨(AE b1).trans o2,k2 D (HC.out.below b1) (by have:=HST.out;have:=HC.out.fits;omega)⟩);clear o2 k2 b1;go_wp2_with fail;go_ret
  exact HP.out
def Ju (D:CD) (g i:Nat) (s:ByteArray) (w:World) (e:Ending) (w':World):Prop:=
 e=.returned (.int .i64 (if AV s (rd D.ts i)=true then 0 else 101))/\AB D g (if AV s (rd D.ts i)=true then i+1 else i) w w'
theorem SJ (D:CD) (g i:Nat) (s:ByteArray) (w:World) (h:Cg D g w i):Calls Tryz.prog 185 #[.pointer (some ⟨g,0,none⟩),.string s] w (Ju D g i s w):=by
 have hs:=Dl D g i s w h;unfold Ct at hs;have HT:=Aa (show ∀w',AB D g (if AV s (rd D.ts i)=true then i+1 else i) w w'->Ju D g i s w (.returned (.int .i64 (if AV s (rd D.ts i)=true then 0 else 101))) w' from fun w' h=>⟨rfl,h⟩);cases hr:AV s (rd D.ts i) with
 |false=>
  rw[hr]at hs HT;simp only[Bool.false_eq_true,if_false]at HT hs;clear h hr;go_enter Tryz.func185,Tryz.ntmps185;go_wp2_with fail;refine hs.mono ?_;rintro e w1 ⟨rfl,b1⟩;have HP:=Aa (HT.out _ b1);clear b1;go_wp2_with fail;go_ret
  exact HP.out
 |true=>
  rw[hr]at hs HT;simp only[if_true]at HT hs;clear h hr;go_enter Tryz.func185,Tryz.ntmps185;go_wp2_with fail;refine hs.mono ?_;rintro e w1 ⟨rfl,b1⟩;have HP:=Aa (HT.out _ b1);clear b1;go_wp2_with fail;go_ret
  exact HP.out
end
section
open Go.RowKit
open Lx Ex
def Ci:List ByteArray->ByteArray->Nat->Int
 |[],_,_=>-1
 |x::xs,s,k=>if x=s then k else Ci xs s (k+1)
theorem KY (xs:List ByteArray) (s x:ByteArray) (k:Nat) (h:xs[k]?=some x):Ci (xs.drop k) s k=if x=s then (k:Int) else Ci (xs.drop (k+1)) s (k+1):=by
 have hl:k<xs.length:=by
  rcases Nat.lt_or_ge k xs.length with h2|h2
  · exact h2
  · rw[List.getElem?_eq_none h2]at h;cases h
 rw[List.getElem?_eq_getElem hl]at h;injection h with h
 rw[List.drop_eq_getElem_cons hl,h,Ci]
theorem MM (xs:List ByteArray) (s:ByteArray) (k:Nat) (h:xs.length<=k):Ci (xs.drop k) s k=-1:=by rw[List.drop_eq_nil_of_le h,Ci]
theorem UO (xs:List ByteArray) (s:ByteArray):∀k:Nat,(DL s xs=true->(k:Int)<=Ci xs s k)/\(DL s xs=false->Ci xs s k=-1)/\Ci xs s k<=(k:Int)+(xs.length:Int):=by
 induction xs with
 |nil=>intro k;simp[Ci,DL]
 |cons x xs ih=>
  intro k;rw[Ci];have h2:=ih (k+1);by_cases h:x=s
  · rw[if_pos h];refine ⟨fun _=>Int.le_refl _,fun hc=>?_,by simp only[List.length_cons];omega⟩;subst h;simp[DL]at hc
  · rw[if_neg h];have hc:DL s (x::xs)=DL s xs:=by
      unfold DL;rw[List.any_cons,decide_eq_false h,Bool.false_or]
    rw[hc];refine ⟨fun q=>?_,h2.2.1,?_⟩
    · have:=h2.1 q;omega
    · have:=h2.2.2;simp only[List.length_cons];omega
theorem CM (A:Option Addr) (n c:Nat) (xs:List ByteArray) (s:ByteArray) (w:World) (h:EN w A n xs) (hn:n<=9223372036854775807):Calls Tryz.prog 88 #[.slice A n c,.string s] w (fun e w'=>e=.returned (.int .i64 (Ci xs s 0))/\w=w'):=by
 have HS:=Aa h;have H0:=Aa (show Ci xs s 0=Ci (xs.drop 0) s 0 from rfl);generalize Ci xs s 0=r at *;have hl:=h.1;clear h;go_enter Tryz.func88,Tryz.ntmps88;go_wp2_with fail;go_loop [5,8] (fun _ i=>∃k:Nat,k<=n/\i=.int .i64 k/\Hid (r=Ci (xs.drop k) s k)) (fun _ i=>n-(intOf i).toNat)
 case atStart=>exact ⟨0,Nat.zero_le _,rfl,H0⟩
 case round=>
  obtain ⟨k,hk,rfl,HK⟩:=hrel;by_cases hlt:k<n
  · obtain ⟨b,o,x,rfl,hb,hx,hc⟩:=HS.out.at_ hlt;have HX:=Aa (HK.out.trans (KY xs s x k hx));clear hx;by_cases he:x=s
    · subst he;have hr:=HX.out.trans (if_pos rfl);subst hr;clear HK HX H0;go_wp2_with fail;go_ret
      exact ⟨rfl,rfl⟩
    · have h1:=Is (fun e=>he e.symm);have HY:=Aa (HX.out.trans (if_neg he));clear HX HK he;go_wp2_with fail;go_round
      case rel=>exact ⟨k+1,by omega,by go_num,HY⟩
      case measure=>simp[intOf];omega
  · have hr:=HK.out.trans (MM xs s k (by omega));subst hr;clear HK H0;go_wp2_with fail;go_ret
    exact ⟨rfl,rfl⟩
theorem LQ (A:Option Addr) (n c:Nat) (xs:List ByteArray) (s:ByteArray) (w:World) (h:EN w A n xs) (hn:n<=9223372036854775807):Calls Tryz.prog 138 #[.slice A n c,.string s] w (fun e w'=>e=.returned (.bool (DL s xs))/\w=w'):=by
 have hi:=CM A n c xs s w h hn;have h1:=UO xs s 0;have HB:=Aa (show ∀b,DL s xs=b->(fun e w'=>e=Ending.returned (.bool b)/\w=w')=(fun e w'=>e=Ending.returned (.bool (DL s xs))/\w=w') from fun b hb=>by rw[hb]);generalize Ci xs s 0=r at *;clear h;cases hc:DL s xs with
 |true=>
  have h2:=h1.1 hc;have g:decide (r>=0)=true:=by simp;omega
  clear h1 hc HB;go_enter Tryz.func138,Tryz.ntmps138;go_wp2_with fail;refine hi.mono ?_;rintro e w1 ⟨rfl,rfl⟩;go_wp2_with fail;go_ret
  exact ⟨rfl,rfl⟩
 |false=>
  have h2:=h1.2.1 hc;subst h2;clear h1 hc HB;go_enter Tryz.func138,Tryz.ntmps138;go_wp2_with fail;refine hi.mono ?_;rintro e w1 ⟨rfl,rfl⟩;go_wp2_with fail;go_ret
  exact ⟨rfl,rfl⟩
end
end Go.Proofs.YtgohmojcopajoaaGreatDoor
