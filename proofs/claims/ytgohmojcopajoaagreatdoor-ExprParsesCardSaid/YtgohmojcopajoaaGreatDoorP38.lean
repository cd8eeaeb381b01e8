/- Texts of one seat, put together: ExprR4 ExprR5. -/
import Derived.Test.YtgohmojcopajoaaGreatDoorP37
import Derived.Test.YtgohmojcopajoaaGreatDoorP31
import Derived.Test.YtgohmojcopajoaaGreatDoorP08
set_option linter.unusedVariables false
set_option linter.unusedSimpArgs false
set_option maxRecDepth 100000
set_option maxHeartbeats 16000000
namespace Go.Proofs.YtgohmojcopajoaaGreatDoor
section
open Go.RowKit
open Lx Ex
theorem OJ {fn:Func} {p q t:Tmp} (h:fn.results=#[.cell p 77,.cell q 33,.tmp t]) (tmps:Array Value) (w:World) (g k:Nat) (a b c d:Value) (x1 x2 x3 x4 x5 x6 x7:Value)
  (hp:tmps.getD p undef=.pointer (some ⟨g,0,none⟩)) (hq:tmps.getD q undef=.pointer (some ⟨k,0,none⟩)) (hg:Ao 77 w g #[a,b,c,d]) (hk:Ao 33 w k #[x1,x2,x3,x4,x5,x6,x7]) :
  (results fn tmps).run Tryz.prog w=.ok (.tuple #[.agg #[a,b,c,d],.agg #[x1,x2,x3,x4,x5,x6,x7],tmps.getD t undef]) w:=by
 have hp':tmps[p]?.getD undef=.pointer (some ⟨g,0,none⟩):=by simpa using hp
 have hq':tmps[q]?.getD undef=.pointer (some ⟨k,0,none⟩):=by simpa using hq
 simp[results,h,hp',hq',asAddr,run_loadVar_row w g 77 77 #[a,b,c,d] (0,0) _ hg Tryz.underlying77 rfl (by kernel_rfl),run_loadVar_row w k 33 33 #[x1,x2,x3,x4,x5,x6,x7] (0,0) _ hk Tryz.underlying33 rfl (by kernel_rfl)]
theorem AO {fn:Func} {R:Ending->World->Prop} {ac:Act} {w:World} {g k p q t:Nat} {a b c d x1 x2 x3 x4 x5 x6 x7 v:Value} (hres:fn.results=#[.cell p 77,.cell q 33,.tmp t]) (hp:ac.tmps.getD p undef=.pointer (some ⟨g,0,none⟩)) (hq:ac.tmps.getD q undef=.pointer (some ⟨k,0,none⟩))
  (hv:ac.tmps.getD t undef=v) (hg:Ao 77 w g #[a,b,c,d]) (hk:Ao 33 w k #[x1,x2,x3,x4,x5,x6,x7]) (hd:ac.defers=[]) (hR:R (.returned (.tuple #[.agg #[a,b,c,d],.agg #[x1,x2,x3,x4,x5,x6,x7],v])) w):bodyPost Tryz.prog fn R .ret ac w:=
 bodyPost_ret (by rw[OJ hres _ _ g k a b c d x1 x2 x3 x4 x5 x6 x7 hp hq hg hk,hv]) hd hR
def AM (D:CD) (o:Out Tr) (i:Nat) (w:World) (e:Ending) (w':World):Prop:=
 ∃(i':Nat) (code:Int) (kd:Int) (Al:Option Addr) (nl cl:Nat) (Ar:Option Addr) (nr cr:Nat) (op:Int) (p q:ByteArray) (A:Option Addr) (n c:Nat),
  e=.returned (.tuple #[.agg #[.slice D.A D.n D.c,.int .i64 (i':Int),.slice D.V D.m D.d,.bool D.known],.agg #[.int .i64 kd,.slice Al nl cl,.slice Ar nr cr,.int .i64 op,.string p,.string q,.slice A n c],.int .i64 code])/\Below w.heap.size w w' /\
   ((code=0/\∃t r1,o=.ok t r1/\Bq (AH w.heap.size) w' (gt t) [.int .i64 kd,.slice Al nl cl,.slice Ar nr cr,.int .i64 op,.string p,.string q,.slice A n c]/\Aj D i r1 i')\/(∃cd r1,code=((cd:Nat):Int)/\cd≠0/\o=.err cd r1/\#[.int .i64 kd,.slice Al nl cl,.slice Ar nr cr,.int .i64 op,.string p,.string q,.slice A n c]=(#[.int .i64 0,.slice none 0 0,.slice none 0 0,.int .i64 0,.string ⟨#[]⟩,.string ⟨#[]⟩,.slice none 0 0]:Array Value)/\Aj D i r1 i'))
theorem AM.ok {D:CD} {i i':Nat} {o:Out Tr} {t:Tr} {r1:List PT} {w w':World} {vs:Array Value} (h:o=.ok t r1) (hT:Bq (AH w.heap.size) w' (gt t) vs.toList) (hs:Aj D i r1 i') (hw:Below w.heap.size w w'):AM D o i w (.returned (.tuple #[.agg #[.slice D.A D.n D.c,.int .i64 (i':Int),.slice D.V D.m D.d,.bool D.known],.agg vs,.int .i64 0])) w':=by
 subst h;obtain ⟨l⟩:=vs;have hT2:=hT;dsimp only at hT2
 cases hg:gt t with
 |mk kd l' r' op p q kids=>
  rw[hg]at hT2;cases hT2 with
  |mk k op l r p q kids Al Ar A nl cl nr cr n c b o cs=> exact ⟨i',0,kd,Al,nl,cl,Ar,nr,cr,op,p,q,A,n,c,rfl,hw,Or.inl ⟨rfl,t,r1,rfl,hT,hs⟩⟩
theorem AM.err {D:CD} {i i' c:Nat} {o:Out Tr} {r1:List PT} {w w':World} (h:o=.err c r1) (hc:c≠0) (hs:Aj D i r1 i') (hw:Below w.heap.size w w'):AM D o i w (.returned (.tuple #[.agg #[.slice D.A D.n D.c,.int .i64 (i':Int),.slice D.V D.m D.d,.bool D.known],.agg #[.int .i64 0,.slice none 0 0,.slice none 0 0,.int .i64 0,.string ⟨#[]⟩,.string ⟨#[]⟩,.slice none 0 0],.int .i64 (c:Nat)])) w':=
 ⟨i',c,0,none,0,0,none,0,0,0,⟨#[]⟩,⟨#[]⟩,none,0,0,rfl,hw,Or.inr ⟨c,r1,rfl,hc,h,rfl,hs⟩⟩
theorem SD (k:Nat) (hk:k<6) (w:World):Calls Tryz.prog 167 #[.int .i64 (k:Int)] w (fun e w'=>e=.returned (.string (CR k))/\w=w'):=by
 match k,hk with
 |0,_=>exact Vy w
 |1,_=>exact Vz w
 |2,_=>exact V0 w
 |3,_=>exact V1 w
 |4,_=>exact V3 w
 |5,_=>exact V4 w
def SE (r:List PT):Nat->Int
 |0=>-1
 |k+1=>if AD (CR k) r=true then (k:Int) else SE r k
theorem SF {r:List PT} {a b:Nat} (ha:a<6) (hb:b<6) (h1:AD (CR a) r=true) (h2:AD (CR b) r=true):a=b:=by
 have hinj:∀a,a<6->∀b,b<6->CR a=CR b->a=b:=by decide +kernel
 cases r with
 |nil=>cases h1
 |cons p r=> simp only[AD,Bool.and_eq_true,decide_eq_true_eq]at h1 h2;exact hinj a ha b hb (h1.1.symm.trans h2.1)
theorem Uq (r:List PT):SE r 6=match JM r with|some op=>(op:Int)|none=>-1:=by
 cases h:JM r with
 |none=>
  have hn:∀j,j<6->AD (CR j) r=false:=by intro j hj;unfold JM at h;rw[List.find?_eq_none]at h;have:=h j (by simpa using hj);simpa using this
  have:∀k,k<=6->SE r k=-1:=by
   intro k;induction k with
   |zero=>intro _;rfl
   |succ k ih=>intro hk;rw[SE,if_neg (by rw[hn k (by omega)];decide)];exact ih (by omega)
  exact this 6 (Nat.le_refl _)
 |some op=>
  unfold JM at h;have h6:op<6:=by have:=List.mem_of_find?_eq_some h;simpa using this
  have h1:AD (CR op) r=true:=by have:=List.find?_some h;simpa using this
  have:∀k,k<=6->op<k->SE r k=op:=by
   intro k;induction k with
   |zero=>intro _ h;omega
   |succ k ih=>
    intro hk ho;rw[SE];by_cases hkk:AD (CR k) r=true
    · rw[if_pos hkk,SF h6 (by omega) h1 hkk]
    · rw[if_neg hkk];refine ih (by omega) ?_;rcases Nat.lt_or_ge op k with q|q
      · exact q
      · have:op=k:=by omega
        subst this;exact absurd h1 hkk
  exact this 6 (Nat.le_refl _) h6
theorem LI (D:CD) (i:Nat) (w0:World) (h:Tp D w0 i):Calls Tryz.prog 141 #[.agg #[.slice D.A D.n D.c,.int .i64 (i:Int),.slice D.V D.m D.d,.bool D.known]] w0 (AM D (FS D.kn (rd D.ts i)) i w0):=by
 have HTG:=Aa h;have HTP:=Aa (fun j W (hb:Below w0.heap.size w0 W) (hf:j+(rd D.ts j).length<=1099511627776)=>(⟨h.kin.below hb,h.sin.below hb,h.good,hf⟩:Tp D W j));obtain ⟨x0,x1,x2,x3,x4⟩:=Dq 77 77 33 w0 #[.slice D.A D.n D.c,.int .i64 (i:Int),.slice D.V D.m D.d,.bool D.known] #[.slice none 0 0,.int .i64 0,.slice none 0 0,.bool false] #[.int .i64 0,.slice none 0 0,.slice none 0 0,.int .i64 0,.string ⟨#[]⟩,.string ⟨#[]⟩,.slice none 0 0]
 have zW:=Nat.lt_of_lt_of_eq (show w0.heap.size+2<w0.heap.size+3 from by omega) x4.symm;clear x4;have T0:=Aa x0;have R0:=Aa x1;have Y0:=Aa x2;have B0:=Aa x3;have u0:=x0.cell 0 _ rfl;have u1:=x0.cell 1 _ rfl;have u2:=x0.cell 2 _ rfl;have u3:=x0.cell 3 _ rfl;have s1:=JF D i _ (HTP.out i _ B0.out h.fits);unfold BQ at s1
 have HP:=Aa (show FS D.kn (rd D.ts i)=(match AX D.kn (rd D.ts i) with|.fuel=>Out.fuel|.err c r1=>.err c r1|.ok l r1=>(match JM r1 with|none=>.err 101 r1|some op=>(match AX D.kn r1.tail with|.fuel=>.fuel|.err c r2=>.err c r2|.ok x r2=>.ok (.cmp l op x) r2))) from rfl);generalize FS D.kn (rd D.ts i)=O at *;clear h x0 x1 x2 x3;cases hs1:AX D.kn (rd D.ts i) with
 |fuel=>exact absurd hs1 (Ee _ _)
 |err cd r1=>
  rw[hs1]at s1 HP;clear hs1;go_enter Tryz.func141,Tryz.ntmps141;go_wp2_with fail;generalize hW0:((w0.alloc (.cells #[.slice D.A D.n D.c,.int .i64 (i:Int),.slice D.V D.m D.d,.bool D.known] 77)).alloc (.cells #[.slice none 0 0,.int .i64 0,.slice none 0 0,.bool false] 77)).alloc (.cells #[.int .i64 0,.slice none 0 0,.slice none 0 0,.int .i64 0,.string ⟨#[]⟩,.string ⟨#[]⟩,.slice none 0 0] 33)=W0 at *;clear hW0;refine s1.mono ?_;rintro e W1 ⟨i1,rfl,hcd,st,bq⟩;have gc:=Ch hcd
  have xT:=T0.out.next bq;have R1:=Aa (R0.out.next bq);have Y1:=Aa (Y0.out.next bq);have B1:=Aa (B0.out.next bq);clear bq s1 u0 u1 u2 u3;go_upto_region 2 with ((with_reducible refine Ab rfl 77 _ _ rfl w0.heap.size #[.slice D.A D.n D.c,.int .i64 (i1:Int),.slice D.V D.m D.d,.bool D.known] rfl rfl _ xT (by kernel_rfl) rfl (by simp[Value.oneCell']) ?_);intro W2 k2 ho2);have xR:=R1.out.other ho2 (by omega);have Y2:=Aa (Y1.out.other ho2 (by omega))
  have B2:=Aa (B1.out.trans (ho2.below B1.out.size (by omega)));have u0:=k2.cell 0 _ rfl;have u1:=k2.cell 1 _ rfl;have u2:=k2.cell 2 _ rfl;have u3:=k2.cell 3 _ rfl;have xY:=Y2.out;have BB:=Aa B2.out;have HPP:=Aa (fun w9 hb9=>AM.err (w:=w0) (w':=w9) HP.out hcd st hb9);clear k2 ho2 xT hcd st;have hryy:(w0.heap.size+1+1)≠(w0.heap.size+1):=by omega
  go_wp2_with (first
   |((with_reducible refine Ab rfl 77 _ _ rfl (w0.heap.size+1) #[.slice D.A D.n D.c,.int .i64 (i1:Int),.slice D.V D.m D.d,.bool D.known] rfl rfl _ xR (by kernel_rfl) rfl (by simp[Value.oneCell']) ?_);intro w8 k8 ho8;have yY:=Ao.other xY ho8 hryy)
   |((with_reducible refine Ab rfl 33 _ _ rfl (w0.heap.size+1+1) #[.int .i64 0,.slice none 0 0,.slice none 0 0,.int .i64 0,.string ⟨#[]⟩,.string ⟨#[]⟩,.slice none 0 0] rfl rfl _ yY (by kernel_rfl) rfl (by simp[Value.oneCell']) ?_);intro w9 k9 ho9))
  refine AO rfl rfl rfl rfl (k8.other ho9 (by omega)) k9 rfl ?_;have hb9:=(BB.out.trans (ho8.below BB.out.size (by omega))).trans (ho9.below (BB.out.trans (ho8.below BB.out.size (by omega))).size (by omega));exact HPP.out _ hb9
 |ok l r1=>
  rw[hs1]at s1 HP;dsimp only at HP
  clear hs1;go_enter Tryz.func141,Tryz.ntmps141;go_wp2_with fail;generalize hW0:((w0.alloc (.cells #[.slice D.A D.n D.c,.int .i64 (i:Int),.slice D.V D.m D.d,.bool D.known] 77)).alloc (.cells #[.slice none 0 0,.int .i64 0,.slice none 0 0,.bool false] 77)).alloc (.cells #[.int .i64 0,.slice none 0 0,.slice none 0 0,.int .i64 0,.string ⟨#[]⟩,.string ⟨#[]⟩,.slice none 0 0] 33)=W0 at *;clear hW0;refine s1.mono ?_;rintro e W1 ⟨i1,A,c,rfl,hc1,hc2,m1,st,bq⟩;have xT:=T0.out.next bq
  have R1:=Aa (R0.out.next bq);have Y1:=Aa (Y0.out.next bq);have B1:=Aa (B0.out.next bq);have hsz1:=bq.size;have M1:=Aa m1;generalize hnl:l.length=nl at hc1 M1 ⊢;have ST:=Aa st;have hrd:=st.1;clear bq s1 u0 u1 u2 u3 m1 hnl;go_upto_region 2 with ((with_reducible refine Ab rfl 77 _ _ rfl w0.heap.size #[.slice D.A D.n D.c,.int .i64 (i1:Int),.slice D.V D.m D.d,.bool D.known] rfl rfl _ xT (by kernel_rfl) rfl (by simp[Value.oneCell']) ?_);intro W2 k2 ho2);have T2:=Aa k2
  have R2:=Aa (R1.out.other ho2 (by omega));have Y2:=Aa (Y1.out.other ho2 (by omega));have B2:=Aa (B1.out.trans (ho2.below B1.out.size (by omega)));have M2:=Aa (M1.out.keep (As.of_only ho2 (by omega)));have hsz2:=ho2.size;have HF1:=Aa (st.fits HTG.out.fits);clear k2 ho2 xT M1 B1 R1 Y1 T0 R0 Y0 B0 st;go_wp2_with fail;go_loopw [7,8] (fun a bb wr=>∃k:Nat,k<=6/\bb=.int .i64 (k:Int)/\a=.int .i64 (SE r1 k)/\Hid (Below W2.heap.size W2 wr)) (fun _ bb _=>6-(intOf bb).toNat)
  case atStart=>exact ⟨0,by decide,rfl,rfl,Aa (Below.refl _ _)⟩
  case round=>
   obtain ⟨k,hk,rfl,rfl,HR⟩:=hrel;have Tr:=T2.out.next HR.out;have u0:=Tr.cell 0 _ rfl;have u1:=Tr.cell 1 _ rfl;have u2:=Tr.cell 2 _ rfl;have u3:=Tr.cell 3 _ rfl;by_cases hk6:k<6
   · have HSG:=Aa (fun W=>SD k hk6 W);obtain ⟨bv,hbv⟩:∃bv,AD (CR k) (rd D.ts i1)=bv:=⟨_,rfl⟩;have HIS:=Aa (fun W (hW:Below wr.heap.size wr W)=>Fq D i1 (CR k) W (HTP.out i1 W ((B2.out.next HR.out).next hW) HF1.out));unfold EM at HIS;rw[hbv]at HIS;have HOQ:=Aa (show SE r1 (k+1)=if bv=true then (k:Int) else SE r1 k from by rw[SE,<-hrd,hbv]);have hgl:=Tr.lt
     have SOF:=Aa (show ∀W,Below wr.heap.size wr W->(W.cell? ⟨w0.heap.size,0,none⟩=some (.slice D.A D.n D.c)/\W.cell? ⟨w0.heap.size,1,none⟩=some (.int .i64 (i1:Int))/\W.cell? ⟨w0.heap.size,2,none⟩=some (.slice D.V D.m D.d)/\W.cell? ⟨w0.heap.size,3,none⟩=some (.bool D.known)) from fun W h=>⟨(Ah h hgl).trans u0,(Ah h hgl).trans u1,(Ah h hgl).trans u2,(Ah h hgl).trans u3⟩);clear u0 u1 u2 u3 Tr hbv;obtain ⟨q0,hq0⟩:∃q0,SE r1 k=q0:=⟨_,rfl⟩;rw[hq0]at HOQ ⊢;clear hq0
     go_upto_region 8 with fail;refine AJ (by kernel_rfl) (by kernel_rfl) (by kernel_rfl) (fun w w'=>Below w.heap.size w w') (fun j v w=>match j with|0=>v=.agg #[.slice D.A D.n D.c,.int .i64 (i1:Int),.slice D.V D.m D.d,.bool D.known]|1=>v=.int .i64 (k:Int)|2=>v=.string (CR k)|3=>v=.bool bv|_=>True) (fun _ _ w=>Below wr.heap.size wr w) ?_ (fun _=>Ai wr 1) ?_ ?_
     · intro j v w w' hT h;match j,h with
       |0,h=>exact h
       |1,h=>exact h
       |2,h=>exact h
       |3,h=>exact h
       |j+4,h=>trivial
     · refine ⟨?_,?_,?_,?_,trivial⟩
       · intro listed σ w a hin hout hl hc hp hG hF;refine Ac.none rfl ?_;have e1:a.tmps.getD 1 undef=.pointer (some ⟨w0.heap.size,0,none⟩):=hout 1 (Af (by kernel_rfl));have CC:=SOF.out w hG;obtain ⟨C0,C1,C2,C3⟩:=CC;refine Does.val (.agg #[.slice D.A D.n D.c,.int .i64 (i1:Int),.slice D.V D.m D.d,.bool D.known]) (w':=w) ?_ ⟨Below.refl _ _,rfl,hG⟩;go_simp
       · intro listed σ w a hin hout hl hc hp hG hF;refine Ac.none rfl ?_;have e8:a.tmps.getD 8 undef=.int .i64 (k:Int):=hout 8 (Af (by kernel_rfl));refine Does.val (.int .i64 (k:Int)) (w':=w) ?_ ⟨Below.refl _ _,rfl,hG⟩;simp only[Array.getD_eq_getD_getElem?]at e8;go_simp
       · intro listed σ w a hin hout hl hc hp hG hF;refine Ac.none rfl ?_;have e27:a.tmps.getD 27 undef=.int .i64 (k:Int):=(hin 1 27 rfl (hp ⟨1,.data⟩ (by simp) rfl)).trans (hF 1 (hp ⟨1,.data⟩ (by simp) rfl));refine Does.call ?_ (HSG.out w) ?_
         · go_simp
         · rintro e w' ⟨rfl,rfl⟩;exact ⟨_,rfl,Below.refl _ _,rfl,hG⟩
       · intro listed σ w a hin hout hl hc hp hG hF;refine Ac.none rfl ?_;have e26:a.tmps.getD 26 undef=.agg #[.slice D.A D.n D.c,.int .i64 (i1:Int),.slice D.V D.m D.d,.bool D.known]:=(hin 0 26 rfl (hp ⟨0,.data⟩ (by simp) rfl)).trans (hF 0 (hp ⟨0,.data⟩ (by simp) rfl));have e28:a.tmps.getD 28 undef=.string (CR k):=(hin 2 28 rfl (hp ⟨2,.data⟩ (by simp) rfl)).trans (hF 2 (hp ⟨2,.data⟩ (by simp) rfl));refine Does.call ?_ (HIS.out w hG) ?_
         · go_simp
         · rintro e w' ⟨rfl,hb⟩;exact ⟨_,rfl,hb,rfl,hG.next hb⟩
     · intro listed σ W9 hall hG hF;rw[show mid _ σ listed _=(Act.put (Act.put (Act.put (Act.put _ (some 26) (σ 0)) (some 27) (σ 1)) (some 28) (σ 2)) (some 29) (σ 3)) from (AZ hall).trans rfl];generalize σ 0=tt0;generalize σ 1=tt1;generalize σ 2=tt2;rw[show σ 3=.bool bv from hF 3 (by decide)];simp only[Act.put,List.setIfInBounds_toArray,List.set_cons_zero,List.set_cons_succ];have TG:=hG;clear hF hG hall;clear σ;have HR2:=Aa (HR.out.next TG);clear SOF TG HSG HIS
       cases bv with
       |true=>
         go_wp2_with fail;go_roundw
         case rel=>exact ⟨k+1,by omega,by go_num,by rw[HOQ.out,if_pos rfl],HR2⟩
         case measure=>simp[intOf];omega
       |false=>
         go_wp2_with fail;go_roundw
         case rel=>exact ⟨k+1,by omega,by go_num,by rw[HOQ.out,if_neg (by decide)],HR2⟩
         case measure=>simp[intOf];omega
   · obtain rfl:k=6:=(by omega);have hq:=Uq r1;cases hop:JM r1 with
     |none=>
       rw[hop]at hq HP;dsimp only at hq
       rw[hq];clear hq hop;have xR:=R2.out.next HR.out;have xY:=Y2.out.next HR.out;have BB:=Aa (B2.out.next HR.out);have HPP:=Aa (fun w9 hb9=>AM.err (c:=101) (w:=w0) (w':=w9) HP.out (by decide) ST.out hb9);have hryy:(w0.heap.size+1+1)≠(w0.heap.size+1):=(by omega);go_wp2_with (first
         |((with_reducible refine Ab rfl 77 _ _ rfl (w0.heap.size+1) #[.slice D.A D.n D.c,.int .i64 (i1:Int),.slice D.V D.m D.d,.bool D.known] rfl rfl _ xR (by kernel_rfl) rfl (by simp[Value.oneCell']) ?_);intro w8 k8 ho8;have yY:=Ao.other xY ho8 hryy)
         |((with_reducible refine Ab rfl 33 _ _ rfl (w0.heap.size+1+1) #[.int .i64 0,.slice none 0 0,.slice none 0 0,.int .i64 0,.string ⟨#[]⟩,.string ⟨#[]⟩,.slice none 0 0] rfl rfl _ yY (by kernel_rfl) rfl (by simp[Value.oneCell']) ?_);intro w9 k9 ho9))
       refine AO rfl rfl rfl rfl (k8.other ho9 (by omega)) k9 rfl ?_;have hb9:=(BB.out.trans (ho8.below BB.out.size (by omega))).trans (ho9.below (BB.out.trans (ho8.below BB.out.size (by omega))).size (by omega));exact HPP.out _ hb9
     |some op=>
       rw[hop]at hq HP;dsimp only at hq HP
       rw[hq];have gop:¬((op:Nat):Int)<0:=Int.not_lt.2 (Int.natCast_nonneg op);have hopt:AD (CR op) r1=true:=(by have:=hop;unfold JM at this;exact (by simpa using List.find?_some this));have hk5:=AV HTG.out.good.ends (show AD (CR op) (rd D.ts i1)=true by rw[hrd];exact hopt);have HK:=Aa (show rd D.ts (i1+1)=r1.tail from by rw[hk5.1,hrd]);have HF2:=Aa (show i1+1+(rd D.ts (i1+1)).length<=1099511627776 from by have:=HF1.out;have:=hk5.2.1;omega)
       have HST2:=Aa (ST.out.trans' (i2:=i1+1) HK.out (by have:=hk5.2.1;have e:=HK.out;rw[<-e];omega));clear hq hop hopt hk5;go_wp2_with fail;have hq:=D7 D i1 wr (by have:=HF1.out;omega);unfold Db at hq;refine hq.mono ?_;rintro e W4 ⟨rfl,bq⟩;have HR4:=Aa (HR.out.next bq);have hrsz:=HR4.out.size;clear bq hq u0 u1 u2 u3 Tr HR;have s2:=JF D (i1+1) W4 (HTP.out (i1+1) W4 (B2.out.next HR4.out) HF2.out);unfold BQ at s2
       rw[HK.out,show ((i1+1:Nat):Int)=(i1:Int)+1 from by omega]at s2;cases hs2:AX D.kn r1.tail with
       |fuel=>exact absurd hs2 (Ee _ _)
       |err cd r2=>
         rw[hs2]at s2 HP;clear hs2;go_wp2_with fail;refine s2.mono ?_;rintro e W5 ⟨i5,rfl,hcd,st5,bq⟩;have gc:=Ch hcd;have HB5:=Aa (HR4.out.next bq);have xT:=T2.out.next HB5.out;have HPP:=Aa (fun w9 hb9=>AM.err (w:=w0) (w':=w9) HP.out hcd (HST2.out.trans st5) hb9);have BB5:=Aa (B2.out.next HB5.out);clear bq s2 hcd st5
         go_upto_region 13 with ((with_reducible refine Ab rfl 77 _ _ rfl w0.heap.size #[.slice D.A D.n D.c,.int .i64 (i5:Int),.slice D.V D.m D.d,.bool D.known] rfl rfl _ xT (by kernel_rfl) rfl (by simp[Value.oneCell']) ?_);intro W6 k6 ho6);have xR:=(R2.out.next HB5.out).other ho6 (by omega);have xY:=(Y2.out.next HB5.out).other ho6 (by omega);have BB:=Aa (BB5.out.trans (ho6.below BB5.out.size (by omega)));have u0:=k6.cell 0 _ rfl;have u1:=k6.cell 1 _ rfl
         have u2:=k6.cell 2 _ rfl;have u3:=k6.cell 3 _ rfl;clear k6 ho6 xT;have hryy:(w0.heap.size+1+1)≠(w0.heap.size+1):=(by omega);go_wp2_with (first
           |((with_reducible refine Ab rfl 77 _ _ rfl (w0.heap.size+1) #[.slice D.A D.n D.c,.int .i64 (i5:Int),.slice D.V D.m D.d,.bool D.known] rfl rfl _ xR (by kernel_rfl) rfl (by simp[Value.oneCell']) ?_);intro w8 k8 ho8;have yY:=Ao.other xY ho8 hryy)
           |((with_reducible refine Ab rfl 33 _ _ rfl (w0.heap.size+1+1) #[.int .i64 0,.slice none 0 0,.slice none 0 0,.int .i64 0,.string ⟨#[]⟩,.string ⟨#[]⟩,.slice none 0 0] rfl rfl _ yY (by kernel_rfl) rfl (by simp[Value.oneCell']) ?_);intro w9 k9 ho9))
         refine AO rfl rfl rfl rfl (k8.other ho9 (by omega)) k9 rfl ?_;have hb9:=(BB.out.trans (ho8.below BB.out.size (by omega))).trans (ho9.below (BB.out.trans (ho8.below BB.out.size (by omega))).size (by omega));exact HPP.out _ hb9
       |ok x r2=>
         rw[hs2]at s2 HP;clear hs2;go_wp2_with fail;refine s2.mono ?_;rintro e W5 ⟨i5,A5,c5,rfl,hd1,hd2,m5,st5,bq⟩;have HB5:=Aa (HR4.out.next bq);have xT:=T2.out.next HB5.out;have ST5:=Aa (HST2.out.trans st5);have BB5:=Aa (B2.out.next HB5.out);have M5:=Aa (M2.out.keep (As.of_below HB5.out));have N5:=Aa m5;generalize hnx:x.length=nx at hd1 N5 ⊢;clear bq s2 st5 m5 hnx
         go_upto_region 13 with ((with_reducible refine Ab rfl 77 _ _ rfl w0.heap.size #[.slice D.A D.n D.c,.int .i64 (i5:Int),.slice D.V D.m D.d,.bool D.known] rfl rfl _ xT (by kernel_rfl) rfl (by simp[Value.oneCell']) ?_);intro W6 k6 ho6);have xR:=(R2.out.next HB5.out).other ho6 (by omega);have xY:=(Y2.out.next HB5.out).other ho6 (by omega);have BB:=Aa (BB5.out.trans (ho6.below BB5.out.size (by omega)));have M6:=Aa (M5.out.keep (As.of_only ho6 (by omega)))
         have N6:=Aa (N5.out.keep (As.of_only ho6 (by omega)));have u0:=k6.cell 0 _ rfl;have u1:=k6.cell 1 _ rfl;have u2:=k6.cell 2 _ rfl;have u3:=k6.cell 3 _ rfl;clear k6 ho6 xT;have hryy:(w0.heap.size+1+1)≠(w0.heap.size+1):=(by omega);go_wp2_with (first
           |((with_reducible refine Ab rfl 77 _ _ rfl (w0.heap.size+1) #[.slice D.A D.n D.c,.int .i64 (i5:Int),.slice D.V D.m D.d,.bool D.known] rfl rfl _ xR (by kernel_rfl) rfl (by simp[Value.oneCell']) ?_);intro w8 k8 ho8;have yY:=Ao.other xY ho8 hryy)
           |((with_reducible refine Ab rfl 33 _ _ rfl (w0.heap.size+1+1) #[.int .i64 2,.slice A nl c,.slice A5 nx c5,.int .i64 (op:Nat),.string ⟨#[]⟩,.string ⟨#[]⟩,.slice none 0 0] rfl rfl _ yY (by kernel_rfl) rfl (by simp[Value.oneCell']) ?_);intro w9 k9 ho9))
         refine AO rfl rfl rfl rfl (k8.other ho9 (by omega)) k9 rfl ?_;have hb9:=(BB.out.trans (ho8.below BB.out.size (by omega))).trans (ho9.below (BB.out.trans (ho8.below BB.out.size (by omega))).size (by omega));skip
         refine AM.ok (vs:=#[.int .i64 2,.slice A nl c,.slice A5 nx c5,.int .i64 (op:Nat),.string ⟨#[]⟩,.string ⟨#[]⟩,.slice none 0 0]) HP.out ?_ ST5.out hb9;have M8:=(M6.out.keep (As.of_only ho8 (by omega))).keep (As.of_only ho9 (by omega));have N8:=(N6.out.keep (As.of_only ho8 (by omega))).keep (As.of_only ho9 (by omega));have M9:De (AH w0.heap.size) w9 A nl l:=M8.mono (by omega);have N9:De (AH w0.heap.size) w9 A5 nx x:=N8.mono (by omega)
         exact Bq.cmp 2 (op:Int) M9 N9 hc1 hc2 hd1 hd2
end
section
open Go.RowKit
open Lx Ex
def I4 (D:CD) (gT i lv:Nat) (go:Tr->Md) (O:Out Tr) (w wr:World) (code:Int):Prop:=
 ∃(i':Nat) (kd:Int) (Al:Option Addr) (nl cl:Nat) (Ar:Option Addr) (nr cr:Nat) (op:Int) (p q:ByteArray) (A:Option Addr) (n c:Nat),
  Ao 33 wr gT #[.int .i64 kd,.slice Al nl cl,.slice Ar nr cr,.int .i64 op,.string p,.string q,.slice A n c]/\Ao 77 wr w.heap.size #[.slice D.A D.n D.c,.int .i64 (i':Int),.slice D.V D.m D.d,.bool D.known]/\Ao 77 wr (w.heap.size+1) #[.slice none 0 0,.int .i64 0,.slice none 0 0,.bool false]/\Ao 33 wr (w.heap.size+1+1) #[.int .i64 0,.slice none 0 0,.slice none 0 0,.int .i64 0,.string ⟨#[]⟩,.string ⟨#[]⟩,.slice none 0 0]/\Below w.heap.size w wr /\
   (
    (code=0/\∃t,Bq (WE (w.heap.size+3) gT) wr (gt t) [.int .i64 kd,.slice Al nl cl,.slice Ar nr cr,.int .i64 op,.string p,.string q,.slice A n c]/\Aj D i (rd D.ts i') i'/\O=Ak D.kn (go t) lv (rd D.ts i')/\(rd D.ts i').length<=(rd D.ts i).length) \/
    (∃cd r1,code=((cd:Nat):Int)/\cd≠0/\Aj D i r1 i'/\O=.err cd r1))
theorem Ib {w:World} {g:Nat} {a c d:Value} {i:Nat} (h:Ao 77 w g #[a,.int .i64 (i:Int),c,d]):Ox w g=i:=by unfold Ox;rw[h.cell 1 _ rfl];simp
end
end Go.Proofs.YtgohmojcopajoaaGreatDoor
