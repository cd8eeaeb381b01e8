/- Texts of one seat, put together: GrowP Each TermB. -/
import Derived.Test.YtmedjkhmadfjlaaGreatR16
import Derived.Shelf.Spec.SlicesGrow
set_option linter.unusedVariables false
set_option linter.unusedSimpArgs false
set_option maxRecDepth 100000
set_option maxHeartbeats 16000000
namespace Go.Proofs.YtmedjkhmadfjlaaGreat
section
open Go.RowKit
open Tm
theorem AF.rebase {T:TypeId} {sz:Nat} {w:World} {base base':Nat} {v:Value} {n:Nat} {xs:List Value} (h:AF T sz w base v n xs) (hb:base'<=base):AF T sz w base' v n xs:=by
 refine ⟨h.1,?_⟩;rcases h.2 with h1|⟨g,cap,cur,rfl,h2,rest⟩
 · exact .inl h1
 · exact .inr ⟨g,cap,cur,rfl,Nat.le_trans hb h2,rest⟩
def Sk (w:World) (e:Ending) (w':World):Prop:=∃A c,e=.returned (.slice A 0 c)/\AF 47 3 w' w.heap.size (.slice A 0 c) 0 []/\Below w.heap.size w w'
theorem Ls (k:Nat):FB (Builtin.zeroCells (Value.agg #[.int .i64 0,.bool false,.slice none 0 0]).cells k).toList:=by
 intro u hu;have hu2:u∈(Builtin.zeroCells (Value.agg #[.int .i64 0,.bool false,.slice none 0 0]).cells k):=by simpa using hu
 unfold Builtin.zeroCells at hu2;obtain ⟨q,-,hq⟩:=Array.mem_map.1 hu2;have hlt:q%(Value.agg #[.int .i64 0,.bool false,.slice none 0 0]).cells.size<(Value.agg #[.int .i64 0,.bool false,.slice none 0 0]).cells.size:=Nat.mod_lt _ (by decide);rw[getElem!_pos (Value.agg #[.int .i64 0,.bool false,.slice none 0 0]).cells _ hlt]at hq;exact BK u (by rw[<-hq];simp)
theorem JO (k:Nat):(Builtin.zeroCells (Value.agg #[.int .i64 0,.bool false,.slice none 0 0]).cells k).size=k*3:=by simp[Builtin.zeroCells,Value.cells]
theorem Hm (n:Nat) (w:World) (hn:n<=1099511):Calls Tryz.prog 150 #[.slice none 0 0,.int .i64 n] w (Sk w):=by
 rcases Nat.eq_zero_or_pos n with h0|h0
 · subst h0;go_enter Tryz.func150,Tryz.ntmps150;go_wp2_with fail;go_ret
   exact ⟨none,0,rfl,AF.nil _ _ _ _,Below.refl _ _⟩
 · obtain ⟨i0,hi0,hz0,hz1,hz2⟩:=info_parts CR;have hold:(Builtin.firstCells i0.size 0 (.slice none 0 0)).run Tryz.prog w.drew=.ok ([]:List Value).toArray w.drew:=run_firstCells_none w.drew i0.size 0 0 0;have hrz:∀ty,(Builtin.append_ #[34,3] ty #[.slice none 0 0,.int .i64 (n:Int)]).run Tryz.prog w =
     .ok (.slice (some ⟨w.heap.size,0,none⟩) n (grownCap w n 0 47)) (w.drew.alloc (.cells (([]:List Value).toArray++Builtin.zeroCells (Value.agg #[.int .i64 0,.bool false,.slice none 0 0]).cells n++Builtin.zeroCells (Value.agg #[.int .i64 0,.bool false,.slice none 0 0]).cells (grownCap w n 0 47-n)) 47)):=fun ty=>by
    have h:=Lib.run_append_grow_zeros (P:=Tryz.prog) w 34 3 ty 47 i0 _ .i64 .i64 Tryz.underlying34 Tryz.underlying3 hi0 hz0 none 0 0 [] hold n (by omega) (by omega) (by omega) (by omega)
     (by rw[hz2];omega) (by rw[Nat.zero_add];exact growslice_fits (by omega) (by rw[hz2];omega))
    rw[Nat.zero_add]at h;exact h
   have hGn:n<=grownCap w n 0 47:=grownCap_ge w _ _ _;have hGm:=grownCap_le_maxLen w n 0 47 (by unfold maxLen;omega);generalize grownCap w n 0 47=G at *;unfold maxLen at hGm
   have HL:=Ac (show AF 47 3 (w.drew.alloc (.cells (([]:List Value).toArray++Builtin.zeroCells (Value.agg #[.int .i64 0,.bool false,.slice none 0 0]).cells n++Builtin.zeroCells (Value.agg #[.int .i64 0,.bool false,.slice none 0 0]).cells (G-n)) 47)) w.heap.size (.slice (some ⟨w.heap.size,0,none⟩) 0 G) 0 [] from
    AF.made (w:=w.drew) _ G (Nat.le_refl _) (by unfold maxLen;exact hGm) (by rw[Array.size_append,Array.size_append,JO,JO];show 0+n*3+(G-n)*3=G*3;omega) (by simp only[Array.toList_append];exact (FB.append (fun u hu=>by simp at hu) (Ls n)).append (Ls _)))
   clear hold hi0 hz0 hz1 hz2;have HB:=Ac (show Below w.heap.size w (w.drew.alloc (.cells (([]:List Value).toArray++Builtin.zeroCells (Value.agg #[.int .i64 0,.bool false,.slice none 0 0]).cells n++Builtin.zeroCells (Value.agg #[.int .i64 0,.bool false,.slice none 0 0]).cells (G-n)) 47)) from (Ap w 1).next (Af _ _))
   generalize (w.drew.alloc (.cells (([]:List Value).toArray++Builtin.zeroCells (Value.agg #[.int .i64 0,.bool false,.slice none 0 0]).cells n++Builtin.zeroCells (Value.agg #[.int .i64 0,.bool false,.slice none 0 0]).cells (G-n)) 47))=W1 at *;go_enter Tryz.func150,Tryz.ntmps150;go_wp2_with (at_builtin;refine Lib.wpList_append_run _ rfl _ _ _ _ rfl _ _ rfl rfl _ _ (hrz _) ?_);go_ret
   exact ⟨_,G,rfl,HL.out,HB.out⟩
end
section
open Go.RowKit
open Tm
theorem World.grownBy.trans2 {w0 w w':World} {row:Option Nat} (h:Below w0.heap.size w0 w) (k:w.grownBy w' row):w0.grownBy w' row:=
 ⟨k.os.trans h.os,k.tape.trans h.tape,k.output.trans h.output,Nat.le_trans h.size k.size,fun b hb hne=>(k.block b (Nat.lt_of_lt_of_le hb h.size) hne).trans (h.block b hb)⟩
theorem JP {P:Program} {w:World} {o:Oper} {a:Act} {T:TypeId} {x y:Operand} {g:Nat} {cells old:Array Value} (ho:o.op=.store T x y) (hx:a.eval x=.pointer (some ⟨g,0,none⟩)) (hy:a.eval y=.agg cells) (hb:AK T w g old)
  (hi:(P.info? T).map (·.size)=some cells.size) (hold:old.size=cells.size) (h1:cells.all (·.oneCell')=true):∃w',(execOp a.eval o).run P w=.ok .skip w'/\AK T w' g cells/\AA g w w':=by
 refine ⟨w.setRow g cells,?_,setRow_heap w g old cells _ _ hb,Dl w g _⟩;unfold execOp;simp only[ho,hx,hy,Instr.storeAt,Instr.sureAddr,Sem.run_bind,Sem.run_pure,Result.andThen_ok,run_storeVar_row w g T T old cells hb hi hold h1]
theorem Does.store_box {P:Program} {w:World} {o:Oper} {a:Act} {T:TypeId} {x y g:Nat} {cells old:Array Value} {R:Value->World->Prop} (ho:o.op=.store T (.tmp x) (.tmp y)) (hx:a.tmps.getD x undef=.pointer (some ⟨g,0,none⟩)) (hy:a.tmps.getD y undef=.agg cells) (hb:AK T w g old)
  (hi:(P.info? T).map (·.size)=some cells.size) (hold:old.size=cells.size) (h1:cells.all (·.oneCell')=true) (hR:∀w',AK T w' g cells->AA g w w'->R undef w'):Does P a o w R:=by
 obtain ⟨w',h2,h3,h4⟩:=JP (P:=P) (a:=a) ho hx hy hb hi hold h1;exact Does.skip h2 (hR w' h3 h4)
theorem AF.offTerm {w:World} {base n g:Nat} {v:Value} {xs:List Value} {cs:Array Value} (h:AF 47 3 w base v n xs) (hb:AK 40 w g cs):v.ownBlock≠some g:=by
 intro e;rcases h.2 with ⟨rfl,_⟩|⟨g',cap,cur,rfl,_,hh,_⟩
 · cases e
 · injection e with e
   have e':g'=g:=e;subst e';unfold AK at hb;rw[hh]at hb;injection hb with hb
   injection hb with _ ht
   exact absurd ht (by decide)
theorem AF.onlyTerm {w w':World} {base n g:Nat} {v:Value} {xs:List Value} {cs:Array Value} (h:AF 47 3 w base v n xs) (hb:AK 40 w g cs) (ho:AA g w w'):AF 47 3 w' base v n xs:=
 h.kept ho (.inr (h.offTerm hb))
def Hn (W0:World) (g:Nat) (L:List (Int×Int)) (K:Int) (f:Int->Int) (j q:Nat) (wr:World):Prop:=
 ∃(rs:List PV) (A:Option Addr) (c:Nat) (s:Bool) (B:Option Addr) (m d:Nat),AK 40 wr g #[.slice A q c,.bool s,.slice B m d]/\W0.heap.size<=g/\AF 47 3 wr W0.heap.size (.slice A q c) q (flat rs)/\rs.length=q /\
  Cl rs=(L.take q).map (fun p=>(p.1,f p.2))/\(∀p∈rs,Au wr p.num p.Z j)/\Au wr (.agg #[.bool s,.slice B m d]) (f K) j/\Below W0.heap.size W0 wr
theorem Hn.step {W1 W6 w:World} {g q c4 m4 d4 c2 kj:Nat} {A4 B4 A2:Option Addr} {s4:Bool} {L:List (Int×Int)} {K pv pZ:Int} {f:Int->Int} {rs:List PV} {p2:PV}
   (xg:AK 40 W6 g #[.slice A4 q c4,.bool s4,.slice B4 m4 d4]) (hg:W1.heap.size<=g) (lr:AF 47 3 W6 W1.heap.size (.slice A4 q c4) q (flat rs)) (hrl:rs.length=q) (hlin:Cl rs=(L.take q).map (fun p=>(p.1,f p.2)))
   (hrz:∀p∈rs,Au W6 p.num p.Z kj) (zK:Au W6 (.agg #[.bool s4,.slice B4 m4 d4]) (f K) kj) (bW:Below W1.heap.size W1 W6) (hL:L[q]?=some (pv,pZ)) (h1:p2.v=pv) (h2:p2.Z=f pZ)
   (l2:AF 47 3 w W1.heap.size (.slice A2 (q+1) c2) (rs++[p2]).length (flat (rs++[p2]))) (z2:Au w p2.num p2.Z kj) (tg:Tg (Value.slice A4 q c4).ownBlock W6 w) :
   Hn W1 g L K f kj (q+1) (w.setCell ⟨g,0,none⟩ (.slice A2 (q+1) c2)):=by
 have hne:some g≠(Value.slice A4 q c4).ownBlock:=fun e=>lr.offTerm xg e.symm
 have x9:=xg.grown tg.1 hne;have o9:=Lp w g 0 (.slice A2 (q+1) c2);have hk:=x9.kp (Te _ _ _ _ _ _ _) o9;have hlen:(rs++[p2]).length=q+1:=by simp[hrl]
 rw[hlen]at l2;refine ⟨rs++[p2],A2,c2,s4,B4,m4,d4,x9.set_0 _,hg,l2.onlyTerm x9 o9,hlen,?_,fun x hx=>?_,(zK.kp tg.2).kp hk,?_⟩
 · rw[Bu,hlin,List.take_add_one,hL,List.map_append];simp[Cl,PV.part,h1,h2]
 · rcases List.mem_append.1 hx with hx|hx
   · exact ((hrz x hx).kp tg.2).kp hk
   · simp at hx;subst hx;exact z2.kp hk
 · exact ((lr.old bW tg.1 (Nat.le_refl _) (Nat.le_refl _))).trans (o9.below (Nat.le_trans bW.size tg.1.size) hg)
theorem JQ (v:Value) (L:List (Int×Int)) (K:Int) (k kj fg:Nat) (cb:Array Value) (f:Int->Int) (w0:World) (hv:D9 w0 v L K k) (hf:V5 w0 fg cb f (k+L.length) kj) (eg:∀args w0,(callFunc fg args).run Tryz.prog w0=.ok (.enter fg args) w0) (hl:L.length<=1099511) (hk:k<=1099511627) :
   Calls Tryz.prog 104 #[v,.func (.func fg) #[] cb] w0 (BG ((norm L).map fun p=>(p.1,f p.2)) (f K) kj w0):=by
 obtain ⟨A,n,c,s,B,m,d,rfl,hp,hc1,hc2,hK⟩:=hv;have hn:=hp.len;obtain ⟨z0,z1,z2,z3⟩:=Bi 40 40 w0 #[.slice A n c,.bool s,.slice B m d] #[.slice none 0 0,.bool false,.slice none 0 0];have hpl:=Gj A n c L k _ (hp.below z2) hc1 hc2 (by omega) hk;have x0:=z0.c0;go_enter Tryz.func104,Tryz.ntmps104;go_wp2_with fail;refine hpl.mono ?_;rintro e W1 ⟨A1,n1,c1,rfl,p1,h11,h12,b1⟩;have t1:=z2.next b1;have hn1:n1<=1099511:=by have:=p1.len;have:=Bz L;omega
 have q1:=z0.next b1;have r1:=z1.next b1;have hW1:w0.heap.size+2<=W1.heap.size:=by have:=b1.size;omega
 clear x0 hpl;go_wp2_with fail;rw[hn]at hf;have HF:=Ac hf;have HT1:=Ac t1;have HK:=Ac ((hK.mono (show k<=k+n by omega)).below t1);have SOF:=Ac (show ∀W,Below W1.heap.size W1 W->(W.cell? ⟨w0.heap.size,1,none⟩=some (.bool s)/\W.cell? ⟨w0.heap.size,2,none⟩=some (.slice B m d)) from fun W h=>⟨(q1.next h).c1,(q1.next h).c2⟩);have HP1:=Ac p1;have HR1:=Ac r1;have HZ3:=Ac z3;have hnl:=Ac hn;clear hf t1 q1 p1 r1 z0 z1 z2 z3 b1 hK hp hn
 refine AW (by kernel_rfl) (by kernel_rfl) (by kernel_rfl) (by kernel_rfl) (fun w w'=>Below w.heap.size w w') (fun j v w=>match j with|0=>v=.slice A1 n1 c1|1=>v=.int .i64 n1|2=>∃A c,v=.slice A 0 c/\AF 47 3 w W1.heap.size (.slice A 0 c) 0 []|3=>v=.func (.func fg) #[] cb|4=>v=.pointer (some ⟨w0.heap.size,1,none⟩)|5=>v=.agg #[.bool s,.slice B m d]|6=>∃s B m d,v=.agg #[.bool s,.slice B m d]/\Au w (.agg #[.bool s,.slice B m d]) (f K) kj|7=>∃A c s B m d,v=.agg #[.slice A 0 c,.bool s,.slice B m d]/\AF 47 3 w W1.heap.size (.slice A 0 c) 0 []/\Au w (.agg #[.bool s,.slice B m d]) (f K) kj|8=>∃g,v=.pointer (some ⟨g,0,none⟩)/\W1.heap.size<=g/\AK 40 w g #[.slice none 0 0,.bool false,.slice none 0 0]|_=>True) (fun _ _ w=>Below W1.heap.size W1 w) ?_ (fun _=>Ap W1 1) ?_ ?_
 · intro j v w w' hT h;match j,h with
   |0,h=>exact h
   |1,h=>exact h
   |2,h=>exact (by obtain ⟨A,c,e,hl⟩:=h;exact ⟨A,c,e,hl.below hT⟩)
   |3,h=>exact h
   |4,h=>exact h
   |5,h=>exact h
   |6,h=>exact (by obtain ⟨s,B,m,d,e,z⟩:=h;exact ⟨s,B,m,d,e,z.below hT⟩)
   |7,h=>exact (by obtain ⟨A,c,s,B,m,d,e,l,z⟩:=h;exact ⟨A,c,s,B,m,d,e,l.below hT,z.below hT⟩)
   |8,h=>exact (by obtain ⟨g,e,h1,h2⟩:=h;exact ⟨g,e,h1,h2.next hT⟩)
   |j+9,h=>trivial
 · refine ⟨?_,?_,?_,?_,?_,?_,?_,?_,?_,trivial⟩
   · intro l9 σ w a hin hout hl hla hs hc hp hG hF;refine Ad.none rfl ?_;have e5:a.tmps.getD 5 undef=.slice A1 n1 c1:=hout 5 (Ae (by kernel_rfl));refine Does.val (.slice A1 n1 c1) (w':=w) ?_ ⟨Below.refl _ _,rfl,hG⟩;simp only[Array.getD_eq_getD_getElem?]at e5;go_simp
   · intro l9 σ w a hin hout hl hla hs hc hp hG hF;refine Ad.none rfl ?_;have e12:a.tmps.getD 12 undef=.slice A1 n1 c1:=Am (hin 0 12) rfl (hp ⟨0,.data⟩ (by simp) rfl) (hF 0);refine Does.val (.int .i64 n1) (w':=w) ?_ ⟨Below.refl _ _,rfl,hG⟩;simp only[Array.getD_eq_getD_getElem?]at e12;go_simp
   · intro l9 σ w a hin hout hl hla hs hc hp hG hF;refine Ad.none rfl ?_;have e13:a.tmps.getD 13 undef=.int .i64 n1:=Am (hin 1 13) rfl (hp ⟨1,.data⟩ (by simp) rfl) (hF 1);refine Does.call ?_ (Hm n1 w hn1) ?_
     · go_simp
     · rintro e w' ⟨A,c,rfl,hl,hb⟩;exact ⟨_,rfl,hb,⟨A,c,rfl,hl.rebase hG.size⟩,hG.next hb⟩
   · intro l9 σ w a hin hout hl hla hs hc hp hG hF;refine Ad.none rfl ?_;have e1:a.tmps.getD 1 undef=.func (.func fg) #[] cb:=hout 1 (Ae (by kernel_rfl));refine Does.val (.func (.func fg) #[] cb) (w':=w) ?_ ⟨Below.refl _ _,rfl,hG⟩;simp only[Array.getD_eq_getD_getElem?]at e1;go_simp
   · intro l9 σ w a hin hout hl hla hs hc hp hG hF;refine Ad.none rfl ?_;have e2:a.tmps.getD 2 undef=.pointer (some ⟨w0.heap.size,0,none⟩):=hout 2 (Ae (by kernel_rfl));refine Does.val (.pointer (some ⟨w0.heap.size,1,none⟩)) (w':=w) ?_ ⟨Below.refl _ _,rfl,hG⟩;simp only[Array.getD_eq_getD_getElem?]at e2;go_simp
   · intro l9 σ w a hin hout hl hla hs hc hp hG hF;refine Ad.none rfl ?_;have e16:a.tmps.getD 16 undef=.pointer (some ⟨w0.heap.size,1,none⟩):=Am (hin 4 16) rfl (hp ⟨4,.data⟩ (by simp) rfl) (hF 4);have CC:=SOF.out w hG;obtain ⟨C1,C2⟩:=CC;refine Does.val (.agg #[.bool s,.slice B m d]) (w':=w) ?_ ⟨Below.refl _ _,rfl,hG⟩;go_simp
   · intro l9 σ w a hin hout hl hla hs hc hp hG hF;refine Ad.none rfl ?_;have e15:a.tmps.getD 15 undef=.func (.func fg) #[] cb:=Am (hin 3 15) rfl (hp ⟨3,.data⟩ (by simp) rfl) (hF 3);have e17:a.tmps.getD 17 undef=.agg #[.bool s,.slice B m d]:=Am (hin 5 17) rfl (hp ⟨5,.data⟩ (by simp) rfl) (hF 5);refine Does.call ?_ (HF.out _ _ _ (HT1.out.next hG) (HK.out.below hG)) ?_
     · go_simp;(try exact eg _ _)
     · rintro e w' ⟨v,rfl,z,hb⟩;exact ⟨_,rfl,hb,(by obtain ⟨s,B,m,d,rfl⟩:=z.form;exact ⟨s,B,m,d,rfl,z⟩),hG.next hb⟩
   · intro l9 σ w a hin hout hl hla hs hc hp hG hF;refine Ad.none rfl ?_;have e14:=hin 2 14 rfl (hp ⟨2,.data⟩ (by simp) rfl);obtain ⟨A2,c2,ev2,l2⟩:=hF 2 (hp ⟨2,.data⟩ (by simp) rfl);rw[ev2]at e14;have e18:=hin 6 18 rfl (hp ⟨6,.data⟩ (by simp) rfl);obtain ⟨s6,B6,m6,d6,ev6,z6⟩:=hF 6 (hp ⟨6,.data⟩ (by simp) rfl);rw[ev6]at e18;refine Does.val (.agg #[.slice A2 0 c2,.bool s6,.slice B6 m6 d6]) (w':=w) ?_ ⟨Below.refl _ _,⟨A2,c2,s6,B6,m6,d6,rfl,l2,z6⟩,hG⟩
     simp only[Array.getD_eq_getD_getElem?]at e14 e18;go_simp
   · intro l9 σ w a hin hout hl hla hs hc hp hG hF;refine Ad.none rfl ?_;refine Does.val (.pointer (some ⟨w.heap.size,0,none⟩)) (w':=w.alloc (.cells #[.slice none 0 0,.bool false,.slice none 0 0] 40)) ?_ ⟨Af w _,⟨w.heap.size,rfl,hG.size,AK.new _ _ _⟩,hG.next (Af w _)⟩;go_simp
 · intro o ho;injection ho with ho;subst ho
   intro l9 σ w a hall hin hout hG hF;refine Ad.none rfl ?_;have e6:=hin 8 6 rfl (by decide);obtain ⟨g8,ev8,hg8,x8⟩:=hF 8 (by decide);rw[ev8]at e6;have e19:=hin 7 19 rfl (by decide);obtain ⟨A7,c7,s7,B7,m7,d7,ev7,l7,z7⟩:=hF 7 (by decide);rw[ev7]at e19;refine Does.store_box (T:=40) (cells:=#[.slice A7 0 c7,.bool s7,.slice B7 m7 d7]) rfl e6 e19 x8 (by kernel_rfl) rfl (by simp[Value.oneCell']) (fun w2 x9 o9=>?_)
   rw[show fin _ σ undef _=(Act.put (Act.put (Act.put (Act.put (Act.put (Act.put (Act.put (Act.put (Act.put (Act.put _ (some 12) (σ 0)) (some 13) (σ 1)) (some 14) (σ 2)) (some 15) (σ 3)) (some 16) (σ 4)) (some 17) (σ 5)) (some 18) (σ 6)) (some 19) (σ 7)) (some 6) (σ 8)) none undef) from (Bt hall).trans rfl];simp only[Act.put,List.setIfInBounds_toArray,List.set_cons_zero,List.set_cons_succ];rw[ev8]
   have HE:=Ac (show Hn W1 g8 (norm L) K f kj 0 w2 from ⟨[],A7,c7,s7,B7,m7,d7,x9,hg8,l7.onlyTerm x8 o9,rfl,rfl,fun p hp=>by simp at hp,z7.kp (x8.kp (Te _ _ _ _ _ _ _) o9),hG.trans (o9.below hG.size hg8)⟩);generalize σ 0=tt0;generalize σ 1=tt1;generalize σ 2=tt2;generalize σ 3=tt3;generalize σ 4=tt4;generalize σ 5=tt5;generalize σ 6=tt6;generalize σ 7=tt7;clear hF hG hall hin hout SOF l7 z7 x8 x9 o9 e6 e19 HK ev7 ev8;go_wp2_with fail
   go_loopw [22] (fun i wr=>∃q:Nat,q<=n1/\i=.int .i64 q/\Hid (Hn W1 g8 (norm L) K f kj q wr)) (fun i _=>n1-(intOf i).toNat)
   case atStart=>exact ⟨0,Nat.zero_le _,rfl,HE⟩
   case round=>
     obtain ⟨q,hq,rfl,HR⟩:=hrel;by_cases hqn:q<n1
     · obtain ⟨rs,A4,c4,s4,B4,m4,d4,xg,hgW,lr,hrl,hlin,hrz,zK,bW⟩:=HR.out;obtain ⟨bb,o,p,rfl,hlt,hLp,c0,c1x,c2,hz⟩:=(HP1.out.below bW).at_ hqn;have HLp:=Ac hLp;obtain ⟨y0,y1,-⟩:=Bh 47 wr #[.int .i64 p.v,.bool p.s,.slice p.B p.m p.d];have bW6:=bW.trans (y1.mono bW.size);have hlr:=lr.below y1;have xg6:=xg.next y1;have hrz6:=Ac (show ∀p'∈rs,Au _ p'.num p'.Z kj from fun p' hp'=>(hrz p' hp').below y1);have zK6:=Ac (zK.below y1);have hz6:=hz.below y1;have HGW:=Ac hgW
       have HRL:=Ac hrl;have HLI:=Ac hlin;have hq9:q<=1099511:=(by omega);clear lr hrz zK hLp hrl hlin xg hz hlt HR;go_wp2_with fail;generalize hW6:(wr.alloc (.cells #[.int .i64 p.v,.bool p.s,.slice p.B p.m p.d] 47))=W6 at *;clear hW6 y1;have HL:=Ac hlr;have HY:=Ac y0;have HXG:=Ac xg6;have HBW:=Ac bW6;have HWS:=Ac bW6.size;have HRW:=Ac (show ∀gs,(Value.slice A4 q c4).ownBlock=some gs->gs<W6.heap.size from fun gs e=>(hlr.lt gs e).2)
       have HF6:=Ac (fun W (h:Below W6.heap.size W6 W)=>HF.out W (.agg #[.bool p.s,.slice p.B p.m p.d]) p.Z ((HT1.out.trans (bW6.mono HT1.out.size)).trans (h.mono (Nat.le_trans HT1.out.size bW6.size))) (hz6.below h))
       have SOF:=Ac (show ∀W,Below W6.heap.size W6 W->(W.cell? ⟨g8,0,none⟩=some (.slice A4 q c4)/\W.cell? ⟨wr.heap.size,0,none⟩=some (.int .i64 p.v)/\W.cell? ⟨wr.heap.size,1,none⟩=some (.bool p.s)/\W.cell? ⟨wr.heap.size,2,none⟩=some (.slice p.B p.m p.d)) from fun W h=>⟨(xg6.next h).c0,(y0.next h).c0,(y0.next h).c1,(y0.next h).c2⟩);clear hlr y0 xg6 bW6 hz6 c0 c1x c2 bW hgW
       refine AW (by kernel_rfl) (by kernel_rfl) (by kernel_rfl) (by kernel_rfl) (Tg (Value.slice A4 q c4).ownBlock) (fun j v w=>match j with|0=>v=.pointer (some ⟨g8,0,none⟩)|1=>v=.slice A4 q c4|2=>v=.pointer (some ⟨wr.heap.size,0,none⟩)|3=>v=.int .i64 p.v|4=>v=.func (.func fg) #[] cb|5=>v=.pointer (some ⟨wr.heap.size,1,none⟩)|6=>v=.agg #[.bool p.s,.slice p.B p.m p.d]|7=>∃s B m d,v=.agg #[.bool s,.slice B m d]/\Au w (.agg #[.bool s,.slice B m d]) (f p.Z) kj|8=>∃s B m d,v=.agg #[.int .i64 p.v,.bool s,.slice B m d]/\Au w (.agg #[.bool s,.slice B m d]) (f p.Z) kj|9=>∃gs s B m d,v=.slice (some ⟨gs,0,none⟩) 1 1/\W6.heap.size<=gs/\AK 47 w gs #[.int .i64 p.v,.bool s,.slice B m d]/\Au w (.agg #[.bool s,.slice B m d]) (f p.Z) kj|10=>True|11=>v=.pointer (some ⟨g8,0,none⟩)|_=>True) (GA 10 W6 (fun v w=>∃p2:PV,p2.v=p.v/\p2.Z=f p.Z/\AF 47 3 w W1.heap.size v (rs++[p2]).length (flat (rs++[p2]))/\Au w p2.num p2.Z kj/\Tg (Value.slice A4 q c4).ownBlock W6 w)) ?_ (fun _=>GA.start _ (Ap W6 1)) ?_ ?_
       · intro j v w w' hT h;match j,h with
         |0,h=>exact h
         |1,h=>exact h
         |2,h=>exact h
         |3,h=>exact h
         |4,h=>exact h
         |5,h=>exact h
         |6,h=>exact h
         |7,h=>exact (by obtain ⟨s,B,m,d,e,z⟩:=h;exact ⟨s,B,m,d,e,z.kp hT.2⟩)
         |8,h=>exact (by obtain ⟨s,B,m,d,e,z⟩:=h;exact ⟨s,B,m,d,e,z.kp hT.2⟩)
         |9,h=>exact (by obtain ⟨gs,s,B,m,d,e,h1,h2,h3⟩:=h;exact ⟨gs,s,B,m,d,e,h1,h2.grown hT.1 (fun e=>by have:=HRW.out gs e.symm;omega),h3.kp hT.2⟩)
         |10,h=>exact trivial
         |11,h=>exact h
         |j+12,h=>trivial
       · refine ⟨?_,?_,?_,?_,?_,?_,?_,?_,?_,?_,?_,?_,trivial⟩
         · intro l9 σ w a hin hout hl hla hs hc hp hG hF;refine Ad.none rfl ?_;have e6:a.tmps.getD 6 undef=.pointer (some ⟨g8,0,none⟩):=hout 6 (Ae (by kernel_rfl));refine Does.val (.pointer (some ⟨g8,0,none⟩)) (w':=w) ?_ ⟨Tg.refl _ _,rfl,hG.same (by decide)⟩;simp only[Array.getD_eq_getD_getElem?]at e6;go_simp
         · intro l9 σ w a hin hout hl hla hs hc hp hG hF;refine Ad.none rfl ?_;have e26:a.tmps.getD 26 undef=.pointer (some ⟨g8,0,none⟩):=Am (hin 0 26) rfl (hp ⟨0,.data⟩ (by simp) rfl) (hF 0);have CC:=SOF.out w (hG.1 (Ai (k:=10) hc hl (by kernel_rfl)));obtain ⟨C0,D0,D1,D2⟩:=CC;refine Does.val (.slice A4 q c4) (w':=w) ?_ ⟨Tg.refl _ _,rfl,hG.same (by decide)⟩;go_simp
         · intro l9 σ w a hin hout hl hla hs hc hp hG hF;refine Ad.none rfl ?_;have e8:a.tmps.getD 8 undef=.pointer (some ⟨wr.heap.size,0,none⟩):=hout 8 (Ae (by kernel_rfl));refine Does.val (.pointer (some ⟨wr.heap.size,0,none⟩)) (w':=w) ?_ ⟨Tg.refl _ _,rfl,hG.same (by decide)⟩;simp only[Array.getD_eq_getD_getElem?]at e8;go_simp
         · intro l9 σ w a hin hout hl hla hs hc hp hG hF;refine Ad.none rfl ?_;have e28:a.tmps.getD 28 undef=.pointer (some ⟨wr.heap.size,0,none⟩):=Am (hin 2 28) rfl (hp ⟨2,.data⟩ (by simp) rfl) (hF 2);have CC:=SOF.out w (hG.1 (Ai (k:=10) hc (Ai (k:=9) hc (Ai (k:=8) hc hl (by kernel_rfl)) (by kernel_rfl)) (by kernel_rfl)));obtain ⟨C0,D0,D1,D2⟩:=CC;refine Does.val (.int .i64 p.v) (w':=w) ?_ ⟨Tg.refl _ _,rfl,hG.same (by decide)⟩;go_simp
         · intro l9 σ w a hin hout hl hla hs hc hp hG hF;refine Ad.none rfl ?_;have e1:a.tmps.getD 1 undef=.func (.func fg) #[] cb:=hout 1 (Ae (by kernel_rfl));refine Does.val (.func (.func fg) #[] cb) (w':=w) ?_ ⟨Tg.refl _ _,rfl,hG.same (by decide)⟩;simp only[Array.getD_eq_getD_getElem?]at e1;go_simp
         · intro l9 σ w a hin hout hl hla hs hc hp hG hF;refine Ad.none rfl ?_;have e8:a.tmps.getD 8 undef=.pointer (some ⟨wr.heap.size,0,none⟩):=hout 8 (Ae (by kernel_rfl));refine Does.val (.pointer (some ⟨wr.heap.size,1,none⟩)) (w':=w) ?_ ⟨Tg.refl _ _,rfl,hG.same (by decide)⟩;simp only[Array.getD_eq_getD_getElem?]at e8;go_simp
         · intro l9 σ w a hin hout hl hla hs hc hp hG hF;refine Ad.none rfl ?_;have e31:a.tmps.getD 31 undef=.pointer (some ⟨wr.heap.size,1,none⟩):=Am (hin 5 31) rfl (hp ⟨5,.data⟩ (by simp) rfl) (hF 5);have CC:=SOF.out w (hG.1 (Ai (k:=10) hc (Ai (k:=7) hc hl (by kernel_rfl)) (by kernel_rfl)));obtain ⟨C0,D0,D1,D2⟩:=CC;refine Does.val (.agg #[.bool p.s,.slice p.B p.m p.d]) (w':=w) ?_ ⟨Tg.refl _ _,rfl,hG.same (by decide)⟩;go_simp
         · intro l9 σ w a hin hout hl hla hs hc hp hG hF;refine Ad.none rfl ?_;have e30:a.tmps.getD 30 undef=.func (.func fg) #[] cb:=Am (hin 4 30) rfl (hp ⟨4,.data⟩ (by simp) rfl) (hF 4);have e32:a.tmps.getD 32 undef=.agg #[.bool p.s,.slice p.B p.m p.d]:=Am (hin 6 32) rfl (hp ⟨6,.data⟩ (by simp) rfl) (hF 6);refine Does.call ?_ (HF6.out w (hG.1 (Ai (k:=10) hc hl (by kernel_rfl)))) ?_
           · go_simp;(try exact eg _ _)
           · rintro e w' ⟨v,rfl,z,hb⟩;exact ⟨_,rfl,Tg.of_below hb,(by obtain ⟨s,B,m,d,rfl⟩:=z.form;exact ⟨s,B,m,d,rfl,z⟩),hG.call (by decide) (Ai (k:=10) hc hl (by kernel_rfl)) hb⟩
         · intro l9 σ w a hin hout hl hla hs hc hp hG hF;refine Ad.none rfl ?_;have e29:a.tmps.getD 29 undef=.int .i64 p.v:=Am (hin 3 29) rfl (hp ⟨3,.data⟩ (by simp) rfl) (hF 3);have e33:=hin 7 33 rfl (hp ⟨7,.data⟩ (by simp) rfl);obtain ⟨s7,B7,m7,d7,ev7,z7⟩:=hF 7 (hp ⟨7,.data⟩ (by simp) rfl);rw[ev7]at e33;refine Does.val (.agg #[.int .i64 p.v,.bool s7,.slice B7 m7 d7]) (w':=w) ?_ ⟨Tg.refl _ _,⟨s7,B7,m7,d7,rfl,z7⟩,hG.same (by decide)⟩
           simp only[Array.getD_eq_getD_getElem?]at e29 e33;go_simp
         · intro l9 σ w a hin hout hl hla hs hc hp hG hF;refine Ad.none rfl ?_;have e34:=hin 8 34 rfl (hp ⟨8,.data⟩ (by simp) rfl);obtain ⟨s8,B8,m8,d8,ev8,z8⟩:=hF 8 (hp ⟨8,.data⟩ (by simp) rfl);rw[ev8]at e34
           refine Does.val (.slice (some ⟨w.heap.size,0,none⟩) 1 1) (w':=w.alloc (.cells #[.int .i64 p.v,.bool s8,.slice B8 m8 d8] 47)) ?_ ⟨Tg.of_below (Af w _),⟨w.heap.size,s8,B8,m8,d8,rfl,(hG.1 (Ai (k:=10) hc hl (by kernel_rfl))).size,AK.new _ _ _,z8.alloc _⟩,hG.call (by decide) (Ai (k:=10) hc hl (by kernel_rfl)) (Af w _)⟩;simp only[Array.getD_eq_getD_getElem?]at e34;go_simp
         · intro l9 σ w a hin hout hl hla hs hc hp hG hF;refine Ad.none rfl ?_;have e27:a.tmps.getD 27 undef=.slice A4 q c4:=Am (hin 1 27) rfl (hp ⟨1,.data⟩ (by simp) rfl) (hF 1);have e35:=hin 9 35 rfl (hp ⟨9,.data⟩ (by simp) rfl);obtain ⟨g9,s9,B9,m9,d9,ev9,hg9,x9,z9⟩:=hF 9 (hp ⟨9,.data⟩ (by simp) rfl);rw[ev9]at e35;have hl0:=hl;have hB:=hG.1 hl;have hl:=HL.out.below hB;obtain ⟨i0,hi0,hz0,hz1,hz2⟩:=info_parts CR
           obtain ⟨v',w',hr,h2,h3⟩:=Cg (P:=Tryz.prog) w W1.heap.size 34 34 47 i0 _ 3 40 Tryz.underlying34 hi0 hz0 hz1 hz2 rfl (by decide) BK (.slice A4 q c4) q (flat rs) hl ⟨g9,0,none⟩ 1 1 (flat [⟨p.v,s9,B9,m9,d9,f p.Z⟩]) rfl (fun jj u hu=>by rw[addr_add,Nat.zero_add];exact x9.cell jj u (by simpa[flat,PV.cells] using hu)) (Fc _) (Ew _) (by unfold maxLen;omega) (by omega) (Nat.le_trans HWS.out hB.size);have hk:=hl.kp h3
           refine Does.val v' (w':=w') ?_ ⟨⟨h3,hk⟩,trivial,GA.on_ hl0 (by rw[hs];decide) ⟨⟨p.v,s9,B9,m9,d9,f p.Z⟩,rfl,rfl,?_,z9.kp hk,⟨World.grownBy.trans2 hB h3,(Kp.of_below hB).trans hk⟩⟩⟩
           · exact Bn rfl e27 e35 hr
           · rw[Do,List.length_append,HRL.out];exact h2
         · intro l9 σ w a hin hout hl hla hs hc hp hG hF;refine Ad.none rfl ?_;have e6:a.tmps.getD 6 undef=.pointer (some ⟨g8,0,none⟩):=hout 6 (Ae (by kernel_rfl));refine Does.val (.pointer (some ⟨g8,0,none⟩)) (w':=w) ?_ ⟨Tg.refl _ _,rfl,hG.same (by decide)⟩;simp only[Array.getD_eq_getD_getElem?]at e6;go_simp
       · intro o ho;injection ho with ho;subst ho
         intro l9 σ w a hall hin hout hG hF;refine Ad.none rfl ?_;have e37:a.tmps.getD 37 undef=.pointer (some ⟨g8,0,none⟩):=(hin 11 37 rfl (by decide)).trans (hF 11 (by decide));have e36:=hin 10 36 rfl (by decide);have z10:=hF 10 (by decide);obtain ⟨p2,e1,e2,l2,z2,tg⟩:=hG.2 (hall 10 (by decide));have hlr:=HL.out;have x9:=HXG.out.grown tg.1 (fun e=>hlr.offTerm HXG.out e.symm);obtain ⟨A2,c2,hv2,-,-,-⟩:=l2.len;have hlen2:(rs++[p2]).length=q+1:=(by simp[HRL.out])
         rw[hlen2]at hv2;rw[hv2]at e36 l2;have u0:=x9.c0;have u1:=x9.fr 0;refine Does.skip (w':=w.setCell ⟨g8,0,none⟩ (.slice A2 (q+1) c2)) (by go_simp) ?_;have HE2:=Ac (Hn.step HXG.out HGW.out hlr HRL.out HLI.out hrz6.out zK6.out HBW.out HLp.out e1 e2 l2 z2 tg)
         rw[show fin _ σ undef _=(Act.put (Act.put (Act.put (Act.put (Act.put (Act.put (Act.put (Act.put (Act.put (Act.put (Act.put (Act.put (Act.put _ (some 26) (σ 0)) (some 27) (σ 1)) (some 28) (σ 2)) (some 29) (σ 3)) (some 30) (σ 4)) (some 31) (σ 5)) (some 32) (σ 6)) (some 33) (σ 7)) (some 34) (σ 8)) (some 35) (σ 9)) (some 36) (σ 10)) (some 37) (σ 11)) none undef) from (Bt hall).trans rfl]
         simp only[Act.put,List.setIfInBounds_toArray,List.set_cons_zero,List.set_cons_succ];generalize σ 0=tt0;generalize σ 1=tt1;generalize σ 2=tt2;generalize σ 3=tt3;generalize σ 4=tt4;generalize σ 5=tt5;generalize σ 6=tt6;generalize σ 7=tt7;generalize σ 8=tt8;generalize σ 9=tt9;generalize σ 10=tt10 at *;generalize σ 11=tt11;clear hF hG hall hin hout SOF HF6 HRW l2 z2 tg x9 u0 u1 hlen2;generalize w.setCell ⟨g8,0,none⟩ (.slice A2 (q+1) c2)=w8 at *;go_wp2_with fail
         go_roundw
         case rel=>exact ⟨q+1,by omega,by go_num,HE2⟩
         case measure=>simp[intOf]<;>omega
     · obtain rfl:q=n1:=(by omega);obtain ⟨rs,A4,c4,s4,B4,m4,d4,xg,hgW,lr,hrl,hlin,hrz,zK,bW⟩:=HR.out;have hL2:=Ac (show Cl rs=(norm L).map (fun p=>(p.1,f p.2)) by rw[hlin,List.take_of_length_le (by rw[HP1.out.len];exact Nat.le_refl _)]);have hR:=HR1.out.next (bW.mono (Nat.le_refl _));obtain ⟨A',c',hv',hc1',hc2',-⟩:=lr.len;injection hv' with e1' e2' e3'
       subst e1' e3';have HP:=Ac (show CY wr A4 q (Cl rs) kj from ⟨rs,lr.parts hrl (fun p hp=>(hrz p hp).in_),rfl,hrz⟩);have HZK:=Ac zK;have HB:=Ac (show Below w0.heap.size w0 wr from HT1.out.trans (bW.mono HT1.out.size));have x0:=xg.c0;have x1:=xg.c1;have x2:=xg.c2;clear lr hrl hlin hrz zK bW HR xg;go_wp2_with (with_reducible refine Be rfl _ _ rfl (w0.heap.size+1) _ _ _ _ _ _ _ rfl rfl _ _ _ hR ?_;intro w7 k7 ho7);refine BJ rfl rfl k7 rfl ?_
       refine ⟨_,rfl,Aw.only (⟨A4,q,c4,s4,B4,m4,d4,rfl,?_,hc1',hc2',HZK.out⟩:Aw wr _ _ _ _) hR ho7,AE HB.out (by omega) ho7⟩;rw[<-hL2.out];exact HP.out
end
section
open Go.RowKit
open Tm
theorem BG.eq {L L':List (Int×Int)} {K K':Int} {k:Nat} {w:World} {e:Ending} {w':World} (h:BG L K k w e w') (h1:L=L') (h2:K=K'):BG L' K' k w e w':=h1▸h2▸h
theorem BG.mono {L:List (Int×Int)} {K:Int} {k j:Nat} {w:World} {e:Ending} {w':World} (h:BG L K k w e w') (hj:k<=j):BG L K j w e w':=by obtain ⟨v,h1,h2,h3⟩:=h;exact ⟨v,h1,h2.mono hj,h3⟩
theorem KR:∀args w,(callFunc 105 args).run Tryz.prog w=.ok (.enter 105 args) w:=enters_of Tryz.func105 (by kernel_rfl) rfl
theorem Nb:∀args w,(callFunc 66 args).run Tryz.prog w=.ok (.enter 66 args) w:=enters_of Tryz.func66 (by kernel_rfl) rfl
theorem Sl (L:List (Int×Int)):(norm L).map (fun p=>(p.1,-p.2))=norm (L.map fun p=>(p.1,-1*p.2)):=by rw[Fv (by decide)];apply List.map_congr_left;intro p _;simp
theorem Fx (v:Value) (L:List (Int×Int)) (K:Int) (k:Nat) (w:World) (hv:D9 w v L K k) (hl:L.length<=1099511) (hk:k<=1099511627):Calls Tryz.prog 59 #[v] w (BG (norm L) K (k+L.length) w):=by
 have hv0:=hv;obtain ⟨A,n,c,s,B,m,d,rfl,-⟩:=hv;obtain ⟨z0,z1,z2,-⟩:=Bi 40 40 w #[.slice A n c,.bool s,.slice B m d] #[.slice none 0 0,.bool false,.slice none 0 0];have hf:=JQ _ L K k (k+L.length) 105 #[] (fun z=>z) _ (hv0.below z2) (fun W u Z _ hu=>JL u Z _ W hu (by omega)) KR hl hk;have x0:=z0.c0;have x1:=z0.c1;have x2:=z0.c2;go_enter Tryz.func59,Tryz.ntmps59;go_wp2_with fail;refine hf.mono ?_;rintro e w1 ⟨v1,rfl,r1,b1⟩;obtain ⟨A1,n1,c1,s1,B1,m1,d1,rfl⟩:=r1.form
 have k1:=z1.next b1;go_wp2_with (with_reducible refine Be rfl _ _ rfl (w.heap.size+1) _ _ _ _ _ _ _ rfl rfl _ _ _ k1 ?_;intro w3 k3 ho3);refine BJ rfl rfl k3 rfl ?_;refine BG.eq ⟨_,rfl,r1.only k1 ho3,AE (z2.next b1) (by omega) ho3⟩ ?_ rfl;simp
theorem JR (v:Value) (L:List (Int×Int)) (K:Int) (k:Nat) (w:World) (hv:D9 w v L K k) (hl:L.length<=1099511) (hk:k<=1099511627):Calls Tryz.prog 65 #[v] w (BG (norm (L.map fun p=>(p.1,-1*p.2))) (-K) (k+L.length) w):=by
 have hv0:=hv;obtain ⟨A,n,c,s,B,m,d,rfl,-⟩:=hv;obtain ⟨z0,z1,z2,-⟩:=Bi 40 40 w #[.slice A n c,.bool s,.slice B m d] #[.slice none 0 0,.bool false,.slice none 0 0];have hf:=JQ _ L K k (k+L.length) 66 #[] (fun z=>-z) _ (hv0.below z2) (fun W u Z _ hu=>Uy u Z _ W hu (by omega)) Nb hl hk;have x0:=z0.c0;have x1:=z0.c1;have x2:=z0.c2;go_enter Tryz.func65,Tryz.ntmps65;go_wp2_with fail;refine hf.mono ?_;rintro e w1 ⟨v1,rfl,r1,b1⟩;obtain ⟨A1,n1,c1,s1,B1,m1,d1,rfl⟩:=r1.form
 have k1:=z1.next b1;go_wp2_with (with_reducible refine Be rfl _ _ rfl (w.heap.size+1) _ _ _ _ _ _ _ rfl rfl _ _ _ k1 ?_;intro w3 k3 ho3);refine BJ rfl rfl k3 rfl ?_;exact BG.eq ⟨_,rfl,r1.only k1 ho3,AE (z2.next b1) (by omega) ho3⟩ (Sl L) rfl
end
end Go.Proofs.YtmedjkhmadfjlaaGreat
