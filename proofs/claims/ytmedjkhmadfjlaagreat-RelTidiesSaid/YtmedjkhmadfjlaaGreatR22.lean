/- Texts of one seat, put together: KeepP RelBox TVars TValue RelA TermMathC DivMath. -/
import Derived.Test.YtmedjkhmadfjlaaGreatR16
import Derived.Test.YtmedjkhmadfjlaaGreatR14
import Derived.Test.YtmedjkhmadfjlaaGreatR19
import Derived.Test.YtmedjkhmadfjlaaGreatR18
import Derived.Test.YtmedjkhmadfjlaaGreatR13
import Derived.Test.YtmedjkhmadfjlaaGreatR08
set_option linter.unusedVariables false
set_option linter.unusedSimpArgs false
set_option maxRecDepth 100000
set_option maxHeartbeats 16000000
namespace Go.Proofs.YtmedjkhmadfjlaaGreat
section
open Go.RowKit
theorem AA.next {g:Nat} {a b c:World} (h:AA g a b) (k:Below b.heap.size b c):AA g a c:=h.trans ⟨k.os,k.tape,k.output,k.size,fun i hi _=>k.block i hi⟩
theorem FE.offInt {w:World} {A B:Option Addr} {n k g m d:Nat} {s:Bool} {L:List (Int×Int)} (h:FE w A n L k) (hb:AH w g #[.bool s,.slice B m d]):0<n->Apart A g:=by
 obtain ⟨ps,h,-⟩:=h;intro hn ad had he;obtain ⟨b,o,e,hc⟩:=h.2.1 hn;have hl:0<ps.length:=by rw[h.1];exact hn
 obtain ⟨g0,-,-⟩:=flat_get ps 0 ps[0] (List.getElem?_eq_getElem hl);have h0:=hc 0 _ g0;rw[had]at e;injection e with e
 subst e;have he':b=g:=he;subst he';rw[cell_of_row w b _ _ _ _ hb]at h0;match o,h0 with
 |0,h0=>simp at h0
 |1,h0=>simp at h0
 |o+2,h0=>simp at h0
theorem AH.kpI {w w':World} {g m d:Nat} {s:Bool} {B:Option Addr} (hb:AH w g #[.bool s,.slice B m d]) (ho:AA g w w'):Kp w w':=Kp.block hb (WC (NL.bool _) (NL.slice _ _ _)) ho
theorem FE.onlyInt {w w':World} {A B:Option Addr} {n k g m d:Nat} {s:Bool} {L:List (Int×Int)} (h:FE w A n L k) (hb:AH w g #[.bool s,.slice B m d]) (ho:AA g w w'):FE w' A n L k:=
 h.keep ho (hb.kpI ho) (h.offInt hb)
end
section
open Go.RowKit
section
variable {T:TypeId} {w w':World} {g k j:Nat} {x y z u v:Value} {L:List (Int×Int)} {K:Int} {e:Bool}
theorem AK.r0 (h:AK T w g #[x,y,z,u]):w.cell? ⟨g,0,none⟩=some x:=h.cell 0 x rfl
theorem AK.r1 (h:AK T w g #[x,y,z,u]):w.cell? ⟨g,1,none⟩=some y:=h.cell 1 y rfl
theorem AK.r2 (h:AK T w g #[x,y,z,u]):w.cell? ⟨g,2,none⟩=some z:=h.cell 2 z rfl
theorem AK.r3 (h:AK T w g #[x,y,z,u]):w.cell? ⟨g,3,none⟩=some u:=h.cell 3 u rfl
theorem WE (hx:NL x) (hy:NL y) (hz:NL z) (hu:NL u):FB (#[x,y,z,u]:Array Value).toList:=by intro t ht;simp at ht;rcases ht with rfl|rfl|rfl|rfl<;>assumption
theorem Wg (A B:Option Addr) (n c m d:Nat) (s e:Bool):FB (#[.slice A n c,.bool s,.slice B m d,.bool e]:Array Value).toList:=WE (NL.slice _ _ _) (NL.bool _) (NL.slice _ _ _) (NL.bool _)
theorem AG {w:World} {ops:Array Oper} {rest:List Oper} {o:Oper} {a:Act} {Q:Exit->Act->World->Prop} (hgd:o.guard=none) (x y:Operand) (ho:o.op=.store 42 x y)
  (g:Nat) (s e:Bool) (A B:Option Addr) (n c m d:Nat) (hx:a.eval x=.pointer (some ⟨g,0,none⟩)) (hy:a.eval y=.agg #[.slice A n c,.bool s,.slice B m d,.bool e]) (u v z t:Value) (hb:AK 42 w g #[u,v,z,t])
  (h:∀w',AK 42 w' g #[.slice A n c,.bool s,.slice B m d,.bool e]->AA g w w'->wpList Tryz.prog ops Q rest (a.put o.dst undef) w'):wpList Tryz.prog ops Q (o::rest) a w:=
 CQ hgd 42 x y ho g _ hx hy _ hb (by kernel_rfl) rfl (by simp[Value.oneCell']) h
theorem JY {fn:Func} {R:Ending->World->Prop} {a:Act} {w:World} {g p:Nat} {x y z u:Value} (hres:fn.results=#[.cell p 42]) (hp:a.tmps.getD p undef=.pointer (some ⟨g,0,none⟩))
  (hb:AK 42 w g #[x,y,z,u]) (hd:a.defers=[]) (hR:R (.returned (.agg #[x,y,z,u])) w):bodyPost Tryz.prog fn R .ret a w:=
 bodyPost_ret (results_cell_row hres _ _ g _ #[x,y,z,u] _ _ hp hb Tryz.underlying42 rfl (by kernel_rfl)) hd hR
def Qr (w:World) (v:Value) (L:List (Int×Int)) (K:Int) (e:Bool) (k:Nat):Prop:=∃A n c s B m d,v=.agg #[.slice A n c,.bool s,.slice B m d,.bool e]/\D9 w (.agg #[.slice A n c,.bool s,.slice B m d]) L K k
def DC (w:World) (v:Value) (L:List (Int×Int)) (K:Int) (e:Bool) (k:Nat):Prop:=∃A n c s B m d,v=.agg #[.slice A n c,.bool s,.slice B m d,.bool e]/\Aw w (.agg #[.slice A n c,.bool s,.slice B m d]) L K k
theorem Qr.below (h:Qr w v L K e k) (hb:Below w.heap.size w w'):Qr w' v L K e k:=by obtain ⟨A,n,c,s,B,m,d,rfl,h⟩:=h;exact ⟨A,n,c,s,B,m,d,rfl,h.below hb⟩
theorem DC.below (h:DC w v L K e k) (hb:Below w.heap.size w w'):DC w' v L K e k:=by obtain ⟨A,n,c,s,B,m,d,rfl,h⟩:=h;exact ⟨A,n,c,s,B,m,d,rfl,h.below hb⟩
theorem FE.offRel {A B C:Option Addr} {n m c d q:Nat} {s f:Bool} (h:FE w A n L k) (hb:AK 42 w g #[.slice B m c,.bool s,.slice C q d,.bool f]):0<n->Apart A g:=by
 obtain ⟨ps,h,-⟩:=h;intro hn ad had he;obtain ⟨b,o,e,hc⟩:=h.2.1 hn;have hl:0<ps.length:=by rw[h.1];exact hn
 obtain ⟨g0,-,-⟩:=flat_get ps 0 ps[0] (List.getElem?_eq_getElem hl);have h0:=hc 0 _ g0;rw[had]at e;injection e with e
 subst e;have he':b=g:=he;subst he';rw[cell_of_row w b _ _ _ _ hb]at h0;match o,h0 with
 |0,h0=>simp at h0
 |1,h0=>simp at h0
 |2,h0=>simp at h0
 |3,h0=>simp at h0
 |o+4,h0=>simp at h0
theorem Aw.onlyR {B C:Option Addr} {m c d q:Nat} {s f:Bool} (h:Aw w v L K k) (hb:AK 42 w g #[.slice B m c,.bool s,.slice C q d,.bool f]) (ho:AA g w w'):Aw w' v L K k:=by have hk:Kp w w':=hb.kp (Wg _ _ _ _ _ _ _ _) ho;obtain ⟨A,n,c,s,B,m,d,e,h1,h2,h3,h4⟩:=h;exact ⟨A,n,c,s,B,m,d,e,h1.keep ho hk (h1.in_.offRel hb),h2,h3,h4.kp hk⟩
end
theorem D9.opn {w:World} {A B:Option Addr} {n c m d k:Nat} {s:Bool} {L:List (Int×Int)} {K:Int} (h:D9 w (.agg #[.slice A n c,.bool s,.slice B m d]) L K k):FE w A n L k/\n<=c/\c<=9223372036854775807/\BO w (.agg #[.bool s,.slice B m d]) K k:=by
 obtain ⟨A',n',c',s',B',m',d',e,h1,h2,h3,h4⟩:=h;have e2:A'=A/\n'=n/\c'=c/\s'=s/\B'=B/\m'=m/\d'=d:=by simpa[eq_comm,and_assoc] using e
 obtain ⟨rfl,rfl,rfl,rfl,rfl,rfl,rfl⟩:=e2;exact ⟨h1,h2,h3,h4⟩
theorem Aw.opn {w:World} {A B:Option Addr} {n c m d k:Nat} {s:Bool} {L:List (Int×Int)} {K:Int} (h:Aw w (.agg #[.slice A n c,.bool s,.slice B m d]) L K k):CY w A n L k/\n<=c/\c<=9223372036854775807/\Au w (.agg #[.bool s,.slice B m d]) K k:=by
 obtain ⟨A',n',c',s',B',m',d',e,h1,h2,h3,h4⟩:=h;have e2:A'=A/\n'=n/\c'=c/\s'=s/\B'=B/\m'=m/\d'=d:=by simpa[eq_comm,and_assoc] using e
 obtain ⟨rfl,rfl,rfl,rfl,rfl,rfl,rfl⟩:=e2;exact ⟨h1,h2,h3,h4⟩
def U4 (L:List (Int×Int)) (K:Int) (e:Bool) (k:Nat) (w:World) (en:Ending) (w':World):Prop:=∃v,en=.returned v/\DC w' v L K e k/\Below w.heap.size w w'
end
section
open Go.RowKit
open Tm
def V7 (W1:World) (L:List (Int×Int)) (q:Nat) (sv:Value) (wr:World):Prop:=AF 3 1 wr W1.heap.size sv ((L.take q).map Prod.fst).length (ints ((L.take q).map Prod.fst))/\Below W1.heap.size W1 wr
end
section
open Go.RowKit
open Tm
theorem val_take_succ (vs:List Int) (L:List (Int×Int)) (q:Nat) (u c:Int) (h:L[q]?=some (u,c)):val vs (L.take (q+1))=val vs (L.take q)+(if 0<=u then c*vs.getD u.toNat 0 else 0):=by rw[List.take_add_one,h,val_append];simp[val]
theorem nums_getD (ivs:List IV) (i:Nat) (p:IV) (h:ivs[i]?=some p):(nums ivs).getD i 0=p.Z:=by unfold nums;rw[List.getD_eq_getElem?_getD,List.getElem?_map,h];rfl
theorem Ss (ivs:List IV) (i:Nat) (h:ivs.length<=i):(nums ivs).getD i 0=0:=by unfold nums;rw[List.getD_eq_getElem?_getD,List.getElem?_eq_none (by rw[List.length_map];exact h)];rfl
def JZ (g:Nat) (W1:World) (L:List (Int×Int)) (K:Int) (vs:List Int) (k q:Nat) (wr:World):Prop:=
 ∃s A n c,AH wr g #[.bool s,.slice A n c]/\Au wr (.agg #[.bool s,.slice A n c]) (K+val vs (L.take q)) (k+q)/\Below g W1 wr
theorem Ot (v:Value) (L:List (Int×Int)) (K:Int) (k kj:Nat) (VA:Option Addr) (vn vc:Nat) (ivs:List IV) (w0:World) (hv:D9 w0 v L K k) (hvs:FQ w0 VA vn ivs kj) (hvn:vn<=9223372036854775807) (hl:L.length<=1099511) (hk:k<=1099511627) (hkj:kj<=1099511627):Calls Tryz.prog 109 #[v,.slice VA vn vc] w0 (Cn (K+val (nums ivs) L) (k+kj+L.length) w0):=by
 obtain ⟨A,n,c,s,B,m,d,rfl,hp,hc1,hc2,hK⟩:=hv;have hn:=hp.len;obtain ⟨z0,z1,z2,z3⟩:=Bi 40 38 w0 #[.slice A n c,.bool s,.slice B m d] #[.bool false,.slice none 0 0];have hcp:=JL _ K k _ (hK.below z2) (by omega);have x1:=z0.c1;have x2:=z0.c2;rw[hn]at hl;have HN:=Ac hn;have HVL:=Ac hvs.1;clear hn;go_enter Tryz.func109,Tryz.ntmps109;go_wp2_with fail;refine hcp.mono ?_;rintro e w1 ⟨v1,rfl,r1,b1⟩;obtain ⟨s1,A1,n1,c1,rfl⟩:=r1.form;have HT1:=Ac (z2.next b1)
 have hw1:w0.heap.size+1+1<=w1.heap.size:=by have:=b1.size;omega
 have q0:=z0.next b1;have x0:=q0.c0;have HR1:=Ac (z1.next b1);have HP0:=Ac hp;have HV0:=Ac hvs;clear x1 x2 hcp z0 z1 z2 z3 b1 hp hvs hK;obtain ⟨y0,y1,y2⟩:=Bh 38 w1 #[.bool s1,.slice A1 n1 c1];have HS:=Ac (show JZ w1.heap.size (w1.alloc (.cells #[.bool s1,.slice A1 n1 c1] 38)) L K (nums ivs) (k+kj) 0 (w1.alloc (.cells #[.bool s1,.slice A1 n1 c1] 38)) from ⟨s1,A1,n1,c1,y0,by simpa[val] using (r1.below y1).mono (show k<=k+kj by omega),Below.refl _ _⟩);have HY1:=Ac y1
 clear y0 y1 r1;have q1:=q0.next HY1.out;have u0:=q1.c0;clear q0 q1;go_wp2_with fail;generalize hW1:w1.alloc (.cells #[.bool s1,.slice A1 n1 c1] 38)=W1 at *;clear hW1 u0 x0;go_loopw [14] (fun i wr=>∃q:Nat,q<=n/\i=.int .i64 q/\Hid (JZ w1.heap.size W1 L K (nums ivs) (k+kj) q wr)) (fun i _=>n-(intOf i).toNat)
 case atStart=>exact ⟨0,Nat.zero_le _,rfl,HS⟩
 case round=>
  obtain ⟨q,hq,rfl,HR⟩:=hrel;obtain ⟨s5,A5,n5,c5,b5,zz5,hB⟩:=HR.out;have hBW:w1.heap.size<=W1.heap.size:=HY1.out.size;have hT:Below w0.heap.size w0 wr:=(HT1.out.next HY1.out).trans (hB.mono (by omega));by_cases hqn:q<n
  · have hPw:FE wr A n L k:=HP0.out.below hT;obtain ⟨bb,o,p,rfl,hlt,hLp,c0,c1x,c2,hz⟩:=hPw.at_ hqn;obtain ⟨pv,ps,pB,pm,pd,pZ⟩:=p;have hz:BO wr (.agg #[.bool ps,.slice pB pm pd]) pZ k:=hz;dsimp only at c0 c1x c2 hLp
    obtain ⟨y0,y1,-⟩:=Bh 47 wr #[.int .i64 pv,.bool ps,.slice pB pm pd];have HB1:=Ac (hB.trans (y1.mono (Nat.le_trans hBW hB.size)));have HV:=Ac (val_take_succ (nums ivs) L q _ _ hLp);by_cases hp0:0<=pv
    · obtain ⟨u,rfl⟩:=Int.eq_ofNat_of_zero_le hp0;by_cases huv:u<vn
      · obtain ⟨vb,vo,iv,rfl,hiv,e0,e1,hzi⟩:=(HV0.out.below hT).at_ huv;have e0:wr.cell? ⟨vb,vo+u*2,none⟩=some (.bool iv.s):=(by rw[Nat.mul_comm];exact e0);have e1:wr.cell? ⟨vb,vo+u*2+1,none⟩=some (.slice iv.B iv.m iv.d):=(by rw[Nat.mul_comm,Nat.add_assoc];exact e1);have hltv:=World.block_lt_of_cell? wr _ e0;have HC:=Ac (show K+val (nums ivs) (L.take q)+pZ*iv.Z=K+val (nums ivs) (L.take (q+1)) by rw[HV.out,if_pos hp0,Int.toNat_natCast,nums_getD ivs u iv hiv];omega)
        generalize hY:K+val (nums ivs) (L.take q)=Y at *;have HB5:=Ac (b5.next y1);have HZ5:=Ac (zz5.below y1);have hzm:=Ac (hz.below y1);have hzi1:=Ac (hzi.below y1);have E0:=Ac ((y1.cell (p:=⟨vb,vo+u*2,none⟩) hltv).trans e0);have E1:=Ac ((y1.cell (p:=⟨vb,vo+u*2+1,none⟩) hltv).trans e1);have hlt6:=Nat.lt_of_lt_of_le hltv y1.size;clear hY hz hzi zz5 hLp HR b5 hB hT hPw hiv HV e0 e1;go_wp2_with fail
        generalize hW6:(wr.alloc (.cells #[.int .i64 (u:Int),.bool ps,.slice pB pm pd] 47))=W6 at *;clear hW6;have HM:=Ac (fun W (h:Below W6.heap.size W6 W)=>V1 (.agg #[.bool ps,.slice pB pm pd]) (.agg #[.bool iv.s,.slice iv.B iv.m iv.d]) pZ iv.Z k kj W (hzm.out.below h) (hzi1.out.below h) (by omega) (by omega))
        have SOF:=Ac (show ∀W,Below W6.heap.size W6 W->(W.cell? ⟨w1.heap.size,0,none⟩=some (.bool s5)/\W.cell? ⟨w1.heap.size,1,none⟩=some (.slice A5 n5 c5)/\W.cell? ⟨wr.heap.size,0,none⟩=some (.int .i64 (u:Int))/\W.cell? ⟨wr.heap.size,1,none⟩=some (.bool ps)/\W.cell? ⟨wr.heap.size,2,none⟩=some (.slice pB pm pd)/\W.cell? ⟨vb,vo+u*2,none⟩=some (.bool iv.s)/\W.cell? ⟨vb,vo+u*2+1,none⟩=some (.slice iv.B iv.m iv.d)) from fun W h=>⟨(HB5.out.next h).c0,(HB5.out.next h).c1,(y0.next h).c0,(y0.next h).c1,(y0.next h).c2,(h.cell (p:=⟨vb,vo+u*2,none⟩) hlt6).trans E0.out,(h.cell (p:=⟨vb,vo+u*2+1,none⟩) hlt6).trans E1.out⟩)
        clear y0 c0 c1x c2 y1
        refine AW (by kernel_rfl) (by kernel_rfl) (by kernel_rfl) (by kernel_rfl) (fun w w'=>Below w.heap.size w w') (fun j v w=>match j with|0=>v=.agg #[.bool s5,.slice A5 n5 c5]|1=>v=.pointer (some ⟨wr.heap.size,1,none⟩)|2=>v=.agg #[.bool ps,.slice pB pm pd]|3=>v=.slice (some ⟨vb,vo,none⟩) vn vc|4=>v=.pointer (some ⟨wr.heap.size,0,none⟩)|5=>v=.int .i64 (u:Int)|6=>v=.pointer (some ⟨vb,vo+u*2,none⟩)|7=>v=.agg #[.bool iv.s,.slice iv.B iv.m iv.d]|8=>Au w v (pZ*iv.Z) (k+kj)|9=>Au w v (Y+pZ*iv.Z) (k+kj+q+1)|_=>True) (fun _ _ w=>Below W6.heap.size W6 w) ?_ (fun _=>Ap W6 1) ?_ ?_
        · intro j v w w' hT h;match j,h with
          |0,h=>exact h
          |1,h=>exact h
          |2,h=>exact h
          |3,h=>exact h
          |4,h=>exact h
          |5,h=>exact h
          |6,h=>exact h
          |7,h=>exact h
          |8,h=>exact h.below hT
          |9,h=>exact h.below hT
          |j+10,h=>trivial
        · refine ⟨?_,?_,?_,?_,?_,?_,?_,?_,?_,?_,trivial⟩
          · intro l9 σ w a hin hout hl hla hs hc hp hG hF;refine Ad.none rfl ?_;have e5:a.tmps.getD 5 undef=.pointer (some ⟨w1.heap.size,0,none⟩):=hout 5 (Ae (by kernel_rfl));have CC:=SOF.out w hG;obtain ⟨C0,C1,D0,D1,D2,E0,E1⟩:=CC;refine Does.val (.agg #[.bool s5,.slice A5 n5 c5]) (w':=w) ?_ ⟨Below.refl _ _,rfl,hG⟩;go_simp
          · intro l9 σ w a hin hout hl hla hs hc hp hG hF;refine Ad.none rfl ?_;have e7:a.tmps.getD 7 undef=.pointer (some ⟨wr.heap.size,0,none⟩):=hout 7 (Ae (by kernel_rfl));refine Does.val (.pointer (some ⟨wr.heap.size,1,none⟩)) (w':=w) ?_ ⟨Below.refl _ _,rfl,hG⟩;simp only[Array.getD_eq_getD_getElem?]at e7;go_simp
          · intro l9 σ w a hin hout hl hla hs hc hp hG hF;refine Ad.none rfl ?_;have e29:a.tmps.getD 29 undef=.pointer (some ⟨wr.heap.size,1,none⟩):=Am (hin 1 29) rfl (hp ⟨1,.data⟩ (by simp) rfl) (hF 1);have CC:=SOF.out w hG;obtain ⟨C0,C1,D0,D1,D2,E0,E1⟩:=CC;refine Does.val (.agg #[.bool ps,.slice pB pm pd]) (w':=w) ?_ ⟨Below.refl _ _,rfl,hG⟩;go_simp
          · intro l9 σ w a hin hout hl hla hs hc hp hG hF;refine Ad.none rfl ?_;have e1:a.tmps.getD 1 undef=.slice (some ⟨vb,vo,none⟩) vn vc:=hout 1 (Ae (by kernel_rfl));refine Does.val (.slice (some ⟨vb,vo,none⟩) vn vc) (w':=w) ?_ ⟨Below.refl _ _,rfl,hG⟩;simp only[Array.getD_eq_getD_getElem?]at e1;go_simp
          · intro l9 σ w a hin hout hl hla hs hc hp hG hF;refine Ad.none rfl ?_;have e7:a.tmps.getD 7 undef=.pointer (some ⟨wr.heap.size,0,none⟩):=hout 7 (Ae (by kernel_rfl));refine Does.val (.pointer (some ⟨wr.heap.size,0,none⟩)) (w':=w) ?_ ⟨Below.refl _ _,rfl,hG⟩;simp only[Array.getD_eq_getD_getElem?]at e7;go_simp
          · intro l9 σ w a hin hout hl hla hs hc hp hG hF;refine Ad.none rfl ?_;have e32:a.tmps.getD 32 undef=.pointer (some ⟨wr.heap.size,0,none⟩):=Am (hin 4 32) rfl (hp ⟨4,.data⟩ (by simp) rfl) (hF 4);have CC:=SOF.out w hG;obtain ⟨C0,C1,D0,D1,D2,E0,E1⟩:=CC;refine Does.val (.int .i64 (u:Int)) (w':=w) ?_ ⟨Below.refl _ _,rfl,hG⟩;go_simp
          · intro l9 σ w a hin hout hl hla hs hc hp hG hF;refine Ad.none rfl ?_;have e31:a.tmps.getD 31 undef=.slice (some ⟨vb,vo,none⟩) vn vc:=Am (hin 3 31) rfl (hp ⟨3,.data⟩ (by simp) rfl) (hF 3);have e33:a.tmps.getD 33 undef=.int .i64 (u:Int):=Am (hin 5 33) rfl (hp ⟨5,.data⟩ (by simp) rfl) (hF 5);refine Does.val (.pointer (some ⟨vb,vo+u*2,none⟩)) (w':=w) ?_ ⟨Below.refl _ _,rfl,hG⟩;simp only[Array.getD_eq_getD_getElem?]at e31 e33;go_simp
            (try (intro hh;exfalso;omega))
          · intro l9 σ w a hin hout hl hla hs hc hp hG hF;refine Ad.none rfl ?_;have e34:a.tmps.getD 34 undef=.pointer (some ⟨vb,vo+u*2,none⟩):=Am (hin 6 34) rfl (hp ⟨6,.data⟩ (by simp) rfl) (hF 6);have CC:=SOF.out w hG;obtain ⟨C0,C1,D0,D1,D2,E0,E1⟩:=CC;refine Does.val (.agg #[.bool iv.s,.slice iv.B iv.m iv.d]) (w':=w) ?_ ⟨Below.refl _ _,rfl,hG⟩;go_simp
          · intro l9 σ w a hin hout hl hla hs hc hp hG hF;refine Ad.none rfl ?_;have e30:a.tmps.getD 30 undef=.agg #[.bool ps,.slice pB pm pd]:=Am (hin 2 30) rfl (hp ⟨2,.data⟩ (by simp) rfl) (hF 2);have e35:a.tmps.getD 35 undef=.agg #[.bool iv.s,.slice iv.B iv.m iv.d]:=Am (hin 7 35) rfl (hp ⟨7,.data⟩ (by simp) rfl) (hF 7);refine Does.call ?_ (HM.out w hG) ?_
            · go_simp
            · rintro e w' ⟨v,rfl,z,hb⟩;exact ⟨_,rfl,hb,z,hG.next hb⟩
          · intro l9 σ w a hin hout hl hla hs hc hp hG hF;refine Ad.none rfl ?_;have e28:a.tmps.getD 28 undef=.agg #[.bool s5,.slice A5 n5 c5]:=Am (hin 0 28) rfl (hp ⟨0,.data⟩ (by simp) rfl) (hF 0);have e36:=hin 8 36 rfl (hp ⟨8,.data⟩ (by simp) rfl);have z8:=hF 8 (hp ⟨8,.data⟩ (by simp) rfl);refine Does.call ?_ (ML _ _ Y (pZ*iv.Z) (k+kj+q) w (HZ5.out.in_.below hG) (z8.in_.mono (by omega)) (by omega)) ?_
            · go_simp
            · rintro e w' ⟨v,rfl,z,hb⟩;exact ⟨_,rfl,hb,z,hG.next hb⟩
        · intro o ho;injection ho with ho;subst ho
          intro l9 σ w a hall hin hout hG hF;refine Ad.none rfl ?_;have e5:a.tmps.getD 5 undef=.pointer (some ⟨w1.heap.size,0,none⟩):=hout 5 (KH (by kernel_rfl));have e37:=hin 9 37 rfl (by decide);have z9:=hF 9 (by decide);have z9:=hF 9 (by decide);obtain ⟨s8,A8,n8,c8,ev8⟩:=Au.form z9;rw[ev8]at e37 z9;have HX:=Ac (HB5.out.next hG)
          refine Does.store_box (T:=38) (cells:=#[.bool s8,.slice A8 n8 c8]) rfl e5 e37 (AH.box HX.out) (by kernel_rfl) rfl (by simp[Value.oneCell']) (fun w2 x9 o9=>?_)
          rw[show fin _ σ undef _=(Act.put (Act.put (Act.put (Act.put (Act.put (Act.put (Act.put (Act.put (Act.put (Act.put (Act.put _ (some 28) (σ 0)) (some 29) (σ 1)) (some 30) (σ 2)) (some 31) (σ 3)) (some 32) (σ 4)) (some 33) (σ 5)) (some 34) (σ 6)) (some 35) (σ 7)) (some 36) (σ 8)) (some 37) (σ 9)) none undef) from (Bt hall).trans rfl];simp only[Act.put,List.setIfInBounds_toArray,List.set_cons_zero,List.set_cons_succ]
          have HE:=Ac (show JZ w1.heap.size W1 L K (nums ivs) (k+kj) (q+1) w2 from ⟨s8,A8,n8,c8,x9,by rw[<-HC.out];exact (z9.only HX.out o9).mono (by omega),(HB1.out.trans (hG.mono (Nat.le_trans hBW HB1.out.size))).trans (o9.below (Nat.le_trans hBW (Nat.le_trans HB1.out.size hG.size)) (Nat.le_refl _))⟩)
          generalize σ 0=tt0 at *;generalize σ 1=tt1 at *;generalize σ 2=tt2 at *;generalize σ 3=tt3 at *;generalize σ 4=tt4 at *;generalize σ 5=tt5 at *;generalize σ 6=tt6 at *;generalize σ 7=tt7 at *;generalize σ 8=tt8 at *;generalize σ 9=tt9 at *;clear hF hG hall hin hout SOF HM z9 x9 o9 e5 e37 ev8;go_wp2_with fail;go_roundw
          case rel=>exact ⟨q+1,by omega,by go_num,HE⟩
          case measure=>simp[intOf]<;>omega
      · have HE:=Ac (show JZ w1.heap.size W1 L K (nums ivs) (k+kj) (q+1) _ from ⟨s5,A5,n5,c5,b5.next y1,by rw[HV.out,if_pos hp0,Int.toNat_natCast,Ss ivs u (by have:=HVL.out;omega),Int.mul_zero,Int.add_zero];exact (zz5.mono (by omega)).below y1,HB1.out⟩);clear hz zz5 hLp HR b5 hB hT hPw HV y0 y1;go_wp2_with fail;go_roundw
        case rel=>exact ⟨q+1,by omega,by go_num,HE⟩
        case measure=>simp[intOf]<;>omega
    · have HE:=Ac (show JZ w1.heap.size W1 L K (nums ivs) (k+kj) (q+1) _ from ⟨s5,A5,n5,c5,b5.next y1,by rw[HV.out,if_neg hp0,Int.add_zero];exact (zz5.mono (by omega)).below y1,HB1.out⟩);clear hz zz5 hLp HR b5 hB hT hPw HV y0 y1;go_wp2_with fail;go_roundw
      case rel=>exact ⟨q+1,by omega,by go_num,HE⟩
      case measure=>simp[intOf]<;>omega
  · obtain rfl:q=n:=(by omega);have HL:=Ac (show val (nums ivs) (L.take q)=val (nums ivs) L by rw[List.take_of_length_le (by rw[HN.out];exact Nat.le_refl _)]);have b50:=b5.c0;have b51:=b5.c1;have k1:AH wr (w0.heap.size+1) #[.bool false,.slice none 0 0]:=AK.below (AK.next HR1.out HY1.out) hB (by omega);have HZ5:=Ac zz5;have HT:=Ac hT;clear zz5 b5 HR hT;go_wp2_with (with_reducible refine An rfl _ _ rfl (w0.heap.size+1) _ _ _ _ rfl rfl _ _ k1 ?_;intro w3 k3 ho3)
    refine Ay rfl rfl k3 rfl ?_;refine ⟨_,rfl,?_,AE HT.out (by omega) ho3⟩;rw[HN.out,<-HL.out];exact HZ5.out.only k1 ho3
end
section
open Go.RowKit
open Tm
theorem Cv (v:Value) (L:List (Int×Int)) (K:Int) (k:Nat) (w0:World) (hv:D9 w0 v L K k) (hl:L.length<=1099511) (hk:k<=1099511627):Calls Tryz.prog 16 #[v] w0 (U4 (norm L) K false (k+L.length) w0):=by
 have hv0:=hv;obtain ⟨A,n,c,s,B,m,d,rfl,-⟩:=hv;obtain ⟨z0,z1,z2,-⟩:=Bi 40 42 w0 #[.slice A n c,.bool s,.slice B m d] #[.slice none 0 0,.bool false,.slice none 0 0,.bool false];have hpl:=Fx _ L K k _ (hv0.below z2) hl hk;have x0:=z0.c0;have x1:=z0.c1;have x2:=z0.c2;go_enter Tryz.func16,Tryz.ntmps16;go_wp2_with fail;refine hpl.mono ?_;rintro e w1 ⟨v1,rfl,r1,b1⟩;obtain ⟨A1,n1,c1,s1,B1,m1,d1,rfl⟩:=r1.form;have k1:=z1.next b1
 go_wp2_with (with_reducible refine AG rfl _ _ rfl (w0.heap.size+1) _ _ _ _ _ _ _ _ rfl rfl _ _ _ _ k1 ?_;intro w3 k3 ho3);refine JY rfl rfl k3 rfl ?_;exact ⟨_,rfl,⟨_,_,_,_,_,_,_,rfl,r1.onlyR k1 ho3⟩,AE (z2.next b1) (by omega) ho3⟩
theorem Qs (v:Value) (L:List (Int×Int)) (K:Int) (k:Nat) (w0:World) (hv:D9 w0 v L K k) (hl:L.length<=1099511) (hk:k<=1099511627):Calls Tryz.prog 73 #[v] w0 (U4 (norm L) K true (k+L.length) w0):=by
 have hv0:=hv;obtain ⟨A,n,c,s,B,m,d,rfl,-⟩:=hv;obtain ⟨z0,z1,z2,-⟩:=Bi 40 42 w0 #[.slice A n c,.bool s,.slice B m d] #[.slice none 0 0,.bool false,.slice none 0 0,.bool false];have hpl:=Fx _ L K k _ (hv0.below z2) hl hk;have x0:=z0.c0;have x1:=z0.c1;have x2:=z0.c2;go_enter Tryz.func73,Tryz.ntmps73;go_wp2_with fail;refine hpl.mono ?_;rintro e w1 ⟨v1,rfl,r1,b1⟩;obtain ⟨A1,n1,c1,s1,B1,m1,d1,rfl⟩:=r1.form;have k1:=z1.next b1
 go_wp2_with (with_reducible refine AG rfl _ _ rfl (w0.heap.size+1) _ _ _ _ _ _ _ _ rfl rfl _ _ _ _ k1 ?_;intro w3 k3 ho3);refine JY rfl rfl k3 rfl ?_;exact ⟨_,rfl,⟨_,_,_,_,_,_,_,rfl,r1.onlyR k1 ho3⟩,AE (z2.next b1) (by omega) ho3⟩
def Fe (e:Bool):Int:=if e then 1 else 0
theorem Lv (v:Value) (L:List (Int×Int)) (K:Int) (e:Bool) (k:Nat) (w0:World) (hv:Qr w0 v L K e k):Calls Tryz.prog 79 #[v] w0 (fun en w'=>en=.returned (.int .i64 (Fe e))/\Below w0.heap.size w0 w'):=by
 obtain ⟨A,n,c,s,B,m,d,rfl,-⟩:=hv;obtain ⟨z0,z1,-⟩:=Bh 42 w0 #[.slice A n c,.bool s,.slice B m d,.bool e];have x3:=z0.r3;cases e with
 |false=>
  go_enter Tryz.func79,Tryz.ntmps79;go_wp2_with fail;go_ret
  exact ⟨rfl,z1⟩
 |true=>
  go_enter Tryz.func79,Tryz.ntmps79;go_wp2_with fail;go_ret
  exact ⟨rfl,z1⟩
def Dh (e:Bool) (Z:Int):Bool:=if e then decide (Z=0) else decide (0<=Z)
theorem Me (v:Value) (L:List (Int×Int)) (K:Int) (e:Bool) (k kj:Nat) (VA:Option Addr) (vn vc:Nat) (ivs:List IV) (w0:World) (hv:Qr w0 v L K e k) (hvs:FQ w0 VA vn ivs kj) (hvn:vn<=9223372036854775807) (hl:L.length<=1099511) (hk:k<=1099511627) (hkj:kj<=1099511627) :
   Calls Tryz.prog 62 #[v,.slice VA vn vc] w0 (fun en w'=>en=.returned (.bool (Dh e (K+val (nums ivs) L)))/\Below w0.heap.size w0 w'):=by
 obtain ⟨A,n,c,s,B,m,d,rfl,ht⟩:=hv;obtain ⟨z0,z1,-⟩:=Bh 42 w0 #[.slice A n c,.bool s,.slice B m d,.bool e];have x0:=z0.r0;have x1:=z0.r1;have x2:=z0.r2;have hva:=Ot _ L K k kj VA vn vc ivs _ (ht.below z1) (hvs.below z1) hvn hl hk hkj;generalize hZ:K+val (nums ivs) L=Z at hva ⊢;clear hZ;go_enter Tryz.func62,Tryz.ntmps62;go_wp2_with fail;refine hva.mono ?_;rintro en w1 ⟨v1,rfl,r1,b1⟩;have hsg:=Ef v1 Z _ w1 r1.in_ (by omega);have Q1:=Ac (z0.next b1);have T1:=Ac (z1.next b1)
 clear hva x0 x1 x2 z0 z1 r1 b1;go_wp2_with fail;refine hsg.mono ?_;rintro en w2 ⟨rfl,b2⟩;have x3:=(Q1.out.next b2).r3;have T2:=T1.out.next b2;clear hsg;rcases Int.lt_trichotomy Z 0 with h|h|h
 · have h1:Z.sign=-1:=Int.sign_eq_neg_one_of_neg h;rw[h1];have e1:Dh e Z=false:=by
    unfold Dh;have a1:¬Z=0:=(by omega);have a2:¬0<=Z:=(by omega);cases e<;>simp[a1,a2]
   have HE:=Ac e1;clear h h1 e1;go_wp2_with fail;go_ret
   exact ⟨by rw[HE.out]<;>rfl,T2⟩
 · subst h;have e1:Dh e 0=true:=(by unfold Dh;cases e<;>simp);have HE:=Ac e1;rw[Int.sign_zero];clear e1;go_wp2_with fail;go_ret
   exact ⟨by rw[HE.out]<;>rfl,T2⟩
 · have h1:Z.sign=1:=Int.sign_eq_one_of_pos h;rw[h1];have e1:Dh e Z=!e:=by
    unfold Dh;have a1:¬Z=0:=(by omega);have a2:0<=Z:=(by omega);cases e<;>simp[a1,a2]
   have HE:=Ac e1;clear h h1 e1;go_wp2_with fail;all_goals
    go_ret
    exact ⟨by rw[HE.out]<;>rfl,T2⟩
end
end Go.Proofs.YtmedjkhmadfjlaaGreat
namespace Go.Proofs.YtmedjkhmadfjlaaGreat.Tm
section
def CS:Nat->List (Int×Int)->Nat
 |g,[]=>g
 |g,p::ps=>CS (Nat.gcd g p.2.natAbs) ps
theorem Ni (g:Nat) (ps qs:List (Int×Int)):CS g (ps++qs)=CS (CS g ps) qs:=by
 induction ps generalizing g with
 |nil=>rfl
 |cons p ps ih=>rw[List.cons_append,CS,CS,ih]
theorem FU (g:Nat) (L:List (Int×Int)) (q:Nat) (u c:Int) (h:L[q]?=some (u,c)):CS g (L.take (q+1))=Nat.gcd (CS g (L.take q)) c.natAbs:=by rw[List.take_add_one,h,Ni];rfl
def Ak (L:List (Int×Int)):Int:=(CS 0 (norm L):Nat)
theorem Nj (ps:List (Int×Int)):∀g:Nat,CS g ps ∣ g/\∀p∈ps,CS g ps ∣ p.2.natAbs:=by
 induction ps with
 |nil=>intro g;exact ⟨Nat.dvd_refl _,fun p hp=>by cases hp⟩
 |cons p ps ih=>
  intro g;obtain ⟨h1,h2⟩:=ih (Nat.gcd g p.2.natAbs);refine ⟨Nat.dvd_trans h1 (Nat.gcd_dvd_left _ _),fun x hx=>?_⟩;rcases List.mem_cons.1 hx with rfl|hx
  · exact Nat.dvd_trans h1 (Nat.gcd_dvd_right _ _)
  · exact h2 x hx
theorem Ou (m:Nat) (ps:List (Int×Int)):∀a:Nat,CS (m*a) (ps.map fun p=>(p.1,(m:Int)*p.2))=m*CS a ps:=by
 induction ps with
 |nil=>intro a;rfl
 |cons p ps ih=>
  intro a;rw[List.map_cons,CS,CS,<-ih];dsimp only
  rw[Int.natAbs_mul,Int.natAbs_natCast,Nat.gcd_mul_left]
theorem Cw {L:List (Int×Int)}:Ak L=0↔norm L=[]:=by
 constructor
 · intro h;have hp:=Cj L;unfold Ak at h;cases hn:norm L with
   |nil=>rfl
   |cons p ps=>
    exfalso;obtain ⟨u,c⟩:=p;rw[hn]at h hp;have h1:=(Nj ((u,c)::ps) 0).2 (u,c) (by simp);have h0:CS 0 ((u,c)::ps)=0:=(by omega);rw[h0]at h1;have h2:=Nat.eq_zero_of_zero_dvd h1;exact hp.2.1 (Int.natAbs_eq_zero.1 h2)
 · intro h;unfold Ak;rw[h];rfl
def Ce (g:Int) (ps:List (Int×Int)):List (Int×Int):=ps.map fun p=>(p.1,p.2.fdiv g)
theorem Lw {g:Int} (hg:g≠0) (ps:List (Int×Int)) (h:∀p∈ps,g ∣ p.2):(Ce g ps).map (fun p=>(p.1,g*p.2))=ps:=by
 unfold Ce;rw[List.map_map];conv=>rhs;rw[<-List.map_id ps]
 apply List.map_congr_left;intro p hp;obtain ⟨t,ht⟩:=h p hp;obtain ⟨u,c⟩:=p;dsimp only at ht
 simp only[Function.comp,id];rw[ht,Int.mul_fdiv_cancel_left _ hg]
theorem Ka {n:Int} {b:Int} {ps:List (Int×Int)} (h:BI b (ps.map fun p=>(p.1,n*p.2))):BI b ps:=by
 induction ps generalizing b with
 |nil=>trivial
 |cons p ps ih=> obtain ⟨u,c⟩:=p;obtain ⟨h1,h2,h3⟩:=h;exact ⟨h1,fun hc=>h2 (by dsimp only at *;rw[hc,Int.mul_zero]),ih h3⟩
theorem Iy (L:List (Int×Int)):∀p∈norm L,Ak L ∣ p.2:=fun p hp=>by
 have h:=(Nj (norm L) 0).2 p hp;exact Int.ofNat_dvd_left.2 h
theorem Kb (L:List (Int×Int)) (h:Ak L≠0):norm (Ce (Ak L) (norm L))=Ce (Ak L) (norm L):=
 LU (Ka (n:=Ak L) (by rw[Lw h _ (Iy L)];exact Cj L))
theorem Mf (L:List (Int×Int)) (h:Ak L≠0):Ak (Ce (Ak L) (norm L))=1:=by
 have h1:=Ou (CS 0 (norm L)) (Ce (Ak L) (norm L)) 0;rw[Nat.mul_zero]at h1;have h2:=Lw h (norm L) (Iy L);unfold Ak at h2;unfold Ak at h1;rw[h2]at h1;unfold Ak;have h3:=Kb L h;unfold Ak at h3;rw[h3];have h0:CS 0 (norm L)≠0:=by intro hh;apply h;unfold Ak;rw[hh];rfl
 generalize CS 0 (Ce (↑(CS 0 (norm L))) (norm L))=x at *;generalize CS 0 (norm L)=g at *;have h4:x=1:=by
  have h5:g*x=g*1:=by omega
  exact Nat.eq_of_mul_eq_mul_left (by omega) h5
 rw[h4];rfl
def Jd (v:Int):List Int->Option Nat
  |[]=>none
  |x::xs=>if x=v then some 0 else (Jd v xs).map (·+1)
def place (vs:List Int) (ts:List (List (Int×Int)×Int)) (v:Int):List (Int×Int)×Int:=
 match Jd v vs with
 |some i=>ts.getD i ([(v,1)],0)
 |none=>([(v,1)],0)
def Wh (vs:List Int) (ts:List (List (Int×Int)×Int)):List (Int×Int)->List (Int×Int)
 |[]=>[]
 |p::ps=>((place vs ts p.1).1.map fun r=>(r.1,p.2*r.2))++Wh vs ts ps
def Wi (vs:List Int) (ts:List (List (Int×Int)×Int)):List (Int×Int)->Int
 |[]=>0
 |p::ps=>p.2*(place vs ts p.1).2+Wi vs ts ps
end
end Go.Proofs.YtmedjkhmadfjlaaGreat.Tm
namespace Go.Proofs.YtmedjkhmadfjlaaGreat
section
open Go.RowKit
theorem Je {Z Y q r:Int} (h:r+Y*q=Z) (hr:(0<=r/\r<Y)\/(Y<r/\r<=0)):Z.fdiv Y=q/\Z.fmod Y=r:=by
 rcases hr with ⟨h1,h2⟩|⟨h1,h2⟩
 · exact (Int.fdiv_fmod_unique (by omega)).2 ⟨h,h1,h2⟩
 · exact (Int.fdiv_fmod_unique' (by omega)).2 ⟨h,h1,h2⟩
theorem Qt (Z Y:Int) (hY:Y≠0):Z.fmod Y+Y*Z.fdiv Y=Z/\((0<=Z.fmod Y/\Z.fmod Y<Y)\/(Y<Z.fmod Y/\Z.fmod Y<=0)):=by
 rcases Int.lt_trichotomy Y 0 with hn|h0|hp
 · have h:=(Int.fdiv_fmod_unique' hn (a:=Z)).1 ⟨rfl,rfl⟩;exact ⟨h.1,Or.inr h.2⟩
 · exact absurd h0 hY
 · have h:=(Int.fdiv_fmod_unique hp (a:=Z)).1 ⟨rfl,rfl⟩;exact ⟨h.1,Or.inl h.2⟩
theorem Lx (s:Bool) (N M:Nat) (hM:0<M):(sg s N).fdiv (sg s M)=sg false (N/M)/\(sg s N).fmod (sg s M)=sg s (N%M):=by
 have h1:=Nat.div_add_mod N M;have h2:=Nat.mod_lt N hM;have h3:(M:Int)*((N/M:Nat):Int)+((N%M:Nat):Int)=(N:Int):=by rw[<-Int.natCast_mul,<-Int.natCast_add,h1]
 generalize N/M=Q at *;generalize N%M=R at *;refine Je ?_ ?_<;>cases s<;>simp only[sg,if_true,if_false,Bool.false_eq_true,Int.neg_mul]<;>generalize (M:Int)*(Q:Int)=P at*<;> omega
theorem Ly (s t:Bool) (N M:Nat) (hst:s≠t) (hM:0<M) (h0:N%M=0):(sg s N).fdiv (sg t M)=sg true (N/M)/\(sg s N).fmod (sg t M)=0:=by
 have h1:=Nat.div_add_mod N M;have h3:(M:Int)*((N/M:Nat):Int)+((N%M:Nat):Int)=(N:Int):=by rw[<-Int.natCast_mul,<-Int.natCast_add,h1]
 rw[h0]at h3;generalize N/M=Q at *;refine Je ?_ ?_<;>cases s<;>cases t<;>simp only[sg,if_true,if_false,Bool.false_eq_true,Int.neg_mul,Int.mul_neg,Int.neg_neg,ne_eq,not_true_eq_false] at*<;> generalize (M:Int)*(Q:Int)=P at*<;> omega
theorem Su (s t:Bool) (N M:Nat) (hst:s≠t) (hM:0<M) (h0:0<N%M):(sg s N).fdiv (sg t M)=sg true (N/M)-1/\(sg s N).fmod (sg t M)=sg s (N%M)+sg t M:=by
 have h1:=Nat.div_add_mod N M;have h2:=Nat.mod_lt N hM;have h3:(M:Int)*((N/M:Nat):Int)+((N%M:Nat):Int)=(N:Int):=by rw[<-Int.natCast_mul,<-Int.natCast_add,h1]
 generalize N/M=Q at *;generalize N%M=R at *;refine Je ?_ ?_<;>cases s<;>cases t<;>simp only[sg,if_true,if_false,Bool.false_eq_true,Int.neg_mul,Int.mul_neg,Int.neg_neg,Int.mul_sub,Int.mul_one,Int.sub_neg,ne_eq,not_true_eq_false,reduceCtorEq,not_false_eq_true] at*<;> generalize (M:Int)*(Q:Int)=P at*<;> omega
theorem Sv (Z Y:Int) (hY:Y≠0) (q0:Int) (hq:q0=sg (decide (Z.sign*Y.sign<0)) (Z.natAbs/Y.natAbs)) :
   ((Z-q0*Y).sign*Y.sign<0->Z.fdiv Y=q0-1/\Z.fmod Y=Z-q0*Y+Y)/\(¬((Z-q0*Y).sign*Y.sign<0)->Z.fdiv Y=q0/\Z.fmod Y=Z-q0*Y)/\(Z-q0*Y).natAbs<Y.natAbs:=by
 have hM:0<Y.natAbs:=by omega
 have h1:=Nat.div_add_mod Z.natAbs Y.natAbs;have h2:=Nat.mod_lt Z.natAbs hM;have h3:(Y.natAbs:Int)*((Z.natAbs/Y.natAbs:Nat):Int)+((Z.natAbs%Y.natAbs:Nat):Int)=(Z.natAbs:Int):=by rw[<-Int.natCast_mul,<-Int.natCast_add,h1]
 subst hq;generalize Z.natAbs/Y.natAbs=Q at *;generalize Z.natAbs%Y.natAbs=R at *;clear h1;have hd:∀q r:Int,r+Y*q=Z->((0<=r/\r<Y)\/(Y<r/\r<=0))->Z.fdiv Y=q/\Z.fmod Y=r:=fun q r h hr=>Je h hr
 rcases Int.lt_trichotomy Y 0 with hy|hy|hy
 · have e:(Y.natAbs:Int)=-Y:=(by omega);rw[e,Int.neg_mul]at h3;rw[Int.sign_eq_neg_one_of_neg hy];rcases Int.lt_trichotomy Z 0 with hz|hz|hz
   · rw[Int.sign_eq_neg_one_of_neg hz];have e2:sg (decide ((-1:Int)*-1<0)) Q=(Q:Int):=rfl;rw[e2,Int.mul_comm (Q:Int) Y];have hq1:=hd Q (Z-Y*Q);generalize Y*(Q:Int)=P at *;have hs:¬((Z-P).sign*-1<0):=by
       have:(Z-P).sign<=0:=Int.sign_nonpos_iff.2 (by omega);omega
     exact ⟨fun h=>absurd h hs,fun _=>hq1 (by omega) (by omega),by omega⟩
   · subst hz;rw[Int.sign_zero];have e2:sg (decide ((0:Int)*-1<0)) Q=(Q:Int):=rfl;rw[e2,Int.mul_comm (Q:Int) Y];have hq1:=hd Q (0-Y*Q);generalize Y*(Q:Int)=P at *;have hs:¬((0-P).sign*-1<0):=by
       have:(0-P).sign<=0:=Int.sign_nonpos_iff.2 (by omega);omega
     exact ⟨fun h=>absurd h hs,fun _=>hq1 (by omega) (by omega),by omega⟩
   · rw[Int.sign_eq_one_of_pos hz];have e2:sg (decide ((1:Int)*-1<0)) Q=-(Q:Int):=rfl;rw[e2,Int.neg_mul,Int.mul_comm (Q:Int) Y];have hq1:=hd (-Q) (Z - -(Y*Q));have hq2:=hd (-Q-1) (Z - -(Y*Q)+Y);rw[Int.mul_neg]at hq1;rw[Int.mul_sub,Int.mul_one,Int.mul_neg]at hq2;generalize Y*(Q:Int)=P at *;by_cases hr:Z - -P=0
     · have hs:¬((Z - -P).sign*-1<0):=(by rw[hr,Int.sign_zero];omega);exact ⟨fun h=>absurd h hs,fun _=>hq1 (by omega) (by omega),by omega⟩
     · have hs:(Z - -P).sign*-1<0:=(by rw[Int.sign_eq_one_of_pos (show 0<Z - -P by omega)];omega);exact ⟨fun _=>hq2 (by omega) (by omega),fun h=>absurd hs h,by omega⟩
 · exact absurd hy hY
 · have e:(Y.natAbs:Int)=Y:=(by omega);rw[e]at h3;rw[Int.sign_eq_one_of_pos hy];rcases Int.lt_trichotomy Z 0 with hz|hz|hz
   · rw[Int.sign_eq_neg_one_of_neg hz];have e2:sg (decide ((-1:Int)*1<0)) Q=-(Q:Int):=rfl;rw[e2,Int.neg_mul,Int.mul_comm (Q:Int) Y];have hq1:=hd (-Q) (Z - -(Y*Q));have hq2:=hd (-Q-1) (Z - -(Y*Q)+Y);rw[Int.mul_neg]at hq1;rw[Int.mul_sub,Int.mul_one,Int.mul_neg]at hq2;generalize Y*(Q:Int)=P at *;by_cases hr:Z - -P=0
     · have hs:¬((Z - -P).sign*1<0):=(by rw[hr,Int.sign_zero];omega);exact ⟨fun h=>absurd h hs,fun _=>hq1 (by omega) (by omega),by omega⟩
     · have hs:(Z - -P).sign*1<0:=(by rw[Int.sign_eq_neg_one_of_neg (show Z - -P<0 by omega)];omega);exact ⟨fun _=>hq2 (by omega) (by omega),fun h=>absurd hs h,by omega⟩
   · subst hz;rw[Int.sign_zero];have e2:sg (decide ((0:Int)*1<0)) Q=(Q:Int):=rfl;rw[e2,Int.mul_comm (Q:Int) Y];have hq1:=hd Q (0-Y*Q);generalize Y*(Q:Int)=P at *;have hs:¬((0-P).sign*1<0):=by
       have:0<=(0-P).sign:=Int.sign_nonneg_iff.2 (by omega);omega
     exact ⟨fun h=>absurd h hs,fun _=>hq1 (by omega) (by omega),by omega⟩
   · rw[Int.sign_eq_one_of_pos hz];have e2:sg (decide ((1:Int)*1<0)) Q=(Q:Int):=rfl;rw[e2,Int.mul_comm (Q:Int) Y];have hq1:=hd Q (Z-Y*Q);generalize Y*(Q:Int)=P at *;have hs:¬((Z-P).sign*1<0):=by
       have:0<=(Z-P).sign:=Int.sign_nonneg_iff.2 (by omega);omega
     exact ⟨fun h=>absurd h hs,fun _=>hq1 (by omega) (by omega),by omega⟩
def WF (Z Y:Int):Int:=-((-Z).fdiv Y)
def WG (Z Y:Int):Int:=if Y<=2*Z.fmod Y then Z.fmod Y-Y else Z.fmod Y
theorem Kc (Z Y:Int) (k:Nat) (h:Z.natAbs<4294967296^k):(Z.fdiv Y).natAbs<4294967296^k:=Nat.lt_of_le_of_lt (Int.natAbs_fdiv_le_natAbs Z Y) h
theorem Kd (Z Y:Int) (k:Nat) (hY:Y≠0) (h:Y.natAbs<4294967296^k):(Z.fmod Y).natAbs<4294967296^k:=by obtain ⟨-,h2⟩:=Qt Z Y hY;exact Nat.lt_of_le_of_lt (by omega) h
end
end Go.Proofs.YtmedjkhmadfjlaaGreat
