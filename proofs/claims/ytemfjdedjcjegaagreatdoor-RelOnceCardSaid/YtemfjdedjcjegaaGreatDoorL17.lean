/- Texts of one seat, put together: KeepP RelBox TVars TValue RelA TermMathC DivMath. -/
import Derived.Test.YtemfjdedjcjegaaGreatDoorL13
import Derived.Test.YtemfjdedjcjegaaGreatDoorL11
import Derived.Test.YtemfjdedjcjegaaGreatDoorL15
import Derived.Test.YtemfjdedjcjegaaGreatDoorL08
set_option linter.unusedVariables false
set_option linter.unusedSimpArgs false
set_option maxRecDepth 100000
set_option maxHeartbeats 16000000
namespace Go.Proofs.YtemfjdedjcjegaaGreatDoor
section
open Go.RowKit
theorem Ao.next {g:Nat} {a b c:World} (h:Ao g a b) (k:Below b.heap.size b c):Ao g a c:=h.trans ⟨k.os,k.tape,k.output,k.size,fun i hi _=>k.block i hi⟩
theorem EP.offInt {w:World} {A B:Option Addr} {n k g m d:Nat} {s:Bool} {L:List (Int×Int)} (h:EP w A n L k) (hb:AY w g #[.bool s,.slice B m d]):0<n->Apart A g:=by
 obtain ⟨ps,h,-⟩:=h;intro hn ad had he;obtain ⟨b,o,e,hc⟩:=h.2.1 hn;have hl:0<ps.length:=by rw[h.1];exact hn
 obtain ⟨g0,-,-⟩:=flat_get ps 0 ps[0] (List.getElem?_eq_getElem hl);have h0:=hc 0 _ g0;rw[had]at e;injection e with e
 subst e;have he':b=g:=he;subst he';rw[cell_of_row w b _ _ _ _ hb]at h0;match o,h0 with
 |0,h0=>simp at h0
 |1,h0=>simp at h0
 |o+2,h0=>simp at h0
theorem AY.kpI {w w':World} {g m d:Nat} {s:Bool} {B:Option Addr} (hb:AY w g #[.bool s,.slice B m d]) (ho:Ao g w w'):Kp w w':=Kp.block hb (U9 (NL.bool _) (NL.slice _ _ _)) ho
theorem EP.onlyInt {w w':World} {A B:Option Addr} {n k g m d:Nat} {s:Bool} {L:List (Int×Int)} (h:EP w A n L k) (hb:AY w g #[.bool s,.slice B m d]) (ho:Ao g w w'):EP w' A n L k:=
 h.keep ho (hb.kpI ho) (h.offInt hb)
end
section
open Go.RowKit
section
variable {T:TypeId} {w w':World} {g k j:Nat} {x y z u v:Value} {L:List (Int×Int)} {K:Int} {e:Bool}
theorem Aw.r0 (h:Aw T w g #[x,y,z,u]):w.cell? ⟨g,0,none⟩=some x:=h.cell 0 x rfl
theorem Aw.r1 (h:Aw T w g #[x,y,z,u]):w.cell? ⟨g,1,none⟩=some y:=h.cell 1 y rfl
theorem Aw.r2 (h:Aw T w g #[x,y,z,u]):w.cell? ⟨g,2,none⟩=some z:=h.cell 2 z rfl
theorem Aw.r3 (h:Aw T w g #[x,y,z,u]):w.cell? ⟨g,3,none⟩=some u:=h.cell 3 u rfl
theorem UH (hx:NL x) (hy:NL y) (hz:NL z) (hu:NL u):EU (#[x,y,z,u]:Array Value).toList:=by intro t ht;simp at ht;rcases ht with rfl|rfl|rfl|rfl<;>assumption
theorem UI (A B:Option Addr) (n c m d:Nat) (s e:Bool):EU (#[.slice A n c,.bool s,.slice B m d,.bool e]:Array Value).toList:=UH (NL.slice _ _ _) (NL.bool _) (NL.slice _ _ _) (NL.bool _)
theorem Bt {w:World} {ops:Array Oper} {rest:List Oper} {o:Oper} {a:Act} {Q:Exit->Act->World->Prop} (hgd:o.guard=none) (x y:Operand) (ho:o.op=.store 35 x y)
  (g:Nat) (s e:Bool) (A B:Option Addr) (n c m d:Nat) (hx:a.eval x=.pointer (some ⟨g,0,none⟩)) (hy:a.eval y=.agg #[.slice A n c,.bool s,.slice B m d,.bool e]) (u v z t:Value) (hb:Aw 35 w g #[u,v,z,t])
  (h:∀w',Aw 35 w' g #[.slice A n c,.bool s,.slice B m d,.bool e]->Ao g w w'->wpList Tryz.prog ops Q rest (a.put o.dst undef) w'):wpList Tryz.prog ops Q (o::rest) a w:=
 Cl hgd 35 x y ho g _ hx hy _ hb (by kernel_rfl) rfl (by simp[Value.oneCell']) h
theorem DX {fn:Func} {R:Ending->World->Prop} {a:Act} {w:World} {g p:Nat} {x y z u:Value} (hres:fn.results=#[.cell p 35]) (hp:a.tmps.getD p undef=.pointer (some ⟨g,0,none⟩))
  (hb:Aw 35 w g #[x,y,z,u]) (hd:a.defers=[]) (hR:R (.returned (.agg #[x,y,z,u])) w):bodyPost Tryz.prog fn R .ret a w:=
 bodyPost_ret (results_cell_row hres _ _ g _ #[x,y,z,u] _ _ hp hb Tryz.underlying35 rfl (by kernel_rfl)) hd hR
def JW (w:World) (v:Value) (L:List (Int×Int)) (K:Int) (e:Bool) (k:Nat):Prop:=∃A n c s B m d,v=.agg #[.slice A n c,.bool s,.slice B m d,.bool e]/\Dw w (.agg #[.slice A n c,.bool s,.slice B m d]) L K k
def BO (w:World) (v:Value) (L:List (Int×Int)) (K:Int) (e:Bool) (k:Nat):Prop:=∃A n c s B m d,v=.agg #[.slice A n c,.bool s,.slice B m d,.bool e]/\An w (.agg #[.slice A n c,.bool s,.slice B m d]) L K k
theorem JW.below (h:JW w v L K e k) (hb:Below w.heap.size w w'):JW w' v L K e k:=by obtain ⟨A,n,c,s,B,m,d,rfl,h⟩:=h;exact ⟨A,n,c,s,B,m,d,rfl,h.below hb⟩
theorem BO.below (h:BO w v L K e k) (hb:Below w.heap.size w w'):BO w' v L K e k:=by obtain ⟨A,n,c,s,B,m,d,rfl,h⟩:=h;exact ⟨A,n,c,s,B,m,d,rfl,h.below hb⟩
theorem BO.mono (h:BO w v L K e k) (hj:k<=j):BO w v L K e j:=by obtain ⟨A,n,c,s,B,m,d,rfl,h⟩:=h;exact ⟨A,n,c,s,B,m,d,rfl,h.mono hj⟩
theorem BO.in_ (h:BO w v L K e k):JW w v L K e k:=by obtain ⟨A,n,c,s,B,m,d,rfl,h⟩:=h;exact ⟨A,n,c,s,B,m,d,rfl,h.in_⟩
theorem BO.ofEq {M:List (Int×Int)} {J:Int} {f:Bool} (h:BO w v L K e k) (e1:L=M) (e2:K=J) (e3:e=f):BO w v M J f k:=e1▸e2▸e3▸h
theorem EP.offRel {A B C:Option Addr} {n m c d q:Nat} {s f:Bool} (h:EP w A n L k) (hb:Aw 35 w g #[.slice B m c,.bool s,.slice C q d,.bool f]):0<n->Apart A g:=by
 obtain ⟨ps,h,-⟩:=h;intro hn ad had he;obtain ⟨b,o,e,hc⟩:=h.2.1 hn;have hl:0<ps.length:=by rw[h.1];exact hn
 obtain ⟨g0,-,-⟩:=flat_get ps 0 ps[0] (List.getElem?_eq_getElem hl);have h0:=hc 0 _ g0;rw[had]at e;injection e with e
 subst e;have he':b=g:=he;subst he';rw[cell_of_row w b _ _ _ _ hb]at h0;match o,h0 with
 |0,h0=>simp at h0
 |1,h0=>simp at h0
 |2,h0=>simp at h0
 |3,h0=>simp at h0
 |o+4,h0=>simp at h0
theorem An.onlyR {B C:Option Addr} {m c d q:Nat} {s f:Bool} (h:An w v L K k) (hb:Aw 35 w g #[.slice B m c,.bool s,.slice C q d,.bool f]) (ho:Ao g w w'):An w' v L K k:=by have hk:Kp w w':=hb.kp (UI _ _ _ _ _ _ _ _) ho;obtain ⟨A,n,c,s,B,m,d,e,h1,h2,h3,h4⟩:=h;exact ⟨A,n,c,s,B,m,d,e,h1.keep ho hk (h1.in_.offRel hb),h2,h3,h4.kp hk⟩
end
theorem Dw.opn {w:World} {A B:Option Addr} {n c m d k:Nat} {s:Bool} {L:List (Int×Int)} {K:Int} (h:Dw w (.agg #[.slice A n c,.bool s,.slice B m d]) L K k):EP w A n L k/\n<=c/\c<=9223372036854775807/\BF w (.agg #[.bool s,.slice B m d]) K k:=by
 obtain ⟨A',n',c',s',B',m',d',e,h1,h2,h3,h4⟩:=h;have e2:A'=A/\n'=n/\c'=c/\s'=s/\B'=B/\m'=m/\d'=d:=by simpa[eq_comm,and_assoc] using e
 obtain ⟨rfl,rfl,rfl,rfl,rfl,rfl,rfl⟩:=e2;exact ⟨h1,h2,h3,h4⟩
theorem An.opn {w:World} {A B:Option Addr} {n c m d k:Nat} {s:Bool} {L:List (Int×Int)} {K:Int} (h:An w (.agg #[.slice A n c,.bool s,.slice B m d]) L K k):Cv w A n L k/\n<=c/\c<=9223372036854775807/\Au w (.agg #[.bool s,.slice B m d]) K k:=by
 obtain ⟨A',n',c',s',B',m',d',e,h1,h2,h3,h4⟩:=h;have e2:A'=A/\n'=n/\c'=c/\s'=s/\B'=B/\m'=m/\d'=d:=by simpa[eq_comm,and_assoc] using e
 obtain ⟨rfl,rfl,rfl,rfl,rfl,rfl,rfl⟩:=e2;exact ⟨h1,h2,h3,h4⟩
def LP (L:List (Int×Int)) (K:Int) (e:Bool) (k:Nat) (w:World) (en:Ending) (w':World):Prop:=∃v,en=.returned v/\BO w' v L K e k/\Below w.heap.size w w'
end
section
open Go.RowKit
open Tm
def IC (W1:World) (L:List (Int×Int)) (q:Nat) (sv:Value) (wr:World):Prop:=Az 3 1 wr W1.heap.size sv ((L.take q).map Prod.fst).length (ints ((L.take q).map Prod.fst))/\Below W1.heap.size W1 wr
theorem Te (w:World) (o:Obj) (x:Int) (T:TypeId):((w.alloc o).alloc (.cells #[.int .i64 x] T)).cell? ⟨w.heap.size+1,0,none⟩=some (.int .i64 x):=by have h:=TS (w.alloc o) x T;rw[size_alloc]at h;exact h
theorem Jy (L:List (Int×Int)) (q:Nat) (u c:Int) (h:L[q]?=some (u,c)):(L.take (q+1)).map Prod.fst=(L.take q).map Prod.fst++[u]:=by rw[List.take_add_one,h];simp
theorem Pb (v:Value) (L:List (Int×Int)) (K:Int) (k:Nat) (w0:World) (hv:Dw w0 v L K k) (hl:L.length<=1099511) (hk:k<=1099511627):Calls Tryz.prog 48 #[v] w0 (S3 (vars L) w0):=by
 obtain ⟨A,n,c,s,B,m,d,rfl,hp,hc1,hc2,-⟩:=hv;have hn:=hp.len;obtain ⟨z0,z1,-⟩:=AV 33 w0 #[.slice A n c,.bool s,.slice B m d];have hpl:=CL A n c L k _ (hp.below z1) hc1 hc2 (by omega) hk;have x0:=z0.c0;have HNL:=Ad (AR L);rw[hn]at hl;have HN:=Ad hn;clear hn;go_enter Tryz.func48,Tryz.ntmps48;go_wp2_with fail;refine hpl.mono ?_;rintro e W1 ⟨A1,n1,c1,rfl,p1,h11,h12,b1⟩;have HT1:=Ad (z1.next b1);have hn1:n1<=1099511:=by have:=p1.len;have:=HNL.out;have:=HN.out;omega
 have HP1:=Ad p1;have HS:=Ad (show IC W1 (norm L) 0 (.slice none 0 0) W1 from ⟨Az.nil _ _ _ _,Below.refl _ _⟩);clear x0 hpl z0 z1 b1 p1 hp;go_wp2_with fail;go_loopw [3,10] (fun sv i wr=>∃q:Nat,q<=n1/\i=.int .i64 q/\Hid (IC W1 (norm L) q sv wr)) (fun _ i _=>n1-(intOf i).toNat)
 case atStart=>exact ⟨0,Nat.zero_le _,rfl,HS⟩
 case round=>
  obtain ⟨q,hq,rfl,HR⟩:=hrel;obtain ⟨lr,hB⟩:=HR.out;have hsz:=hB.size;by_cases hqn:q<n1
  · obtain ⟨bb,o,p,rfl,hlt,hLp,c0,c1x,c2,-⟩:=(HP1.out.below hB).at_ hqn;have y1:=Ae wr (.cells #[.int .i64 p.v,.bool p.s,.slice p.B p.m p.d] 59);have HL1:=Ad (lr.below y1);have HB1:=Ad (hB.trans (y1.mono hsz));have hsz1:=HB1.out.size;have HE:=Ad (Jy (norm L) q _ _ hLp);have hle:(((norm L).take q).map Prod.fst).length<=1099511627:=(by rw[List.length_map];have:=List.length_take_le q (norm L);omega);generalize ((norm L).take q).map Prod.fst=os at *;clear hLp lr hB HR y1
    go_wp2_with (at_builtin;refine Gu rfl _ _ rfl W1.heap.size _ os rfl (HL1.out.below (Ae _ _)) _ p.v rfl (Te _ _ _ _) hle (Nat.le_trans hsz1 (Ae _ _).size) ?_;intro v' w1 l1 g1);have HE1:=Ad (show IC W1 (norm L) (q+1) v' w1 from ⟨by rw[HE.out];exact l1,(HL1.out.below (Ae _ _)).old (HB1.out.trans ((Ae _ _).mono hsz1)) g1 (Nat.le_refl _) (Nat.le_refl _)⟩);clear l1 g1 c0 c1x c2;go_wp2_with fail;go_roundw
    case rel=>exact ⟨q+1,by omega,by go_num,HE1⟩
    case measure=>simp[intOf]<;>omega
  · obtain rfl:q=n1:=(by omega);have hV:((norm L).take q).map Prod.fst=vars L:=(by rw[List.take_of_length_le (by rw[HP1.out.len];exact Nat.le_refl _)];rfl);rw[hV]at lr;obtain ⟨A9,c9,hv9,h91,h92,-⟩:=lr.len;subst hv9;have HL:=Ad lr;have HB:=Ad hB;clear lr hB HR hV;go_wp2_with fail;go_ret
    exact ⟨A9,c9,rfl,HL.out.ints_in,h91,h92,HT1.out.trans (HB.out.mono HT1.out.size)⟩
end
section
open Go.RowKit
open Tm
theorem val_take_succ (vs:List Int) (L:List (Int×Int)) (q:Nat) (u c:Int) (h:L[q]?=some (u,c)):val vs (L.take (q+1))=val vs (L.take q)+(if 0<=u then c*vs.getD u.toNat 0 else 0):=by rw[List.take_add_one,h,val_append];simp[val]
theorem nums_getD (ivs:List IV) (i:Nat) (p:IV) (h:ivs[i]?=some p):(nums ivs).getD i 0=p.Z:=by unfold nums;rw[List.getD_eq_getElem?_getD,List.getElem?_map,h];rfl
theorem QL (ivs:List IV) (i:Nat) (h:ivs.length<=i):(nums ivs).getD i 0=0:=by unfold nums;rw[List.getD_eq_getElem?_getD,List.getElem?_eq_none (by rw[List.length_map];exact h)];rfl
def ID (g:Nat) (W1:World) (L:List (Int×Int)) (K:Int) (vs:List Int) (k q:Nat) (wr:World):Prop:=
 ∃s A n c,AY wr g #[.bool s,.slice A n c]/\Au wr (.agg #[.bool s,.slice A n c]) (K+val vs (L.take q)) (k+q)/\Below g W1 wr
theorem Ni (v:Value) (L:List (Int×Int)) (K:Int) (k kj:Nat) (VA:Option Addr) (vn vc:Nat) (ivs:List IV) (w0:World) (hv:Dw w0 v L K k) (hvs:CY w0 VA vn ivs kj) (hvn:vn<=9223372036854775807) (hl:L.length<=1099511) (hk:k<=1099511627) (hkj:kj<=1099511627):Calls Tryz.prog 30 #[v,.slice VA vn vc] w0 (CW (K+val (nums ivs) L) (k+kj+L.length) w0):=by
 obtain ⟨A,n,c,s,B,m,d,rfl,hp,hc1,hc2,hK⟩:=hv;have hn:=hp.len;obtain ⟨z0,z1,z2,z3⟩:=Bh 33 31 w0 #[.slice A n c,.bool s,.slice B m d] #[.bool false,.slice none 0 0];have hcp:=I4 _ K k _ (hK.below z2) (by omega);have x1:=z0.c1;have x2:=z0.c2;rw[hn]at hl;have HN:=Ad hn;have HVL:=Ad hvs.1;clear hn;go_enter Tryz.func30,Tryz.ntmps30;go_wp2_with fail;refine hcp.mono ?_;rintro e w1 ⟨v1,rfl,r1,b1⟩;obtain ⟨s1,A1,n1,c1,rfl⟩:=r1.form;have HT1:=Ad (z2.next b1)
 have hw1:w0.heap.size+1+1<=w1.heap.size:=by have:=b1.size;omega
 have q0:=z0.next b1;have x0:=q0.c0;have HR1:=Ad (z1.next b1);have HP0:=Ad hp;have HV0:=Ad hvs;clear x1 x2 hcp z0 z1 z2 z3 b1 hp hvs hK;obtain ⟨y0,y1,y2⟩:=AV 31 w1 #[.bool s1,.slice A1 n1 c1];have HS:=Ad (show ID w1.heap.size (w1.alloc (.cells #[.bool s1,.slice A1 n1 c1] 31)) L K (nums ivs) (k+kj) 0 (w1.alloc (.cells #[.bool s1,.slice A1 n1 c1] 31)) from ⟨s1,A1,n1,c1,y0,by simpa[val] using (r1.below y1).mono (show k<=k+kj by omega),Below.refl _ _⟩);have HY1:=Ad y1
 clear y0 y1 r1;have q1:=q0.next HY1.out;have u0:=q1.c0;clear q0 q1;go_wp2_with fail;generalize hW1:w1.alloc (.cells #[.bool s1,.slice A1 n1 c1] 31)=W1 at *;clear hW1 u0 x0;go_loopw [14] (fun i wr=>∃q:Nat,q<=n/\i=.int .i64 q/\Hid (ID w1.heap.size W1 L K (nums ivs) (k+kj) q wr)) (fun i _=>n-(intOf i).toNat)
 case atStart=>exact ⟨0,Nat.zero_le _,rfl,HS⟩
 case round=>
  obtain ⟨q,hq,rfl,HR⟩:=hrel;obtain ⟨s5,A5,n5,c5,b5,zz5,hB⟩:=HR.out;have hBW:w1.heap.size<=W1.heap.size:=HY1.out.size;have hT:Below w0.heap.size w0 wr:=(HT1.out.next HY1.out).trans (hB.mono (by omega));by_cases hqn:q<n
  · have hPw:EP wr A n L k:=HP0.out.below hT;obtain ⟨bb,o,p,rfl,hlt,hLp,c0,c1x,c2,hz⟩:=hPw.at_ hqn;obtain ⟨pv,ps,pB,pm,pd,pZ⟩:=p;have hz:BF wr (.agg #[.bool ps,.slice pB pm pd]) pZ k:=hz;dsimp only at c0 c1x c2 hLp
    obtain ⟨y0,y1,-⟩:=AV 59 wr #[.int .i64 pv,.bool ps,.slice pB pm pd];have HB1:=Ad (hB.trans (y1.mono (Nat.le_trans hBW hB.size)));have HV:=Ad (val_take_succ (nums ivs) L q _ _ hLp);by_cases hp0:0<=pv
    · obtain ⟨u,rfl⟩:=Int.eq_ofNat_of_zero_le hp0;by_cases huv:u<vn
      · obtain ⟨vb,vo,iv,rfl,hiv,e0,e1,hzi⟩:=(HV0.out.below hT).at_ huv;have e0:wr.cell? ⟨vb,vo+u*2,none⟩=some (.bool iv.s):=(by rw[Nat.mul_comm];exact e0);have e1:wr.cell? ⟨vb,vo+u*2+1,none⟩=some (.slice iv.B iv.m iv.d):=(by rw[Nat.mul_comm,Nat.add_assoc];exact e1);have hltv:=World.block_lt_of_cell? wr _ e0;have HC:=Ad (show K+val (nums ivs) (L.take q)+pZ*iv.Z=K+val (nums ivs) (L.take (q+1)) by rw[HV.out,if_pos hp0,Int.toNat_natCast,nums_getD ivs u iv hiv];omega)
        generalize hY:K+val (nums ivs) (L.take q)=Y at *;have HB5:=Ad (b5.next y1);have HZ5:=Ad (zz5.below y1);have hzm:=Ad (hz.below y1);have hzi1:=Ad (hzi.below y1);have E0:=Ad ((y1.cell (p:=⟨vb,vo+u*2,none⟩) hltv).trans e0);have E1:=Ad ((y1.cell (p:=⟨vb,vo+u*2+1,none⟩) hltv).trans e1);have hlt6:=Nat.lt_of_lt_of_le hltv y1.size;clear hY hz hzi zz5 hLp HR b5 hB hT hPw hiv HV e0 e1;go_wp2_with fail
        generalize hW6:(wr.alloc (.cells #[.int .i64 (u:Int),.bool ps,.slice pB pm pd] 59))=W6 at *;clear hW6;have HM:=Ad (fun W (h:Below W6.heap.size W6 W)=>Sy (.agg #[.bool ps,.slice pB pm pd]) (.agg #[.bool iv.s,.slice iv.B iv.m iv.d]) pZ iv.Z k kj W (hzm.out.below h) (hzi1.out.below h) (by omega) (by omega))
        have SOF:=Ad (show ∀W,Below W6.heap.size W6 W->(W.cell? ⟨w1.heap.size,0,none⟩=some (.bool s5)/\W.cell? ⟨w1.heap.size,1,none⟩=some (.slice A5 n5 c5)/\W.cell? ⟨wr.heap.size,0,none⟩=some (.int .i64 (u:Int))/\W.cell? ⟨wr.heap.size,1,none⟩=some (.bool ps)/\W.cell? ⟨wr.heap.size,2,none⟩=some (.slice pB pm pd)/\W.cell? ⟨vb,vo+u*2,none⟩=some (.bool iv.s)/\W.cell? ⟨vb,vo+u*2+1,none⟩=some (.slice iv.B iv.m iv.d)) from fun W h=>⟨(HB5.out.next h).c0,(HB5.out.next h).c1,(y0.next h).c0,(y0.next h).c1,(y0.next h).c2,(h.cell (p:=⟨vb,vo+u*2,none⟩) hlt6).trans E0.out,(h.cell (p:=⟨vb,vo+u*2+1,none⟩) hlt6).trans E1.out⟩)
        clear y0 c0 c1x c2 y1
        refine AJ (by kernel_rfl) (by kernel_rfl) (by kernel_rfl) (by kernel_rfl) (fun w w'=>Below w.heap.size w w') (fun j v w=>match j with|0=>v=.agg #[.bool s5,.slice A5 n5 c5]|1=>v=.pointer (some ⟨wr.heap.size,1,none⟩)|2=>v=.agg #[.bool ps,.slice pB pm pd]|3=>v=.slice (some ⟨vb,vo,none⟩) vn vc|4=>v=.pointer (some ⟨wr.heap.size,0,none⟩)|5=>v=.int .i64 (u:Int)|6=>v=.pointer (some ⟨vb,vo+u*2,none⟩)|7=>v=.agg #[.bool iv.s,.slice iv.B iv.m iv.d]|8=>Au w v (pZ*iv.Z) (k+kj)|9=>Au w v (Y+pZ*iv.Z) (k+kj+q+1)|_=>True) (fun _ _ w=>Below W6.heap.size W6 w) ?_ (fun _=>Ak W6 1) ?_ ?_
        · intro j v w w' hT h;match j,h with
          |0,h=>exact h
          |1,h=>exact h
          |2,h=>exact h
          |3,h=>exact h
          |4,h=>exact h
          |5,h=>exact h
          |6,h=>exact h
          |7,h=>exact h
          |8,h=>exact h.below hT
          |9,h=>exact h.below hT
          |j+10,h=>trivial
        · refine ⟨?_,?_,?_,?_,?_,?_,?_,?_,?_,?_,trivial⟩
          · intro listed σ w a hin hout hl hla hs hc hp hG hF;refine Ac.none rfl ?_;have e5:a.tmps.getD 5 undef=.pointer (some ⟨w1.heap.size,0,none⟩):=hout 5 (Af (by kernel_rfl));have CC:=SOF.out w hG;obtain ⟨C0,C1,D0,D1,D2,E0,E1⟩:=CC;refine Does.val (.agg #[.bool s5,.slice A5 n5 c5]) (w':=w) ?_ ⟨Below.refl _ _,rfl,hG⟩;go_simp
          · intro listed σ w a hin hout hl hla hs hc hp hG hF;refine Ac.none rfl ?_;have e7:a.tmps.getD 7 undef=.pointer (some ⟨wr.heap.size,0,none⟩):=hout 7 (Af (by kernel_rfl));refine Does.val (.pointer (some ⟨wr.heap.size,1,none⟩)) (w':=w) ?_ ⟨Below.refl _ _,rfl,hG⟩;simp only[Array.getD_eq_getD_getElem?]at e7;go_simp
          · intro listed σ w a hin hout hl hla hs hc hp hG hF;refine Ac.none rfl ?_;have e29:a.tmps.getD 29 undef=.pointer (some ⟨wr.heap.size,1,none⟩):=(hin 1 29 rfl (hp ⟨1,.data⟩ (by simp) rfl)).trans (hF 1 (hp ⟨1,.data⟩ (by simp) rfl));have CC:=SOF.out w hG;obtain ⟨C0,C1,D0,D1,D2,E0,E1⟩:=CC;refine Does.val (.agg #[.bool ps,.slice pB pm pd]) (w':=w) ?_ ⟨Below.refl _ _,rfl,hG⟩;go_simp
          · intro listed σ w a hin hout hl hla hs hc hp hG hF;refine Ac.none rfl ?_;have e1:a.tmps.getD 1 undef=.slice (some ⟨vb,vo,none⟩) vn vc:=hout 1 (Af (by kernel_rfl));refine Does.val (.slice (some ⟨vb,vo,none⟩) vn vc) (w':=w) ?_ ⟨Below.refl _ _,rfl,hG⟩;simp only[Array.getD_eq_getD_getElem?]at e1;go_simp
          · intro listed σ w a hin hout hl hla hs hc hp hG hF;refine Ac.none rfl ?_;have e7:a.tmps.getD 7 undef=.pointer (some ⟨wr.heap.size,0,none⟩):=hout 7 (Af (by kernel_rfl));refine Does.val (.pointer (some ⟨wr.heap.size,0,none⟩)) (w':=w) ?_ ⟨Below.refl _ _,rfl,hG⟩;simp only[Array.getD_eq_getD_getElem?]at e7;go_simp
          · intro listed σ w a hin hout hl hla hs hc hp hG hF;refine Ac.none rfl ?_;have e32:a.tmps.getD 32 undef=.pointer (some ⟨wr.heap.size,0,none⟩):=(hin 4 32 rfl (hp ⟨4,.data⟩ (by simp) rfl)).trans (hF 4 (hp ⟨4,.data⟩ (by simp) rfl));have CC:=SOF.out w hG;obtain ⟨C0,C1,D0,D1,D2,E0,E1⟩:=CC;refine Does.val (.int .i64 (u:Int)) (w':=w) ?_ ⟨Below.refl _ _,rfl,hG⟩;go_simp
          · intro listed σ w a hin hout hl hla hs hc hp hG hF;refine Ac.none rfl ?_;have e31:a.tmps.getD 31 undef=.slice (some ⟨vb,vo,none⟩) vn vc:=(hin 3 31 rfl (hp ⟨3,.data⟩ (by simp) rfl)).trans (hF 3 (hp ⟨3,.data⟩ (by simp) rfl));have e33:a.tmps.getD 33 undef=.int .i64 (u:Int):=(hin 5 33 rfl (hp ⟨5,.data⟩ (by simp) rfl)).trans (hF 5 (hp ⟨5,.data⟩ (by simp) rfl));refine Does.val (.pointer (some ⟨vb,vo+u*2,none⟩)) (w':=w) ?_ ⟨Below.refl _ _,rfl,hG⟩
            simp only[Array.getD_eq_getD_getElem?]at e31 e33;go_simp;(try (intro hh;exfalso;omega))
          · intro listed σ w a hin hout hl hla hs hc hp hG hF;refine Ac.none rfl ?_;have e34:a.tmps.getD 34 undef=.pointer (some ⟨vb,vo+u*2,none⟩):=(hin 6 34 rfl (hp ⟨6,.data⟩ (by simp) rfl)).trans (hF 6 (hp ⟨6,.data⟩ (by simp) rfl));have CC:=SOF.out w hG;obtain ⟨C0,C1,D0,D1,D2,E0,E1⟩:=CC;refine Does.val (.agg #[.bool iv.s,.slice iv.B iv.m iv.d]) (w':=w) ?_ ⟨Below.refl _ _,rfl,hG⟩;go_simp
          · intro listed σ w a hin hout hl hla hs hc hp hG hF;refine Ac.none rfl ?_;have e30:a.tmps.getD 30 undef=.agg #[.bool ps,.slice pB pm pd]:=(hin 2 30 rfl (hp ⟨2,.data⟩ (by simp) rfl)).trans (hF 2 (hp ⟨2,.data⟩ (by simp) rfl));have e35:a.tmps.getD 35 undef=.agg #[.bool iv.s,.slice iv.B iv.m iv.d]:=(hin 7 35 rfl (hp ⟨7,.data⟩ (by simp) rfl)).trans (hF 7 (hp ⟨7,.data⟩ (by simp) rfl));refine Does.call ?_ (HM.out w hG) ?_
            · go_simp
            · rintro e w' ⟨v,rfl,z,hb⟩;exact ⟨_,rfl,hb,z,hG.next hb⟩
          · intro listed σ w a hin hout hl hla hs hc hp hG hF;refine Ac.none rfl ?_;have e28:a.tmps.getD 28 undef=.agg #[.bool s5,.slice A5 n5 c5]:=(hin 0 28 rfl (hp ⟨0,.data⟩ (by simp) rfl)).trans (hF 0 (hp ⟨0,.data⟩ (by simp) rfl));have e36:=hin 8 36 rfl (hp ⟨8,.data⟩ (by simp) rfl);have z8:=hF 8 (hp ⟨8,.data⟩ (by simp) rfl);refine Does.call ?_ (JL _ _ Y (pZ*iv.Z) (k+kj+q) w (HZ5.out.in_.below hG) (z8.in_.mono (by omega)) (by omega)) ?_
            · go_simp
            · rintro e w' ⟨v,rfl,z,hb⟩;exact ⟨_,rfl,hb,z,hG.next hb⟩
        · intro o ho;injection ho with ho;subst ho
          intro listed σ w a hall hin hout hG hF;refine Ac.none rfl ?_;have e5:a.tmps.getD 5 undef=.pointer (some ⟨w1.heap.size,0,none⟩):=hout 5 (LC (by kernel_rfl));have e37:=hin 9 37 rfl (by decide);have z9:=hF 9 (by decide);have z9:=hF 9 (by decide);obtain ⟨s8,A8,n8,c8,ev8⟩:=Au.form z9;rw[ev8]at e37 z9;have HX:=Ad (HB5.out.next hG)
          refine Does.store_box (T:=31) (cells:=#[.bool s8,.slice A8 n8 c8]) rfl e5 e37 (AY.box HX.out) (by kernel_rfl) rfl (by simp[Value.oneCell']) (fun w2 x9 o9=>?_)
          rw[show fin _ σ undef _=(Act.put (Act.put (Act.put (Act.put (Act.put (Act.put (Act.put (Act.put (Act.put (Act.put (Act.put _ (some 28) (σ 0)) (some 29) (σ 1)) (some 30) (σ 2)) (some 31) (σ 3)) (some 32) (σ 4)) (some 33) (σ 5)) (some 34) (σ 6)) (some 35) (σ 7)) (some 36) (σ 8)) (some 37) (σ 9)) none undef) from (Bn hall).trans rfl];simp only[Act.put,List.setIfInBounds_toArray,List.set_cons_zero,List.set_cons_succ]
          have HE:=Ad (show ID w1.heap.size W1 L K (nums ivs) (k+kj) (q+1) w2 from ⟨s8,A8,n8,c8,x9,by rw[<-HC.out];exact (z9.only HX.out o9).mono (by omega),(HB1.out.trans (hG.mono (Nat.le_trans hBW HB1.out.size))).trans (o9.below (Nat.le_trans hBW (Nat.le_trans HB1.out.size hG.size)) (Nat.le_refl _))⟩)
          generalize σ 0=tt0 at *;generalize σ 1=tt1 at *;generalize σ 2=tt2 at *;generalize σ 3=tt3 at *;generalize σ 4=tt4 at *;generalize σ 5=tt5 at *;generalize σ 6=tt6 at *;generalize σ 7=tt7 at *;generalize σ 8=tt8 at *;generalize σ 9=tt9 at *;clear hF hG hall hin hout SOF HM z9 x9 o9 e5 e37 ev8;go_wp2_with fail;go_roundw
          case rel=>exact ⟨q+1,by omega,by go_num,HE⟩
          case measure=>simp[intOf]<;>omega
      · have HE:=Ad (show ID w1.heap.size W1 L K (nums ivs) (k+kj) (q+1) _ from ⟨s5,A5,n5,c5,b5.next y1,by rw[HV.out,if_pos hp0,Int.toNat_natCast,QL ivs u (by have:=HVL.out;omega),Int.mul_zero,Int.add_zero];exact (zz5.mono (by omega)).below y1,HB1.out⟩);clear hz zz5 hLp HR b5 hB hT hPw HV y0 y1;go_wp2_with fail;go_roundw
        case rel=>exact ⟨q+1,by omega,by go_num,HE⟩
        case measure=>simp[intOf]<;>omega
    · have HE:=Ad (show ID w1.heap.size W1 L K (nums ivs) (k+kj) (q+1) _ from ⟨s5,A5,n5,c5,b5.next y1,by rw[HV.out,if_neg hp0,Int.add_zero];exact (zz5.mono (by omega)).below y1,HB1.out⟩);clear hz zz5 hLp HR b5 hB hT hPw HV y0 y1;go_wp2_with fail;go_roundw
      case rel=>exact ⟨q+1,by omega,by go_num,HE⟩
      case measure=>simp[intOf]<;>omega
  · obtain rfl:q=n:=(by omega);have HL:=Ad (show val (nums ivs) (L.take q)=val (nums ivs) L by rw[List.take_of_length_le (by rw[HN.out];exact Nat.le_refl _)]);have b50:=b5.c0;have b51:=b5.c1;have k1:AY wr (w0.heap.size+1) #[.bool false,.slice none 0 0]:=Aw.below (Aw.next HR1.out HY1.out) hB (by omega);have HZ5:=Ad zz5;have HT:=Ad hT;clear zz5 b5 HR hT;go_wp2_with (with_reducible refine Al rfl _ _ rfl (w0.heap.size+1) _ _ _ _ rfl rfl _ _ k1 ?_;intro w3 k3 ho3)
    refine Av rfl rfl k3 rfl ?_;refine ⟨_,rfl,?_,AH HT.out (by omega) ho3⟩;rw[HN.out,<-HL.out];exact HZ5.out.only k1 ho3
end
section
open Go.RowKit
open Tm
theorem Bj (v:Value) (L:List (Int×Int)) (K:Int) (k:Nat) (w0:World) (hv:Dw w0 v L K k) (hl:L.length<=1099511) (hk:k<=1099511627):Calls Tryz.prog 15 #[v] w0 (LP (norm L) K false (k+L.length) w0):=by
 have hv0:=hv;obtain ⟨A,n,c,s,B,m,d,rfl,-⟩:=hv;obtain ⟨z0,z1,z2,-⟩:=Bh 33 35 w0 #[.slice A n c,.bool s,.slice B m d] #[.slice none 0 0,.bool false,.slice none 0 0,.bool false];have hpl:=Dh _ L K k _ (hv0.below z2) hl hk;have x0:=z0.c0;have x1:=z0.c1;have x2:=z0.c2;go_enter Tryz.func15,Tryz.ntmps15;go_wp2_with fail;refine hpl.mono ?_;rintro e w1 ⟨v1,rfl,r1,b1⟩;obtain ⟨A1,n1,c1,s1,B1,m1,d1,rfl⟩:=r1.form;have k1:=z1.next b1
 go_wp2_with (with_reducible refine Bt rfl _ _ rfl (w0.heap.size+1) _ _ _ _ _ _ _ _ rfl rfl _ _ _ _ k1 ?_;intro w3 k3 ho3);refine DX rfl rfl k3 rfl ?_;exact ⟨_,rfl,⟨_,_,_,_,_,_,_,rfl,r1.onlyR k1 ho3⟩,AH (z2.next b1) (by omega) ho3⟩
theorem GG (v:Value) (L:List (Int×Int)) (K:Int) (k:Nat) (w0:World) (hv:Dw w0 v L K k) (hl:L.length<=1099511) (hk:k<=1099511627):Calls Tryz.prog 17 #[v] w0 (LP (norm L) K true (k+L.length) w0):=by
 have hv0:=hv;obtain ⟨A,n,c,s,B,m,d,rfl,-⟩:=hv;obtain ⟨z0,z1,z2,-⟩:=Bh 33 35 w0 #[.slice A n c,.bool s,.slice B m d] #[.slice none 0 0,.bool false,.slice none 0 0,.bool false];have hpl:=Dh _ L K k _ (hv0.below z2) hl hk;have x0:=z0.c0;have x1:=z0.c1;have x2:=z0.c2;go_enter Tryz.func17,Tryz.ntmps17;go_wp2_with fail;refine hpl.mono ?_;rintro e w1 ⟨v1,rfl,r1,b1⟩;obtain ⟨A1,n1,c1,s1,B1,m1,d1,rfl⟩:=r1.form;have k1:=z1.next b1
 go_wp2_with (with_reducible refine Bt rfl _ _ rfl (w0.heap.size+1) _ _ _ _ _ _ _ _ rfl rfl _ _ _ _ k1 ?_;intro w3 k3 ho3);refine DX rfl rfl k3 rfl ?_;exact ⟨_,rfl,⟨_,_,_,_,_,_,_,rfl,r1.onlyR k1 ho3⟩,AH (z2.next b1) (by omega) ho3⟩
def Ez (e:Bool):Int:=if e then 1 else 0
theorem JX (v:Value) (L:List (Int×Int)) (K:Int) (e:Bool) (k:Nat) (w0:World) (hv:JW w0 v L K e k):Calls Tryz.prog 37 #[v] w0 (fun en w'=>en=.returned (.int .i64 (Ez e))/\Below w0.heap.size w0 w'):=by
 obtain ⟨A,n,c,s,B,m,d,rfl,-⟩:=hv;obtain ⟨z0,z1,-⟩:=AV 35 w0 #[.slice A n c,.bool s,.slice B m d,.bool e];have x3:=z0.r3;cases e with
 |false=>
  go_enter Tryz.func37,Tryz.ntmps37;go_wp2_with fail;go_ret
  exact ⟨rfl,z1⟩
 |true=>
  go_enter Tryz.func37,Tryz.ntmps37;go_wp2_with fail;go_ret
  exact ⟨rfl,z1⟩
theorem LQ (v:Value) (L:List (Int×Int)) (K:Int) (e:Bool) (k:Nat) (w0:World) (hv:JW w0 v L K e k) (hl:L.length<=1099511) (hk:k<=1099511627):Calls Tryz.prog 24 #[v] w0 (S3 (vars L) w0):=by
 obtain ⟨A,n,c,s,B,m,d,rfl,ht⟩:=hv;obtain ⟨z0,z1,-⟩:=AV 35 w0 #[.slice A n c,.bool s,.slice B m d,.bool e];have x0:=z0.r0;have x1:=z0.r1;have x2:=z0.r2;have hva:=Pb _ L K k _ (ht.below z1) hl hk;go_enter Tryz.func24,Tryz.ntmps24;go_wp2_with fail;refine hva.mono ?_;rintro en w1 ⟨A1,c1,rfl,i1,h1,h2,b1⟩;go_wp2_with fail;go_ret
 exact ⟨A1,c1,rfl,i1,h1,h2,z1.next b1⟩
def Dx (e:Bool) (Z:Int):Bool:=if e then decide (Z=0) else decide (0<=Z)
theorem EI (v:Value) (L:List (Int×Int)) (K:Int) (e:Bool) (k kj:Nat) (VA:Option Addr) (vn vc:Nat) (ivs:List IV) (w0:World) (hv:JW w0 v L K e k) (hvs:CY w0 VA vn ivs kj) (hvn:vn<=9223372036854775807) (hl:L.length<=1099511) (hk:k<=1099511627) (hkj:kj<=1099511627) :
   Calls Tryz.prog 10 #[v,.slice VA vn vc] w0 (fun en w'=>en=.returned (.bool (Dx e (K+val (nums ivs) L)))/\Below w0.heap.size w0 w'):=by
 obtain ⟨A,n,c,s,B,m,d,rfl,ht⟩:=hv;obtain ⟨z0,z1,-⟩:=AV 35 w0 #[.slice A n c,.bool s,.slice B m d,.bool e];have x0:=z0.r0;have x1:=z0.r1;have x2:=z0.r2;have hva:=Ni _ L K k kj VA vn vc ivs _ (ht.below z1) (hvs.below z1) hvn hl hk hkj;generalize hZ:K+val (nums ivs) L=Z at hva ⊢;clear hZ;go_enter Tryz.func10,Tryz.ntmps10;go_wp2_with fail;refine hva.mono ?_;rintro en w1 ⟨v1,rfl,r1,b1⟩;have hsg:=Cs v1 Z _ w1 r1.in_ (by omega);have Q1:=Ad (z0.next b1);have T1:=Ad (z1.next b1)
 clear hva x0 x1 x2 z0 z1 r1 b1;go_wp2_with fail;refine hsg.mono ?_;rintro en w2 ⟨rfl,b2⟩;have x3:=(Q1.out.next b2).r3;have T2:=T1.out.next b2;clear hsg;rcases Int.lt_trichotomy Z 0 with h|h|h
 · have h1:Z.sign=-1:=Int.sign_eq_neg_one_of_neg h;rw[h1];have e1:Dx e Z=false:=by
    unfold Dx;have a1:¬Z=0:=(by omega);have a2:¬0<=Z:=(by omega);cases e<;>simp[a1,a2]
   have HE:=Ad e1;clear h h1 e1;go_wp2_with fail;go_ret
   exact ⟨by rw[HE.out]<;>rfl,T2⟩
 · subst h;have e1:Dx e 0=true:=(by unfold Dx;cases e<;>simp);have HE:=Ad e1;rw[Int.sign_zero];clear e1;go_wp2_with fail;go_ret
   exact ⟨by rw[HE.out]<;>rfl,T2⟩
 · have h1:Z.sign=1:=Int.sign_eq_one_of_pos h;rw[h1];have e1:Dx e Z=!e:=by
    unfold Dx;have a1:¬Z=0:=(by omega);have a2:0<=Z:=(by omega);cases e<;>simp[a1,a2]
   have HE:=Ad e1;clear h h1 e1;go_wp2_with fail;all_goals
    go_ret
    exact ⟨by rw[HE.out]<;>rfl,T2⟩
end
end Go.Proofs.YtemfjdedjcjegaaGreatDoor
namespace Go.Proofs.YtemfjdedjcjegaaGreatDoor.Tm
section
def CP:Nat->List (Int×Int)->Nat
 |g,[]=>g
 |g,p::ps=>CP (Nat.gcd g p.2.natAbs) ps
theorem LS (g:Nat) (ps qs:List (Int×Int)):CP g (ps++qs)=CP (CP g ps) qs:=by
 induction ps generalizing g with
 |nil=>rfl
 |cons p ps ih=>rw[List.cons_append,CP,CP,ih]
theorem IE (g:Nat) (L:List (Int×Int)) (q:Nat) (u c:Int) (h:L[q]?=some (u,c)):CP g (L.take (q+1))=Nat.gcd (CP g (L.take q)) c.natAbs:=by rw[List.take_add_one,h,LS];rfl
def Ai (L:List (Int×Int)):Int:=(CP 0 (norm L):Nat)
theorem LU (ps:List (Int×Int)):∀g:Nat,CP g ps ∣ g/\∀p∈ps,CP g ps ∣ p.2.natAbs:=by
 induction ps with
 |nil=>intro g;exact ⟨Nat.dvd_refl _,fun p hp=>by cases hp⟩
 |cons p ps ih=>
  intro g;obtain ⟨h1,h2⟩:=ih (Nat.gcd g p.2.natAbs);refine ⟨Nat.dvd_trans h1 (Nat.gcd_dvd_left _ _),fun x hx=>?_⟩;rcases List.mem_cons.1 hx with rfl|hx
  · exact Nat.dvd_trans h1 (Nat.gcd_dvd_right _ _)
  · exact h2 x hx
theorem Nj (m:Nat) (ps:List (Int×Int)):∀a:Nat,CP (m*a) (ps.map fun p=>(p.1,(m:Int)*p.2))=m*CP a ps:=by
 induction ps with
 |nil=>intro a;rfl
 |cons p ps ih=>
  intro a;rw[List.map_cons,CP,CP,<-ih];dsimp only
  rw[Int.natAbs_mul,Int.natAbs_natCast,Nat.gcd_mul_left]
theorem CZ {L:List (Int×Int)}:Ai L=0↔norm L=[]:=by
 constructor
 · intro h;have hp:=BZ L;unfold Ai at h;cases hn:norm L with
   |nil=>rfl
   |cons p ps=>
    exfalso;obtain ⟨u,c⟩:=p;rw[hn]at h hp;have h1:=(LU ((u,c)::ps) 0).2 (u,c) (by simp);have h0:CP 0 ((u,c)::ps)=0:=(by omega);rw[h0]at h1;have h2:=Nat.eq_zero_of_zero_dvd h1;exact hp.2.1 (Int.natAbs_eq_zero.1 h2)
 · intro h;unfold Ai;rw[h];rfl
def Cm (g:Int) (ps:List (Int×Int)):List (Int×Int):=ps.map fun p=>(p.1,p.2.fdiv g)
theorem JY {g:Int} (hg:g≠0) (ps:List (Int×Int)) (h:∀p∈ps,g ∣ p.2):(Cm g ps).map (fun p=>(p.1,g*p.2))=ps:=by
 unfold Cm;rw[List.map_map];conv=>rhs;rw[<-List.map_id ps]
 apply List.map_congr_left;intro p hp;obtain ⟨t,ht⟩:=h p hp;obtain ⟨u,c⟩:=p;dsimp only at ht
 simp only[Function.comp,id];rw[ht,Int.mul_fdiv_cancel_left _ hg]
theorem IF {n:Int} {b:Int} {ps:List (Int×Int)} (h:Bv b (ps.map fun p=>(p.1,n*p.2))):Bv b ps:=by
 induction ps generalizing b with
 |nil=>trivial
 |cons p ps ih=> obtain ⟨u,c⟩:=p;obtain ⟨h1,h2,h3⟩:=h;exact ⟨h1,fun hc=>h2 (by dsimp only at *;rw[hc,Int.mul_zero]),ih h3⟩
theorem GU (L:List (Int×Int)):∀p∈norm L,Ai L ∣ p.2:=fun p hp=>by
 have h:=(LU (norm L) 0).2 p hp;exact Int.ofNat_dvd_left.2 h
theorem IG (L:List (Int×Int)) (h:Ai L≠0):norm (Cm (Ai L) (norm L))=Cm (Ai L) (norm L):=
 KA (IF (n:=Ai L) (by rw[JY h _ (GU L)];exact BZ L))
theorem KF (L:List (Int×Int)) (h:Ai L≠0):Ai (Cm (Ai L) (norm L))=1:=by
 have h1:=Nj (CP 0 (norm L)) (Cm (Ai L) (norm L)) 0;rw[Nat.mul_zero]at h1;have h2:=JY h (norm L) (GU L);unfold Ai at h2;unfold Ai at h1;rw[h2]at h1;unfold Ai;have h3:=IG L h;unfold Ai at h3;rw[h3];have h0:CP 0 (norm L)≠0:=by intro hh;apply h;unfold Ai;rw[hh];rfl
 generalize CP 0 (Cm (↑(CP 0 (norm L))) (norm L))=x at *;generalize CP 0 (norm L)=g at *;have h4:x=1:=by
  have h5:g*x=g*1:=by omega
  exact Nat.eq_of_mul_eq_mul_left (by omega) h5
 rw[h4];rfl
def AD (v:Int):List Int->Option Nat
  |[]=>none
  |x::xs=>if x=v then some 0 else (AD v xs).map (·+1)
theorem KG (x v:Int) (us:List Int):AD x (us++[v])=match AD x us with|some i=>some i|none=>if v=x then some us.length else none:=by
 induction us with
 |nil=>simp[AD]
 |cons u us ih=>
  rw[List.cons_append,AD,AD,ih];by_cases h:u=x
  · simp[h]
  · simp only[if_neg h];cases AD x us with
    |some i=>rfl
    |none=>
     by_cases h2:v=x
     · simp[h2]
     · simp[h2]
theorem Nk (v:Int) (us:List Int) (i:Nat) (h:AD v us=some i):i<us.length:=by
 induction us generalizing i with
 |nil=>simp[AD]at h
 |cons u us ih=>
  unfold AD at h;split at h
  · injection h with h;subst h;simp
  · cases hx:AD v us with
    |none=>rw[hx]at h;simp at h
    |some k=> rw[hx]at h;simp at h;have:=ih k hx;simp;omega
def place (vs:List Int) (ts:List (List (Int×Int)×Int)) (v:Int):List (Int×Int)×Int:=
 match AD v vs with
 |some i=>ts.getD i ([(v,1)],0)
 |none=>([(v,1)],0)
def DY (vs:List Int) (ts:List (List (Int×Int)×Int)):List (Int×Int)->List (Int×Int)
 |[]=>[]
 |p::ps=>((place vs ts p.1).1.map fun r=>(r.1,p.2*r.2))++DY vs ts ps
def Dq (vs:List Int) (ts:List (List (Int×Int)×Int)):List (Int×Int)->Int
 |[]=>0
 |p::ps=>p.2*(place vs ts p.1).2+Dq vs ts ps
theorem LV (vs:List Int) (ts:List (List (Int×Int)×Int)) (ps qs:List (Int×Int)):DY vs ts (ps++qs)=DY vs ts ps++DY vs ts qs:=by
 induction ps with
 |nil=>rfl
 |cons p ps ih=>rw[List.cons_append,DY,DY,ih,List.append_assoc]
theorem LW (vs:List Int) (ts:List (List (Int×Int)×Int)) (ps qs:List (Int×Int)):Dq vs ts (ps++qs)=Dq vs ts ps+Dq vs ts qs:=by
 induction ps with
 |nil=>simp[Dq]
 |cons p ps ih=>rw[List.cons_append,Dq,Dq,ih,Int.add_assoc]
end
end Go.Proofs.YtemfjdedjcjegaaGreatDoor.Tm
namespace Go.Proofs.YtemfjdedjcjegaaGreatDoor
section
open Go.RowKit
theorem KH {Z Y q r:Int} (h:r+Y*q=Z) (hr:(0<=r/\r<Y)\/(Y<r/\r<=0)):Z.fdiv Y=q/\Z.fmod Y=r:=by
 rcases hr with ⟨h1,h2⟩|⟨h1,h2⟩
 · exact (Int.fdiv_fmod_unique (by omega)).2 ⟨h,h1,h2⟩
 · exact (Int.fdiv_fmod_unique' (by omega)).2 ⟨h,h1,h2⟩
theorem Pd (Z Y:Int) (hY:Y≠0):Z.fmod Y+Y*Z.fdiv Y=Z/\((0<=Z.fmod Y/\Z.fmod Y<Y)\/(Y<Z.fmod Y/\Z.fmod Y<=0)):=by
 rcases Int.lt_trichotomy Y 0 with hn|h0|hp
 · have h:=(Int.fdiv_fmod_unique' hn (a:=Z)).1 ⟨rfl,rfl⟩;exact ⟨h.1,Or.inr h.2⟩
 · exact absurd h0 hY
 · have h:=(Int.fdiv_fmod_unique hp (a:=Z)).1 ⟨rfl,rfl⟩;exact ⟨h.1,Or.inl h.2⟩
theorem JZ (s:Bool) (N M:Nat) (hM:0<M):(sg s N).fdiv (sg s M)=sg false (N/M)/\(sg s N).fmod (sg s M)=sg s (N%M):=by
 have h1:=Nat.div_add_mod N M;have h2:=Nat.mod_lt N hM;have h3:(M:Int)*((N/M:Nat):Int)+((N%M:Nat):Int)=(N:Int):=by rw[<-Int.natCast_mul,<-Int.natCast_add,h1]
 generalize N/M=Q at *;generalize N%M=R at *;refine KH ?_ ?_<;>cases s<;>simp only[sg,if_true,if_false,Bool.false_eq_true,Int.neg_mul]<;>generalize (M:Int)*(Q:Int)=P at*<;> omega
theorem Ka (s t:Bool) (N M:Nat) (hst:s≠t) (hM:0<M) (h0:N%M=0):(sg s N).fdiv (sg t M)=sg true (N/M)/\(sg s N).fmod (sg t M)=0:=by
 have h1:=Nat.div_add_mod N M;have h3:(M:Int)*((N/M:Nat):Int)+((N%M:Nat):Int)=(N:Int):=by rw[<-Int.natCast_mul,<-Int.natCast_add,h1]
 rw[h0]at h3;generalize N/M=Q at *;refine KH ?_ ?_<;>cases s<;>cases t<;>simp only[sg,if_true,if_false,Bool.false_eq_true,Int.neg_mul,Int.mul_neg,Int.neg_neg,ne_eq,not_true_eq_false] at*<;> generalize (M:Int)*(Q:Int)=P at*<;> omega
theorem QM (s t:Bool) (N M:Nat) (hst:s≠t) (hM:0<M) (h0:0<N%M):(sg s N).fdiv (sg t M)=sg true (N/M)-1/\(sg s N).fmod (sg t M)=sg s (N%M)+sg t M:=by
 have h1:=Nat.div_add_mod N M;have h2:=Nat.mod_lt N hM;have h3:(M:Int)*((N/M:Nat):Int)+((N%M:Nat):Int)=(N:Int):=by rw[<-Int.natCast_mul,<-Int.natCast_add,h1]
 generalize N/M=Q at *;generalize N%M=R at *;refine KH ?_ ?_<;>cases s<;>cases t<;>simp only[sg,if_true,if_false,Bool.false_eq_true,Int.neg_mul,Int.mul_neg,Int.neg_neg,Int.mul_sub,Int.mul_one,Int.sub_neg,ne_eq,not_true_eq_false,reduceCtorEq,not_false_eq_true] at*<;> generalize (M:Int)*(Q:Int)=P at*<;> omega
def UJ (Z Y:Int):Int:=-((-Z).fdiv Y)
def UK (Z Y:Int):Int:=if Y<=2*Z.fmod Y then Z.fmod Y-Y else Z.fmod Y
theorem Nl (Z Y:Int) (k:Nat) (h:Z.natAbs<4294967296^k):(Z.fdiv Y).natAbs<4294967296^k:=Nat.lt_of_le_of_lt (Int.natAbs_fdiv_le_natAbs Z Y) h
theorem Nm (Z Y:Int) (k:Nat) (hY:Y≠0) (h:Y.natAbs<4294967296^k):(Z.fmod Y).natAbs<4294967296^k:=by obtain ⟨-,h2⟩:=Pd Z Y hY;exact Nat.lt_of_le_of_lt (by omega) h
end
end Go.Proofs.YtemfjdedjcjegaaGreatDoor
