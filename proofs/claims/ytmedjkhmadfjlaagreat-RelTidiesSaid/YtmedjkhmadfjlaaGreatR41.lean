/- Texts of one seat, put together: TidyF. -/
import Derived.Test.YtmedjkhmadfjlaaGreatR37
set_option linter.unusedVariables false
set_option linter.unusedSimpArgs false
set_option maxRecDepth 100000
set_option maxHeartbeats 16000000
namespace Go.Proofs.YtmedjkhmadfjlaaGreat
section
open Go.RowKit
open Tm
def NC (A:Option Addr) (n c:Nat) (bs:List BV) (k:Nat) (w:World) (e:Ending) (w':World):Prop:=
 ∃qs rs:List BV,∃v:Value,e=.returned v/\qs.Perm bs/\CF (qs.map BV.bd)/\rs.map BV.bd=Ci (qs.map BV.bd)/\LN 54 9 w' w.heap.size v rs.length (Bc rs)/\(∀r∈rs,CN w' r k)/\Kt w w'/\w.grownBy w' (Value.slice A n c).ownBlock
def Mw (w1:World) (qs:List BV) (k:Nat) (q:Nat) (rv:Value) (wr:World):Prop:=
 ∃rs:List BV,LN 54 9 wr w1.heap.size rv rs.length (Bc rs)/\rs.map BV.bd=Ci ((qs.take q).map BV.bd)/\(∀r∈rs,CN wr r k)/\Below w1.heap.size w1 wr/\rs.length<=q
theorem Ky {qs:List BV} {q:Nat} {b:BV} (h:qs[q]?=some b):Ci ((qs.take (q+1)).map BV.bd)=pushB (Ci ((qs.take q).map BV.bd)) b.bd:=by rw[List.take_add_one,h,List.map_append];exact O6 _ _
theorem IC {w1 W w':World} {qs rs:List BV} {b:BV} {k q p:Nat} {v v':Value} (hb:qs[q]?=some b) (hrd:rs.map BV.bd=Ci ((qs.take q).map BV.bd)) (hne:∀x,rs.getLast?=some x->x.S≠b.S) (hp:rs.length=p) (hpq:p<=q)
   (hl0:LN 54 9 W w1.heap.size v p (Bc rs)) (hr:∀r∈rs,CN W r k) (hbb:CN W b k) (hbw:Below w1.heap.size w1 W) (h1:LN 54 9 w' w1.heap.size v' (p+1) (Bc (rs++[b]))) (h2:Tn v.ownBlock W w'):Mw w1 qs k (q+1) v' w':=by
 subst hp;refine ⟨rs++[b],by rw[List.length_append];exact h1,?_,?_,hl0.lrow.old hbw h2.1 (Nat.le_refl _) (Nat.le_refl _),by simp;omega⟩
 · rw[Ky hb,<-hrd,List.map_append];rcases List.eq_nil_or_concat rs with h|⟨r',x,h⟩
   · subst h;rfl
   · rw[List.concat_eq_append]at h;subst h;rw[List.map_append];show _=pushB (r'.map BV.bd++[x.bd]) b.bd;rw[Dj,if_neg (show ¬x.bd.S=b.bd.S from hne x (by simp))];rfl
 · intro r hm;rcases List.mem_append.1 hm with hm|hm
   · exact (hr r hm).kt h2.2
   · rw[List.mem_singleton]at hm;subst hm;exact hbb.kt h2.2
theorem SQ {w1 W w':World} {qs r':List BV} {x y b:BV} {k q g n c:Nat} (hb:qs[q]?=some b) (hrd:(r'++[x]).map BV.bd=Ci ((qs.take q).map BV.bd)) (he:x.S=b.S) (hpq:r'.length+1<=q) (hn:n=r'.length+1)
   (hl0:LN 54 9 W w1.heap.size (.slice (some ⟨g,0,none⟩) n c) n (Bc (r'++[x]))) (hr:∀r∈r'++[x],CN W r k) (hy:CN W y k) (hyb:y.bd=Dy x.bd b.bd) (hbw:Below w1.heap.size w1 W) (hg:w1.heap.size<=g)
   (h1:LN 54 9 w' w1.heap.size (.slice (some ⟨g,0,none⟩) n c) n (Bc (r'++[y]))) (ho:AA g W w'):Mw w1 qs k (q+1) (.slice (some ⟨g,0,none⟩) n c) w':=by
 subst hn;have kt:=Kt.ni hl0.nib ho;refine ⟨r'++[y],by rw[List.length_append];exact h1,?_,?_,hbw.trans (ho.below hbw.size hg),by simp;omega⟩
 · rw[Ky hb,<-hrd,List.map_append,List.map_append];show _=pushB (r'.map BV.bd++[x.bd]) b.bd;rw[Dj,if_pos (show x.bd.S=b.bd.S from he)];rw[show [y].map BV.bd=[y.bd] from rfl,hyb]
 · intro r hm;rcases List.mem_append.1 hm with hm|hm
   · exact (hr r (List.mem_append.2 (.inl hm))).kt kt
   · rw[List.mem_singleton]at hm;subst hm;exact hy.kt kt
theorem BR.base {Pt:List Value->Prop} {T:TypeId} {sz:Nat} {w:World} {base B n:Nat} {v:Value} {xs:List Value} (h:BR Pt T sz w base v n xs) (hB:B<=base):BR Pt T sz w B v n xs:=
 ⟨h.1,h.2.imp id fun ⟨g,cap,cur,e1,e2,e3⟩=>⟨g,cap,cur,e1,Nat.le_trans hB e2,e3⟩⟩
theorem OM {a b c:World} {row:Option Nat} (h:a.grownBy b row) (k:Below b.heap.size b c):a.grownBy c row:=
 ⟨k.os.trans h.os,k.tape.trans h.tape,k.output.trans h.output,Nat.le_trans h.size k.size,fun j hj hne=>(k.block j (Nat.lt_of_lt_of_le hj h.size)).trans (h.block j hj hne)⟩
theorem Un {S T:List (Int×Int)} {B:Bool} (h1:norm S=S) (h2:norm T=T) (hB:B=decide (S=T)):(.bool (Hl S T 0 0==0):Value)=.bool B:=by
 rw[hB];congr 1
 unfold Hl E4;rw[h1,h2];by_cases h:S=T
 · subst h;rw[Dd.refl];simp[AP]
 · have:cmpL S T≠0:=fun h0=>h (DK.1 h0)
   rw[if_pos this];simp[this,h]
theorem ND {w1:World} {k q:Nat} {qs rs:List BV} (hq:∀b∈qs,CN w1 b k/\b.S.length<=100000/\norm b.S=b.S) (hrd:rs.map BV.bd=Ci ((qs.take q).map BV.bd)):∀r∈rs,r.S.length<=100000/\norm r.S=r.S:=by
 have h:=Gq (bs:=(qs.take q).map BV.bd) (fun c=>c.S.length<=100000/\norm c.S=c.S) (fun x y hx _ _=>hx) (fun c hc=>by
  obtain ⟨b,hb,rfl⟩:=List.mem_map.1 hc;exact (hq b (List.mem_of_mem_take hb)).2)
 intro r hr;exact h r.bd (hrd▸List.mem_map.2 ⟨r,hr,rfl⟩)
theorem BR.cur {T:TypeId} {sz:Nat} {w:World} {base g n c:Nat} {xs:List Value} (h:LN T sz w base (.slice (some ⟨g,0,none⟩) n c) n xs):∃cur,w.heap[g]?=some (.cells cur T (0,0))/\cur.size=c*sz/\n<=c:=by
 rcases h.2 with ⟨hv,-⟩|⟨g',cap,cur,hv,hb,hh,h1,h2,h3,h4,h5,h6⟩
 · cases hv
 · injection hv with e1 e2 e3
   injection e1 with e1
   injection e1 with e1
   subst e1 e3;exact ⟨cur,hh,h3,h1⟩
theorem ON (base:Nat) (A:Option Addr) (n c k:Nat) (bs:List BV) (w0:World) (h:LN 54 9 w0 base (.slice A n c) n (Bc bs)) (hn:n<=100000) (hb:∀b∈bs,CN w0 b k/\b.S.length<=100000/\norm b.S=b.S) (hk:k<=100000) :
  Calls Tryz.prog 21 #[.slice A n c] w0 (NC A n c bs k w0):=by
 have hs:=KY base A n c k bs w0 h (by omega) (fun b hm=>⟨(hb b hm).1,Nat.le_trans (hb b hm).2.1 (by decide),(hb b hm).2.2⟩) (by omega);have hcap:n<=c/\c<=9223372036854775807:=by
  obtain ⟨A',c',e,h1,h2,-⟩:=h.lrow.len;injection e with e1 e2 e3
  subst e3;exact ⟨h1,h2⟩
 have hbn:bs.length=n:=by have:=h.1;rw[Es]at this;omega
 have HBS:=Ac hb;have HH:=Ac h;clear h hb;go_enter Tryz.func21,Tryz.ntmps21;go_wp2_with fail;refine hs.mono ?_;rintro e w1 ⟨rfl,qs,hp,hl,hsb,kt,hg⟩;have HP:=Ac hp;have HSB:=Ac hsb;have HKT:=Ac kt;have HG:=Ac hg;have HL:=Ac hl;have HQ:=Ac (show ∀b∈qs,CN w1 b k/\b.S.length<=100000/\norm b.S=b.S from fun b hm=>⟨((HBS.out b (hp.mem_iff.1 hm)).1).kt kt,(HBS.out b (hp.mem_iff.1 hm)).2⟩);have hqn:qs.length=n:=by rw[hp.length_eq,hbn]
 have HQN:=Ac hqn;clear hs hp hsb kt hg hl hqn hbn HBS HH;go_wp2_with fail;go_loopw [3,11] (fun rv i wr=>∃(q:Nat) (rl:Value),q<=n/\i=.int .i64 q/\rl=rv/\Hid (Mw w1 qs k q rl wr)) (fun _ i _=>n-(intOf i).toNat)
 case atStart=>exact ⟨0,_,Nat.zero_le _,rfl,rfl,[],BR.nil _ _ _ _ _,rfl,(fun r hr=>by cases hr),Below.refl _ _,Nat.le_refl _⟩
 case round=>
  obtain ⟨q,rl,hq,rfl,rfl,HR⟩:=hrel;by_cases hqn:q<n
  · have g1:(q:Int)<(n:Int):=(by omega);obtain ⟨b,hb⟩:∃b,qs[q]?=some b:=⟨_,List.getElem?_eq_getElem (by have:=HQN.out;omega)⟩;obtain ⟨rs,hlr,hrd,hrr,hbw,hrq⟩:=HR.out;obtain ⟨g,hgA,-,hlt,hc⟩:=HL.out.lrow.cell (by omega);subst hgA;have HB:=Ac hb;have z0:wr.cell? ⟨g,q*9+0,none⟩=some (.slice b.A b.n b.c):=(Below.cell hbw (p:=⟨g,q*9+0,none⟩) hlt).trans (hc (q*9+0) _ (Bj qs q b hb 0 _ rfl)).1
    have z1:wr.cell? ⟨g,q*9+1,none⟩=some (.bool b.s):=(Below.cell hbw (p:=⟨g,q*9+1,none⟩) hlt).trans (hc (q*9+1) _ (Bj qs q b hb 1 _ rfl)).1;have z2:wr.cell? ⟨g,q*9+2,none⟩=some (.slice b.B b.m b.d):=(Below.cell hbw (p:=⟨g,q*9+2,none⟩) hlt).trans (hc (q*9+2) _ (Bj qs q b hb 2 _ rfl)).1;have z3:wr.cell? ⟨g,q*9+3,none⟩=some (.bool b.lo.g):=(Below.cell hbw (p:=⟨g,q*9+3,none⟩) hlt).trans (hc (q*9+3) _ (Bj qs q b hb 3 _ rfl)).1
    have z4:wr.cell? ⟨g,q*9+4,none⟩=some (.bool b.lo.s):=(Below.cell hbw (p:=⟨g,q*9+4,none⟩) hlt).trans (hc (q*9+4) _ (Bj qs q b hb 4 _ rfl)).1;have z5:wr.cell? ⟨g,q*9+5,none⟩=some (.slice b.lo.B b.lo.m b.lo.d):=(Below.cell hbw (p:=⟨g,q*9+5,none⟩) hlt).trans (hc (q*9+5) _ (Bj qs q b hb 5 _ rfl)).1;have z6:wr.cell? ⟨g,q*9+6,none⟩=some (.bool b.hi.g):=(Below.cell hbw (p:=⟨g,q*9+6,none⟩) hlt).trans (hc (q*9+6) _ (Bj qs q b hb 6 _ rfl)).1
    have z7:wr.cell? ⟨g,q*9+7,none⟩=some (.bool b.hi.s):=(Below.cell hbw (p:=⟨g,q*9+7,none⟩) hlt).trans (hc (q*9+7) _ (Bj qs q b hb 7 _ rfl)).1;have z8:wr.cell? ⟨g,q*9+8,none⟩=some (.slice b.hi.B b.hi.m b.hi.d):=(Below.cell hbw (p:=⟨g,q*9+8,none⟩) hlt).trans (hc (q*9+8) _ (Bj qs q b hb 8 _ rfl)).1;simp only[Nat.add_zero]at z0;have HLR:=Ac hlr;have HRD:=Ac hrd;have HRR:=Ac hrr;have HBW:=Ac hbw
    have HBB:=Ac (show CN wr b k/\b.S.length<=100000/\norm b.S=b.S from ⟨(HQ.out b (List.mem_of_getElem? hb)).1.below hbw,(HQ.out b (List.mem_of_getElem? hb)).2⟩);clear hb hrd hrr hbw hc hlt HR;obtain ⟨A',c',hv,hnc',hc2',-⟩:=hlr.lrow.len;subst hv;clear hlr;go_upto_region 7 with fail;generalize hpl:rs.length=p at *;have HPL:=Ac hpl;clear hpl z0 z1 z2 z3 z4 z5 z6 z7 z8
    have XB:=Ac (AK.new 54 wr #[.slice b.A b.n b.c,.bool b.s,.slice b.B b.m b.d,.bool b.lo.g,.bool b.lo.s,.slice b.lo.B b.lo.m b.lo.d,.bool b.hi.g,.bool b.hi.s,.slice b.hi.B b.hi.m b.hi.d]);have HY:=Ac (Af wr (.cells #[.slice b.A b.n b.c,.bool b.s,.slice b.B b.m b.d,.bool b.lo.g,.bool b.lo.s,.slice b.lo.B b.lo.m b.lo.d,.bool b.hi.g,.bool b.hi.s,.slice b.hi.B b.hi.m b.hi.d] 54))
    generalize hW:(wr.alloc (.cells #[.slice b.A b.n b.c,.bool b.s,.slice b.B b.m b.d,.bool b.lo.g,.bool b.lo.s,.slice b.lo.B b.lo.m b.lo.d,.bool b.hi.g,.bool b.hi.s,.slice b.hi.B b.hi.m b.hi.d] 54))=W0 at *;clear hW;have HLR0:=Ac (HLR.out.below HY.out);have HRR0:=Ac (show ∀r∈rs,CN W0 r k from fun r hr=>(HRR.out r hr).below HY.out);have HBB0:=Ac (HBB.out.1.below HY.out);have HBW0:=Ac (HBW.out.trans (HY.out.mono HBW.out.size));have HBS:=Ac HBB.out.2
    have HXP:=Ac (show ∀r∈rs,r.S.length<=100000/\norm r.S=r.S from ND HQ.out HRD.out);clear HLR HRR HBB HBW HY;generalize wr.heap.size=gx at *;cases p with
    |zero=>
     rw[show (((0:Nat):Int)-1)=-1 from rfl];have SOF:=Ac (show ∀W,Below W0.heap.size W0 W->True from fun _ _=>trivial);refine AO (by kernel_rfl) (by kernel_rfl) (by kernel_rfl) (fun w w'=>Below w.heap.size w w') (fun j v w=>match j with|0=>v=.int .i64 (-1)|1=>v=.bool false|2=>v=.bool false|3=>v=undef|4=>v=undef|5=>v=undef|6=>v=undef|7=>v=undef|8=>v=undef|9=>v=undef|10=>v=undef|11=>v=.bool false|_=>True) (fun _ _ w=>Below W0.heap.size W0 w) ?_ (fun _=>Ap W0 1) ?_ ?_
     · intro j v w w' hT h;match j,h with
       |0,h=>exact h
       |1,h=>exact h
       |2,h=>exact h
       |3,h=>exact h
       |4,h=>exact h
       |5,h=>exact h
       |6,h=>exact h
       |7,h=>exact h
       |8,h=>exact h
       |9,h=>exact h
       |10,h=>exact h
       |11,h=>exact h
       |j+12,h=>trivial
     · refine ⟨?_,?_,?_,?_,?_,?_,?_,?_,?_,?_,?_,?_,trivial⟩
       · intro l9 σ w a hin hout hl hc hp hG hF;refine Ad.none rfl ?_;have e6:a.tmps.getD 6 undef=.int .i64 (-1):=hout 6 (Ae (by kernel_rfl));refine Does.val (.int .i64 (-1)) (w':=w) ?_ ⟨Below.refl _ _,rfl,hG⟩;simp only[Array.getD_eq_getD_getElem?]at e6;go_simp
       · intro l9 σ w a hin hout hl hc hp hG hF;refine Ad.none rfl ?_;have e18:a.tmps.getD 18 undef=.int .i64 (-1):=Am (hin 0 18) rfl (hp ⟨0,.data⟩ (by simp) rfl) (hF 0);refine Does.val (.bool false) (w':=w) ?_ ⟨Below.refl _ _,rfl,hG⟩;simp only[Array.getD_eq_getD_getElem?]at e18;go_simp
       · intro l9 σ w a hin hout hl hc hp hG hF;refine Ad.none rfl ?_;have e19:a.tmps.getD 19 undef=.bool false:=Am (hin 1 19) rfl (hp ⟨1,.data⟩ (by simp) rfl) (hF 1);refine Does.val (.bool false) (w':=w) ?_ ⟨Below.refl _ _,rfl,hG⟩;simp only[Array.getD_eq_getD_getElem?]at e19;go_simp
       · intro l9 σ w a hin hout hl hc hp hG hF;refine Ad.some (d:=20) (b:=false) rfl rfl (Am (hin 2 20) rfl (hp ⟨2,.guard⟩ (by simp) rfl) (hF 2)) ?_;exact Or.inr ⟨(fun h=>by cases h),Below.refl _ _,rfl,hG⟩
       · intro l9 σ w a hin hout hl hc hp hG hF;refine Ad.some (d:=20) (b:=false) rfl rfl (Am (hin 2 20) rfl (hp ⟨2,.guard⟩ (by simp) rfl) (hF 2)) ?_;exact Or.inr ⟨(fun h=>by cases h),Below.refl _ _,rfl,hG⟩
       · intro l9 σ w a hin hout hl hc hp hG hF;refine Ad.some (d:=20) (b:=false) rfl rfl (Am (hin 2 20) rfl (hp ⟨2,.guard⟩ (by simp) rfl) (hF 2)) ?_;exact Or.inr ⟨(fun h=>by cases h),Below.refl _ _,rfl,hG⟩
       · intro l9 σ w a hin hout hl hc hp hG hF;refine Ad.some (d:=20) (b:=false) rfl rfl (Am (hin 2 20) rfl (hp ⟨2,.guard⟩ (by simp) rfl) (hF 2)) ?_;exact Or.inr ⟨(fun h=>by cases h),Below.refl _ _,rfl,hG⟩
       · intro l9 σ w a hin hout hl hc hp hG hF;refine Ad.some (d:=20) (b:=false) rfl rfl (Am (hin 2 20) rfl (hp ⟨2,.guard⟩ (by simp) rfl) (hF 2)) ?_;exact Or.inr ⟨(fun h=>by cases h),Below.refl _ _,rfl,hG⟩
       · intro l9 σ w a hin hout hl hc hp hG hF;refine Ad.some (d:=20) (b:=false) rfl rfl (Am (hin 2 20) rfl (hp ⟨2,.guard⟩ (by simp) rfl) (hF 2)) ?_;exact Or.inr ⟨(fun h=>by cases h),Below.refl _ _,rfl,hG⟩
       · intro l9 σ w a hin hout hl hc hp hG hF;refine Ad.some (d:=20) (b:=false) rfl rfl (Am (hin 2 20) rfl (hp ⟨2,.guard⟩ (by simp) rfl) (hF 2)) ?_;exact Or.inr ⟨(fun h=>by cases h),Below.refl _ _,rfl,hG⟩
       · intro l9 σ w a hin hout hl hc hp hG hF;refine Ad.some (d:=20) (b:=false) rfl rfl (Am (hin 2 20) rfl (hp ⟨2,.guard⟩ (by simp) rfl) (hF 2)) ?_;exact Or.inr ⟨(fun h=>by cases h),Below.refl _ _,rfl,hG⟩
       · intro l9 σ w a hin hout hl hc hp hG hF;refine Ad.none rfl ?_;have e20:a.tmps.getD 20 undef=.bool false:=Am (hin 2 20) rfl (hp ⟨2,.data⟩ (by simp) rfl) (hF 2);have e28:a.tmps.getD 28 undef=undef:=Am (hin 10 28) rfl (hp ⟨10,.data⟩ (by simp) rfl) (hF 10);refine Does.val (.bool false) (w':=w) ?_ ⟨Below.refl _ _,rfl,hG⟩;simp only[Array.getD_eq_getD_getElem?]at e20 e28;go_simp
     · intro l9 σ W9 hall hG hF;rw[show mid _ σ l9 _=(Act.put (Act.put (Act.put (Act.put (Act.put (Act.put (Act.put (Act.put (Act.put (Act.put (Act.put (Act.put _ (some 18) (σ 0)) (some 19) (σ 1)) (some 20) (σ 2)) (some 21) (σ 3)) (some 22) (σ 4)) (some 23) (σ 5)) (some 24) (σ 6)) (some 25) (σ 7)) (some 26) (σ 8)) (some 27) (σ 9)) (some 28) (σ 10)) (some 29) (σ 11)) from (AU hall).trans rfl];generalize σ 0=tt0;generalize σ 1=tt1;generalize σ 2=tt2;generalize σ 3=tt3
       generalize σ 4=tt4;generalize σ 5=tt5;generalize σ 6=tt6;generalize σ 7=tt7;generalize σ 8=tt8;generalize σ 9=tt9;generalize σ 10=tt10;rw[show σ 11=.bool false from hF 11 (by decide)];simp only[Act.put,List.setIfInBounds_toArray,List.set_cons_zero,List.set_cons_succ];have TG:=hG;clear hF hG hall;clear σ;have x0:W9.cell? ⟨gx,0,none⟩=some (.slice b.A b.n b.c):=(XB.out.next TG).cell 0 _ rfl;have x1:W9.cell? ⟨gx,1,none⟩=some (.bool b.s):=(XB.out.next TG).cell 1 _ rfl
       have x2:W9.cell? ⟨gx,2,none⟩=some (.slice b.B b.m b.d):=(XB.out.next TG).cell 2 _ rfl;have x3:W9.cell? ⟨gx,3,none⟩=some (.bool b.lo.g):=(XB.out.next TG).cell 3 _ rfl;have x4:W9.cell? ⟨gx,4,none⟩=some (.bool b.lo.s):=(XB.out.next TG).cell 4 _ rfl;have x5:W9.cell? ⟨gx,5,none⟩=some (.slice b.lo.B b.lo.m b.lo.d):=(XB.out.next TG).cell 5 _ rfl;have x6:W9.cell? ⟨gx,6,none⟩=some (.bool b.hi.g):=(XB.out.next TG).cell 6 _ rfl
       have x7:W9.cell? ⟨gx,7,none⟩=some (.bool b.hi.s):=(XB.out.next TG).cell 7 _ rfl;have x8:W9.cell? ⟨gx,8,none⟩=some (.slice b.hi.B b.hi.m b.hi.d):=(XB.out.next TG).cell 8 _ rfl;have HY2:=Ac (Af W9 (.cells #[.slice b.A b.n b.c,.bool b.s,.slice b.B b.m b.d,.bool b.lo.g,.bool b.lo.s,.slice b.lo.B b.lo.m b.lo.d,.bool b.hi.g,.bool b.hi.s,.slice b.hi.B b.hi.m b.hi.d] 54));have HROW:=Ac ((HLR0.out.below TG).below HY2.out)
       have HNW:=Ac (AK.new 54 W9 #[.slice b.A b.n b.c,.bool b.s,.slice b.B b.m b.d,.bool b.lo.g,.bool b.lo.s,.slice b.lo.B b.lo.m b.lo.d,.bool b.hi.g,.bool b.hi.s,.slice b.hi.B b.hi.m b.hi.d])
       have HBS2:=Ac (show w1.heap.size<=(W9.alloc (.cells #[.slice b.A b.n b.c,.bool b.s,.slice b.B b.m b.d,.bool b.lo.g,.bool b.lo.s,.slice b.lo.B b.lo.m b.lo.d,.bool b.hi.g,.bool b.hi.s,.slice b.hi.B b.hi.m b.hi.d] 54)).heap.size from Nat.le_trans HBW0.out.size (Nat.le_trans TG.size HY2.out.size))
       have HJ:=Ac (fun (v':Value) (w':World) (h1:LN 54 9 w' w1.heap.size v' (0+1) (Bc (rs++[b]))) (h2:Tn (Value.slice A' 0 c').ownBlock (W9.alloc (.cells #[.slice b.A b.n b.c,.bool b.s,.slice b.B b.m b.d,.bool b.lo.g,.bool b.lo.s,.slice b.lo.B b.lo.m b.lo.d,.bool b.hi.g,.bool b.hi.s,.slice b.hi.B b.hi.m b.hi.d] 54)) w')=>IC (k:=k) HB.out HRD.out (fun x hx=>by have h0:=List.length_eq_zero_iff.1 HPL.out;rw[h0]at hx;simp at hx) HPL.out hrq HROW.out (fun r hr=>((HRR0.out r hr).below TG).below HY2.out) ((HBB0.out.below TG).below HY2.out) ((HBW0.out.trans (TG.mono HBW0.out.size)).trans (HY2.out.mono (Nat.le_trans HBW0.out.size TG.size))) h1 h2)
       clear TG;go_wp2_with (at_builtin;refine CW rfl _ _ rfl rfl w1.heap.size _ _ rs rfl HROW.out ⟨W9.heap.size,0,none⟩ 1 1 rfl [b] rfl (fun jj u hu=>by rw[addr_add,Nat.zero_add];exact HNW.out.cell jj u (by simpa[Bc,BV.cells] using hu)) (by omega) (by omega) HBS2.out ?_;intro v' w' h1 h2;have HE:=Ac (HJ.out v' w' h1 h2);clear h1 h2);go_roundw
       case rel=>exact ⟨q+1,_,by omega,by go_num,rfl,HE.out⟩
       case measure=>simp[intOf]<;>omega
    |succ p=>
     obtain ⟨r',x,hrs⟩:∃r' x,rs=r'++[x]:=by
       rcases List.eq_nil_or_concat rs with h|⟨r',x,h⟩
       · have:=HPL.out;rw[h]at this;simp at this
       · exact ⟨r',x,by rw[h,List.concat_eq_append]⟩
     subst hrs;have hrl:r'.length=p:=(by have:=HPL.out;simp at this;exact this);have HRL:=Ac hrl;clear hrl;obtain ⟨g2,hg2,hbs2,hlt2,hc2⟩:=HLR0.out.lrow.cell (by omega);subst hg2;have HXC:=Ac (show ∀jj u,x.cells[jj]?=some u->W0.cell? ⟨g2,p*9+jj,none⟩=some u from fun jj u hu=>(hc2 _ _ (Bj (r'++[x]) p x (by rw[List.getElem?_append_right (by have:=HRL.out;omega)];simp[HRL.out]) jj u hu)).1);have HG2:=Ac (show w1.heap.size<=g2/\g2<W0.heap.size from ⟨hbs2,hlt2⟩)
     have HX:=Ac (show CN W0 x k from HRR0.out x (by simp));clear hc2 hbs2 hlt2;rw[show (((p+1:Nat):Int)-1)=(p:Int) from by omega];obtain ⟨BB,hBB⟩:∃BB:Bool,BB=decide (x.S=b.S):=⟨_,rfl⟩;have HBQ:=Ac hBB;clear hBB;have gp1:(0:Int)<=(p:Int):=(by omega);have gp2:(p:Int)<((p+1:Nat):Int):=(by omega);have HXS:=Ac (show x.S.length<=100000/\norm x.S=x.S from HXP.out x (by simp))
     have SOF:=Ac (show ∀W,Below W0.heap.size W0 W->(W.cell? ⟨gx,0,none⟩=some (.slice b.A b.n b.c)/\W.cell? ⟨gx,1,none⟩=some (.bool b.s)/\W.cell? ⟨gx,2,none⟩=some (.slice b.B b.m b.d)/\W.cell? ⟨g2,p*9,none⟩=some (.slice x.A x.n x.c)/\W.cell? ⟨g2,p*9+1,none⟩=some (.bool x.s)/\W.cell? ⟨g2,p*9+2,none⟩=some (.slice x.B x.m x.d)) from fun W h=>⟨(XB.out.next h).cell 0 _ rfl,(XB.out.next h).cell 1 _ rfl,(XB.out.next h).cell 2 _ rfl,(Below.cell h (p:=⟨g2,p*9,none⟩) HG2.out.2).trans (HXC.out 0 _ rfl),(Below.cell h (p:=⟨g2,p*9+1,none⟩) HG2.out.2).trans (HXC.out 1 _ rfl),(Below.cell h (p:=⟨g2,p*9+2,none⟩) HG2.out.2).trans (HXC.out 2 _ rfl)⟩)
     refine AO (by kernel_rfl) (by kernel_rfl) (by kernel_rfl) (fun w w'=>Below w.heap.size w w') (fun j v w=>match j with|0=>v=.int .i64 p|1=>v=.bool true|2=>v=.bool true|3=>v=.slice (some ⟨g2,0,none⟩) (p+1) c'|4=>v=.int .i64 p|5=>v=.pointer (some ⟨g2,p*9,none⟩)|6=>v=.pointer (some ⟨g2,p*9,none⟩)|7=>v=.agg #[.slice x.A x.n x.c,.bool x.s,.slice x.B x.m x.d]|8=>v=.pointer (some ⟨gx,0,none⟩)|9=>v=.agg #[.slice b.A b.n b.c,.bool b.s,.slice b.B b.m b.d]|10=>v=.bool BB|11=>v=.bool BB|_=>True) (fun _ _ w=>Below W0.heap.size W0 w) ?_ (fun _=>Ap W0 1) ?_ ?_
     · intro j v w w' hT h;match j,h with
       |0,h=>exact h
       |1,h=>exact h
       |2,h=>exact h
       |3,h=>exact h
       |4,h=>exact h
       |5,h=>exact h
       |6,h=>exact h
       |7,h=>exact h
       |8,h=>exact h
       |9,h=>exact h
       |10,h=>exact h
       |11,h=>exact h
       |j+12,h=>trivial
     · refine ⟨?_,?_,?_,?_,?_,?_,?_,?_,?_,?_,?_,?_,trivial⟩
       · intro l9 σ w a hin hout hl hc hp hG hF;refine Ad.none rfl ?_;have e6:a.tmps.getD 6 undef=.int .i64 p:=hout 6 (Ae (by kernel_rfl));refine Does.val (.int .i64 p) (w':=w) ?_ ⟨Below.refl _ _,rfl,hG⟩;simp only[Array.getD_eq_getD_getElem?]at e6;go_simp
       · intro l9 σ w a hin hout hl hc hp hG hF;refine Ad.none rfl ?_;have e18:a.tmps.getD 18 undef=.int .i64 p:=Am (hin 0 18) rfl (hp ⟨0,.data⟩ (by simp) rfl) (hF 0);refine Does.val (.bool true) (w':=w) ?_ ⟨Below.refl _ _,rfl,hG⟩;simp only[Array.getD_eq_getD_getElem?]at e18;go_simp
       · intro l9 σ w a hin hout hl hc hp hG hF;refine Ad.none rfl ?_;have e19:a.tmps.getD 19 undef=.bool true:=Am (hin 1 19) rfl (hp ⟨1,.data⟩ (by simp) rfl) (hF 1);refine Does.val (.bool true) (w':=w) ?_ ⟨Below.refl _ _,rfl,hG⟩;simp only[Array.getD_eq_getD_getElem?]at e19;go_simp
       · intro l9 σ w a hin hout hl hc hp hG hF;refine Ad.some (d:=20) (b:=true) rfl rfl (Am (hin 2 20) rfl (hp ⟨2,.guard⟩ (by simp) rfl) (hF 2)) ?_;refine Or.inl ⟨rfl,?_⟩;have e3:a.tmps.getD 3 undef=.slice (some ⟨g2,0,none⟩) (p+1) c':=hout 3 (Ae (by kernel_rfl));refine Does.val (.slice (some ⟨g2,0,none⟩) (p+1) c') (w':=w) ?_ ⟨Below.refl _ _,rfl,hG⟩;simp only[Array.getD_eq_getD_getElem?]at e3;go_simp
       · intro l9 σ w a hin hout hl hc hp hG hF;refine Ad.some (d:=20) (b:=true) rfl rfl (Am (hin 2 20) rfl (hp ⟨2,.guard⟩ (by simp) rfl) (hF 2)) ?_;refine Or.inl ⟨rfl,?_⟩;have e6:a.tmps.getD 6 undef=.int .i64 p:=hout 6 (Ae (by kernel_rfl));refine Does.val (.int .i64 p) (w':=w) ?_ ⟨Below.refl _ _,rfl,hG⟩;simp only[Array.getD_eq_getD_getElem?]at e6;go_simp
       · intro l9 σ w a hin hout hl hc hp hG hF;refine Ad.some (d:=20) (b:=true) rfl rfl (Am (hin 2 20) rfl (hp ⟨2,.guard⟩ (by simp) rfl) (hF 2)) ?_;refine Or.inl ⟨rfl,?_⟩;have e21:a.tmps.getD 21 undef=.slice (some ⟨g2,0,none⟩) (p+1) c':=Am (hin 3 21) rfl (hp ⟨3,.data⟩ (by simp) rfl) (hF 3);have e22:a.tmps.getD 22 undef=.int .i64 p:=Am (hin 4 22) rfl (hp ⟨4,.data⟩ (by simp) rfl) (hF 4);refine Does.val (.pointer (some ⟨g2,p*9,none⟩)) (w':=w) ?_ ⟨Below.refl _ _,rfl,hG⟩
         simp only[Array.getD_eq_getD_getElem?]at e21 e22;go_simp;(try (intro hh;exfalso;omega))
       · intro l9 σ w a hin hout hl hc hp hG hF;refine Ad.some (d:=20) (b:=true) rfl rfl (Am (hin 2 20) rfl (hp ⟨2,.guard⟩ (by simp) rfl) (hF 2)) ?_;refine Or.inl ⟨rfl,?_⟩;have e23:a.tmps.getD 23 undef=.pointer (some ⟨g2,p*9,none⟩):=Am (hin 5 23) rfl (hp ⟨5,.data⟩ (by simp) rfl) (hF 5);refine Does.val (.pointer (some ⟨g2,p*9,none⟩)) (w':=w) ?_ ⟨Below.refl _ _,rfl,hG⟩;simp only[Array.getD_eq_getD_getElem?]at e23;go_simp
       · intro l9 σ w a hin hout hl hc hp hG hF;refine Ad.some (d:=20) (b:=true) rfl rfl (Am (hin 2 20) rfl (hp ⟨2,.guard⟩ (by simp) rfl) (hF 2)) ?_;refine Or.inl ⟨rfl,?_⟩;have e24:a.tmps.getD 24 undef=.pointer (some ⟨g2,p*9,none⟩):=Am (hin 6 24) rfl (hp ⟨6,.data⟩ (by simp) rfl) (hF 6);have CC:=SOF.out w hG;obtain ⟨C0,C1,C2,D0,D1,D2⟩:=CC;refine Does.val (.agg #[.slice x.A x.n x.c,.bool x.s,.slice x.B x.m x.d]) (w':=w) ?_ ⟨Below.refl _ _,rfl,hG⟩;go_simp
       · intro l9 σ w a hin hout hl hc hp hG hF;refine Ad.some (d:=20) (b:=true) rfl rfl (Am (hin 2 20) rfl (hp ⟨2,.guard⟩ (by simp) rfl) (hF 2)) ?_;refine Or.inl ⟨rfl,?_⟩;have e5:a.tmps.getD 5 undef=.pointer (some ⟨gx,0,none⟩):=hout 5 (Ae (by kernel_rfl));refine Does.val (.pointer (some ⟨gx,0,none⟩)) (w':=w) ?_ ⟨Below.refl _ _,rfl,hG⟩;simp only[Array.getD_eq_getD_getElem?]at e5;go_simp
       · intro l9 σ w a hin hout hl hc hp hG hF;refine Ad.some (d:=20) (b:=true) rfl rfl (Am (hin 2 20) rfl (hp ⟨2,.guard⟩ (by simp) rfl) (hF 2)) ?_;refine Or.inl ⟨rfl,?_⟩;have e26:a.tmps.getD 26 undef=.pointer (some ⟨gx,0,none⟩):=Am (hin 8 26) rfl (hp ⟨8,.data⟩ (by simp) rfl) (hF 8);have CC:=SOF.out w hG;obtain ⟨C0,C1,C2,D0,D1,D2⟩:=CC;refine Does.val (.agg #[.slice b.A b.n b.c,.bool b.s,.slice b.B b.m b.d]) (w':=w) ?_ ⟨Below.refl _ _,rfl,hG⟩;go_simp
       · intro l9 σ w a hin hout hl hc hp hG hF;refine Ad.some (d:=20) (b:=true) rfl rfl (Am (hin 2 20) rfl (hp ⟨2,.guard⟩ (by simp) rfl) (hF 2)) ?_;refine Or.inl ⟨rfl,?_⟩;have e25:a.tmps.getD 25 undef=.agg #[.slice x.A x.n x.c,.bool x.s,.slice x.B x.m x.d]:=Am (hin 7 25) rfl (hp ⟨7,.data⟩ (by simp) rfl) (hF 7);have e27:a.tmps.getD 27 undef=.agg #[.slice b.A b.n b.c,.bool b.s,.slice b.B b.m b.d]:=Am (hin 9 27) rfl (hp ⟨9,.data⟩ (by simp) rfl) (hF 9)
         refine Does.call ?_ (Qw _ _ x.S b.S 0 0 k w (HX.out.1.below hG).in_ (HBB0.out.1.below hG).in_ (by have:=HXS.out;omega) (by have:=HBS.out;omega) (by omega)) ?_
         · go_simp;(try exact ⟨rfl,rfl⟩)
         · rintro e w' ⟨rfl,hb⟩;exact ⟨_,rfl,hb,Un HXS.out.2 HBS.out.2 HBQ.out,hG.next hb⟩
       · intro l9 σ w a hin hout hl hc hp hG hF;refine Ad.none rfl ?_;have e20:a.tmps.getD 20 undef=.bool true:=Am (hin 2 20) rfl (hp ⟨2,.data⟩ (by simp) rfl) (hF 2);have e28:a.tmps.getD 28 undef=.bool BB:=Am (hin 10 28) rfl (hp ⟨10,.data⟩ (by simp) rfl) (hF 10);refine Does.val (.bool BB) (w':=w) ?_ ⟨Below.refl _ _,rfl,hG⟩;simp only[Array.getD_eq_getD_getElem?]at e20 e28;go_simp
     · intro l9 σ W9 hall hG hF;rw[show mid _ σ l9 _=(Act.put (Act.put (Act.put (Act.put (Act.put (Act.put (Act.put (Act.put (Act.put (Act.put (Act.put (Act.put _ (some 18) (σ 0)) (some 19) (σ 1)) (some 20) (σ 2)) (some 21) (σ 3)) (some 22) (σ 4)) (some 23) (σ 5)) (some 24) (σ 6)) (some 25) (σ 7)) (some 26) (σ 8)) (some 27) (σ 9)) (some 28) (σ 10)) (some 29) (σ 11)) from (AU hall).trans rfl];generalize σ 0=tt0;generalize σ 1=tt1;generalize σ 2=tt2;generalize σ 3=tt3
       generalize σ 4=tt4;generalize σ 5=tt5;generalize σ 6=tt6;generalize σ 7=tt7;generalize σ 8=tt8;generalize σ 9=tt9;generalize σ 10=tt10;rw[show σ 11=.bool BB from hF 11 (by decide)];simp only[Act.put,List.setIfInBounds_toArray,List.set_cons_zero,List.set_cons_succ];have TG:=hG;clear hF hG hall;clear σ;clear SOF;cases BB with
       |false=>
         have x0:W9.cell? ⟨gx,0,none⟩=some (.slice b.A b.n b.c):=(XB.out.next TG).cell 0 _ rfl;have x1:W9.cell? ⟨gx,1,none⟩=some (.bool b.s):=(XB.out.next TG).cell 1 _ rfl;have x2:W9.cell? ⟨gx,2,none⟩=some (.slice b.B b.m b.d):=(XB.out.next TG).cell 2 _ rfl;have x3:W9.cell? ⟨gx,3,none⟩=some (.bool b.lo.g):=(XB.out.next TG).cell 3 _ rfl;have x4:W9.cell? ⟨gx,4,none⟩=some (.bool b.lo.s):=(XB.out.next TG).cell 4 _ rfl
         have x5:W9.cell? ⟨gx,5,none⟩=some (.slice b.lo.B b.lo.m b.lo.d):=(XB.out.next TG).cell 5 _ rfl;have x6:W9.cell? ⟨gx,6,none⟩=some (.bool b.hi.g):=(XB.out.next TG).cell 6 _ rfl;have x7:W9.cell? ⟨gx,7,none⟩=some (.bool b.hi.s):=(XB.out.next TG).cell 7 _ rfl;have x8:W9.cell? ⟨gx,8,none⟩=some (.slice b.hi.B b.hi.m b.hi.d):=(XB.out.next TG).cell 8 _ rfl
         have HY2:=Ac (Af W9 (.cells #[.slice b.A b.n b.c,.bool b.s,.slice b.B b.m b.d,.bool b.lo.g,.bool b.lo.s,.slice b.lo.B b.lo.m b.lo.d,.bool b.hi.g,.bool b.hi.s,.slice b.hi.B b.hi.m b.hi.d] 54));have HROW:=Ac ((HLR0.out.below TG).below HY2.out);have HNW:=Ac (AK.new 54 W9 #[.slice b.A b.n b.c,.bool b.s,.slice b.B b.m b.d,.bool b.lo.g,.bool b.lo.s,.slice b.lo.B b.lo.m b.lo.d,.bool b.hi.g,.bool b.hi.s,.slice b.hi.B b.hi.m b.hi.d])
         have HBS2:=Ac (show w1.heap.size<=(W9.alloc (.cells #[.slice b.A b.n b.c,.bool b.s,.slice b.B b.m b.d,.bool b.lo.g,.bool b.lo.s,.slice b.lo.B b.lo.m b.lo.d,.bool b.hi.g,.bool b.hi.s,.slice b.hi.B b.hi.m b.hi.d] 54)).heap.size from Nat.le_trans HBW0.out.size (Nat.le_trans TG.size HY2.out.size))
         have HJ:=Ac (fun (v':Value) (w':World) (h1:LN 54 9 w' w1.heap.size v' (p+1+1) (Bc ((r'++[x])++[b]))) (h2:Tn (Value.slice (some ⟨g2,0,none⟩) (p+1) c').ownBlock (W9.alloc (.cells #[.slice b.A b.n b.c,.bool b.s,.slice b.B b.m b.d,.bool b.lo.g,.bool b.lo.s,.slice b.lo.B b.lo.m b.lo.d,.bool b.hi.g,.bool b.hi.s,.slice b.hi.B b.hi.m b.hi.d] 54)) w')=>IC (k:=k) HB.out HRD.out (fun y hy=>by simp at hy;subst hy;exact of_decide_eq_false HBQ.out.symm) HPL.out hrq HROW.out (fun r hr=>((HRR0.out r hr).below TG).below HY2.out) ((HBB0.out.below TG).below HY2.out) ((HBW0.out.trans (TG.mono HBW0.out.size)).trans (HY2.out.mono (Nat.le_trans HBW0.out.size TG.size))) h1 h2)
         clear TG;go_wp2_with (at_builtin;refine CW rfl _ _ rfl rfl w1.heap.size _ _ (r'++[x]) rfl HROW.out ⟨W9.heap.size,0,none⟩ 1 1 rfl [b] rfl (fun jj u hu=>by rw[addr_add,Nat.zero_add];exact HNW.out.cell jj u (by simpa[Bc,BV.cells] using hu)) (by omega) (by omega) HBS2.out ?_;intro v' w' h1 h2;have HE:=Ac (HJ.out v' w' h1 h2);clear h1 h2);go_roundw
         case rel=>exact ⟨q+1,_,by omega,by go_num,rfl,HE.out⟩
         case measure=>simp[intOf]<;>omega
       |true=>
         have HXB:=Ac (of_decide_eq_true HBQ.out.symm:x.S=b.S);have HX8:=Ac (HX.out.below TG);have HB8:=Ac (HBB0.out.below TG);have HLR8:=Ac (HLR0.out.below TG);have HRR8:=Ac (show ∀r∈r'++[x],CN W9 r k from fun r hr=>(HRR0.out r hr).below TG);have HBW8:=Ac (HBW0.out.trans (TG.mono HBW0.out.size));have HG8:=Ac (show w1.heap.size<=g2/\g2<W9.heap.size from ⟨HG2.out.1,Nat.lt_of_lt_of_le HG2.out.2 TG.size⟩)
         have SOF:=Ac (show ∀W,Below W9.heap.size W9 W->(W.cell? ⟨gx,0,none⟩=some (.slice b.A b.n b.c)/\W.cell? ⟨gx,1,none⟩=some (.bool b.s)/\W.cell? ⟨gx,2,none⟩=some (.slice b.B b.m b.d)/\W.cell? ⟨gx,3,none⟩=some (.bool b.lo.g)/\W.cell? ⟨gx,4,none⟩=some (.bool b.lo.s)/\W.cell? ⟨gx,5,none⟩=some (.slice b.lo.B b.lo.m b.lo.d)/\W.cell? ⟨gx,6,none⟩=some (.bool b.hi.g)/\W.cell? ⟨gx,7,none⟩=some (.bool b.hi.s)/\W.cell? ⟨gx,8,none⟩=some (.slice b.hi.B b.hi.m b.hi.d)/\W.cell? ⟨g2,p*9,none⟩=some (.slice x.A x.n x.c)/\W.cell? ⟨g2,p*9+1,none⟩=some (.bool x.s)/\W.cell? ⟨g2,p*9+2,none⟩=some (.slice x.B x.m x.d)/\W.cell? ⟨g2,p*9+3,none⟩=some (.bool x.lo.g)/\W.cell? ⟨g2,p*9+4,none⟩=some (.bool x.lo.s)/\W.cell? ⟨g2,p*9+5,none⟩=some (.slice x.lo.B x.lo.m x.lo.d)/\W.cell? ⟨g2,p*9+6,none⟩=some (.bool x.hi.g)/\W.cell? ⟨g2,p*9+7,none⟩=some (.bool x.hi.s)/\W.cell? ⟨g2,p*9+8,none⟩=some (.slice x.hi.B x.hi.m x.hi.d)) from fun W h=>⟨((XB.out.next TG).next h).cell 0 _ rfl,((XB.out.next TG).next h).cell 1 _ rfl,((XB.out.next TG).next h).cell 2 _ rfl,((XB.out.next TG).next h).cell 3 _ rfl,((XB.out.next TG).next h).cell 4 _ rfl,((XB.out.next TG).next h).cell 5 _ rfl,((XB.out.next TG).next h).cell 6 _ rfl,((XB.out.next TG).next h).cell 7 _ rfl,((XB.out.next TG).next h).cell 8 _ rfl,(Below.cell h (p:=⟨g2,p*9,none⟩) HG8.out.2).trans ((Below.cell TG (p:=⟨g2,p*9,none⟩) HG2.out.2).trans (HXC.out 0 _ rfl)),(Below.cell h (p:=⟨g2,p*9+1,none⟩) HG8.out.2).trans ((Below.cell TG (p:=⟨g2,p*9+1,none⟩) HG2.out.2).trans (HXC.out 1 _ rfl)),(Below.cell h (p:=⟨g2,p*9+2,none⟩) HG8.out.2).trans ((Below.cell TG (p:=⟨g2,p*9+2,none⟩) HG2.out.2).trans (HXC.out 2 _ rfl)),(Below.cell h (p:=⟨g2,p*9+3,none⟩) HG8.out.2).trans ((Below.cell TG (p:=⟨g2,p*9+3,none⟩) HG2.out.2).trans (HXC.out 3 _ rfl)),(Below.cell h (p:=⟨g2,p*9+4,none⟩) HG8.out.2).trans ((Below.cell TG (p:=⟨g2,p*9+4,none⟩) HG2.out.2).trans (HXC.out 4 _ rfl)),(Below.cell h (p:=⟨g2,p*9+5,none⟩) HG8.out.2).trans ((Below.cell TG (p:=⟨g2,p*9+5,none⟩) HG2.out.2).trans (HXC.out 5 _ rfl)),(Below.cell h (p:=⟨g2,p*9+6,none⟩) HG8.out.2).trans ((Below.cell TG (p:=⟨g2,p*9+6,none⟩) HG2.out.2).trans (HXC.out 6 _ rfl)),(Below.cell h (p:=⟨g2,p*9+7,none⟩) HG8.out.2).trans ((Below.cell TG (p:=⟨g2,p*9+7,none⟩) HG2.out.2).trans (HXC.out 7 _ rfl)),(Below.cell h (p:=⟨g2,p*9+8,none⟩) HG8.out.2).trans ((Below.cell TG (p:=⟨g2,p*9+8,none⟩) HG2.out.2).trans (HXC.out 8 _ rfl))⟩)
         clear TG;go_upto_region 8 with fail
         refine AW (by kernel_rfl) (by kernel_rfl) (by kernel_rfl) (by kernel_rfl) (fun w w'=>Below w.heap.size w w') (fun j v w=>match j with|0=>v=.slice (some ⟨g2,0,none⟩) (p+1) c'|1=>v=.int .i64 p|2=>v=.slice (some ⟨g2,0,none⟩) (p+1) c'|3=>v=.int .i64 p|4=>v=.pointer (some ⟨g2,p*9,none⟩)|5=>v=.agg #[.slice x.A x.n x.c,.bool x.s,.slice x.B x.m x.d,.bool x.lo.g,.bool x.lo.s,.slice x.lo.B x.lo.m x.lo.d,.bool x.hi.g,.bool x.hi.s,.slice x.hi.B x.hi.m x.hi.d]|6=>v=.agg #[.slice b.A b.n b.c,.bool b.s,.slice b.B b.m b.d,.bool b.lo.g,.bool b.lo.s,.slice b.lo.B b.lo.m b.lo.d,.bool b.hi.g,.bool b.hi.s,.slice b.hi.B b.hi.m b.hi.d]|7=>∃y:BV,v=.agg y.cells.toArray/\CN w y k/\y.bd=Dy x.bd b.bd|8=>v=.pointer (some ⟨g2,p*9,none⟩)|_=>True) (fun _ _ w=>Below W9.heap.size W9 w) ?_ (fun _=>Ap W9 1) ?_ ?_
         · intro j v w w' hT h;match j,h with
           |0,h=>exact h
           |1,h=>exact h
           |2,h=>exact h
           |3,h=>exact h
           |4,h=>exact h
           |5,h=>exact h
           |6,h=>exact h
           |7,h=>exact (by obtain ⟨y,h1,h2,h3⟩:=h;exact ⟨y,h1,h2.below hT,h3⟩)
           |8,h=>exact h
           |j+9,h=>trivial
         · refine ⟨?_,?_,?_,?_,?_,?_,?_,?_,?_,trivial⟩
           · intro l9 σ w a hin hout hl hla hs hc hp hG hF;refine Ad.none rfl ?_;have e3:a.tmps.getD 3 undef=.slice (some ⟨g2,0,none⟩) (p+1) c':=hout 3 (Ae (by kernel_rfl));refine Does.val (.slice (some ⟨g2,0,none⟩) (p+1) c') (w':=w) ?_ ⟨Below.refl _ _,rfl,hG⟩;simp only[Array.getD_eq_getD_getElem?]at e3;go_simp
           · intro l9 σ w a hin hout hl hla hs hc hp hG hF;refine Ad.none rfl ?_;have e6:a.tmps.getD 6 undef=.int .i64 p:=hout 6 (Ae (by kernel_rfl));refine Does.val (.int .i64 p) (w':=w) ?_ ⟨Below.refl _ _,rfl,hG⟩;simp only[Array.getD_eq_getD_getElem?]at e6;go_simp
           · intro l9 σ w a hin hout hl hla hs hc hp hG hF;refine Ad.none rfl ?_;have e3:a.tmps.getD 3 undef=.slice (some ⟨g2,0,none⟩) (p+1) c':=hout 3 (Ae (by kernel_rfl));refine Does.val (.slice (some ⟨g2,0,none⟩) (p+1) c') (w':=w) ?_ ⟨Below.refl _ _,rfl,hG⟩;simp only[Array.getD_eq_getD_getElem?]at e3;go_simp
           · intro l9 σ w a hin hout hl hla hs hc hp hG hF;refine Ad.none rfl ?_;have e6:a.tmps.getD 6 undef=.int .i64 p:=hout 6 (Ae (by kernel_rfl));refine Does.val (.int .i64 p) (w':=w) ?_ ⟨Below.refl _ _,rfl,hG⟩;simp only[Array.getD_eq_getD_getElem?]at e6;go_simp
           · intro l9 σ w a hin hout hl hla hs hc hp hG hF;refine Ad.none rfl ?_;have e32:a.tmps.getD 32 undef=.slice (some ⟨g2,0,none⟩) (p+1) c':=Am (hin 2 32) rfl (hp ⟨2,.data⟩ (by simp) rfl) (hF 2);have e33:a.tmps.getD 33 undef=.int .i64 p:=Am (hin 3 33) rfl (hp ⟨3,.data⟩ (by simp) rfl) (hF 3);refine Does.val (.pointer (some ⟨g2,p*9,none⟩)) (w':=w) ?_ ⟨Below.refl _ _,rfl,hG⟩;simp only[Array.getD_eq_getD_getElem?]at e32 e33;go_simp;(try (intro hh;exfalso;omega))
           · intro l9 σ w a hin hout hl hla hs hc hp hG hF;refine Ad.none rfl ?_;have e34:a.tmps.getD 34 undef=.pointer (some ⟨g2,p*9,none⟩):=Am (hin 4 34) rfl (hp ⟨4,.data⟩ (by simp) rfl) (hF 4);have CC:=SOF.out w hG;obtain ⟨C0,C1,C2,C3,C4,C5,C6,C7,C8,D0,D1,D2,D3,D4,D5,D6,D7,D8⟩:=CC
             refine Does.val (.agg #[.slice x.A x.n x.c,.bool x.s,.slice x.B x.m x.d,.bool x.lo.g,.bool x.lo.s,.slice x.lo.B x.lo.m x.lo.d,.bool x.hi.g,.bool x.hi.s,.slice x.hi.B x.hi.m x.hi.d]) (w':=w) ?_ ⟨Below.refl _ _,rfl,hG⟩;go_simp
           · intro l9 σ w a hin hout hl hla hs hc hp hG hF;refine Ad.none rfl ?_;have e5:a.tmps.getD 5 undef=.pointer (some ⟨gx,0,none⟩):=hout 5 (Ae (by kernel_rfl));have CC:=SOF.out w hG;obtain ⟨C0,C1,C2,C3,C4,C5,C6,C7,C8,D0,D1,D2,D3,D4,D5,D6,D7,D8⟩:=CC
             refine Does.val (.agg #[.slice b.A b.n b.c,.bool b.s,.slice b.B b.m b.d,.bool b.lo.g,.bool b.lo.s,.slice b.lo.B b.lo.m b.lo.d,.bool b.hi.g,.bool b.hi.s,.slice b.hi.B b.hi.m b.hi.d]) (w':=w) ?_ ⟨Below.refl _ _,rfl,hG⟩;go_simp
           · intro l9 σ w a hin hout hl hla hs hc hp hG hF;refine Ad.none rfl ?_;have e35:a.tmps.getD 35 undef=.agg #[.slice x.A x.n x.c,.bool x.s,.slice x.B x.m x.d,.bool x.lo.g,.bool x.lo.s,.slice x.lo.B x.lo.m x.lo.d,.bool x.hi.g,.bool x.hi.s,.slice x.hi.B x.hi.m x.hi.d]:=Am (hin 5 35) rfl (hp ⟨5,.data⟩ (by simp) rfl) (hF 5)
             have e36:a.tmps.getD 36 undef=.agg #[.slice b.A b.n b.c,.bool b.s,.slice b.B b.m b.d,.bool b.lo.g,.bool b.lo.s,.slice b.lo.B b.lo.m b.lo.d,.bool b.hi.g,.bool b.hi.s,.slice b.hi.B b.hi.m b.hi.d]:=Am (hin 6 36) rfl (hp ⟨6,.data⟩ (by simp) rfl) (hF 6);refine Does.call ?_ (Mt x b k w (HX8.out.below hG) (HB8.out.below hG) (by omega)) ?_
             · go_simp;(try exact ⟨rfl,rfl⟩)
             · rintro e w' ⟨y,rfl,z,hy,hb⟩;exact ⟨_,rfl,hb,⟨y,rfl,z,hy⟩,hG.next hb⟩
           · intro l9 σ w a hin hout hl hla hs hc hp hG hF;refine Ad.none rfl ?_;have e30:a.tmps.getD 30 undef=.slice (some ⟨g2,0,none⟩) (p+1) c':=Am (hin 0 30) rfl (hp ⟨0,.data⟩ (by simp) rfl) (hF 0);have e31:a.tmps.getD 31 undef=.int .i64 p:=Am (hin 1 31) rfl (hp ⟨1,.data⟩ (by simp) rfl) (hF 1);refine Does.val (.pointer (some ⟨g2,p*9,none⟩)) (w':=w) ?_ ⟨Below.refl _ _,rfl,hG⟩;simp only[Array.getD_eq_getD_getElem?]at e30 e31;go_simp;(try (intro hh;exfalso;omega))
         · intro o ho;injection ho with ho;subst ho
           intro l9 σ w a hall hin hout hG hF;refine Ad.none rfl ?_;have e38:a.tmps.getD 38 undef=.pointer (some ⟨g2,p*9,none⟩):=(hin 8 38 rfl (by decide)).trans (hF 8 (by decide));have e37:=hin 7 37 rfl (by decide);have z7:=hF 7 (by decide);obtain ⟨y,ev,zy,hy⟩:=z7;rw[ev]at e37;obtain ⟨cur,hcur,hcs,hnc9⟩:=(HLR8.out.below hG).cur
           refine Does.store_at (T:=54) (T2:=54) (off:=p*9) (cells:=y.cells.toArray) rfl e38 e37 hcur (by kernel_rfl) (by show p*9+9<=_;omega) (by rw[Array.all_eq_true_iff_forall_mem];intro v hv;exact y.one v (by simpa using hv)) (fun w2 h2 o2=>?_)
           rw[show fin _ σ undef _=(Act.put (Act.put (Act.put (Act.put (Act.put (Act.put (Act.put (Act.put (Act.put (Act.put _ (some 30) (σ 0)) (some 31) (σ 1)) (some 32) (σ 2)) (some 33) (σ 3)) (some 34) (σ 4)) (some 35) (σ 5)) (some 36) (σ 6)) (some 37) (σ 7)) (some 38) (σ 8)) none undef) from (Bt hall).trans rfl]
           have HE:=Ac (SQ (k:=k) HB.out HRD.out HXB.out (by have:=HRL.out;omega) (by have:=HRL.out;omega) (HLR8.out.below hG) (fun r hr=>(HRR8.out r hr).below hG) zy hy (HBW8.out.trans (hG.mono HBW8.out.size)) HG8.out.1 (KZ (HLR8.out.below hG) hcur (by rw[HRL.out];exact h2)) o2);simp only[Act.put,List.setIfInBounds_toArray,List.set_cons_zero,List.set_cons_succ]
           generalize σ 0=tt0 at *;generalize σ 1=tt1 at *;generalize σ 2=tt2 at *;generalize σ 3=tt3 at *;generalize σ 4=tt4 at *;generalize σ 5=tt5 at *;generalize σ 6=tt6 at *;generalize σ 7=tt7 at *;generalize σ 8=tt8 at *;clear hF hG hall hin hout SOF h2 o2 hcur hcs hnc9 zy hy ev e37 e38;go_wp2_with fail;go_roundw
           case rel=>exact ⟨q+1,_,by omega,by go_num,rfl,HE.out⟩
           case measure=>simp[intOf]<;>omega
  · have e0:q=n:=(by omega);subst e0;have g1:¬(q:Int)<(q:Int):=(by omega);obtain ⟨rs,hlr,hrd,hrr,hbw,hrq⟩:=HR.out;rw[List.take_of_length_le (by have:=HQN.out;omega)]at hrd;have HE:=Ac (show NC A q c bs k w0 (.returned rl) wr from ⟨qs,rs,rl,rfl,HP.out,HSB.out,hrd,hlr.base HG.out.size,hrr,HKT.out.trans (Kt.below hbw),OM HG.out hbw⟩);clear hrd hrr hbw hlr;go_wp2_with fail;go_ret
    exact HE.out
end
end Go.Proofs.YtmedjkhmadfjlaaGreat
