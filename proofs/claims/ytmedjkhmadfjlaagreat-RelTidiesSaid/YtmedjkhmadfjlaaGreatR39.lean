/- Texts of one seat, put together: RIns. -/
import Derived.Test.YtmedjkhmadfjlaaGreatR36
import Derived.Test.YtmedjkhmadfjlaaGreatR37
import Derived.Test.YtmedjkhmadfjlaaGreatR38
set_option linter.unusedVariables false
set_option linter.unusedSimpArgs false
set_option maxRecDepth 100000
set_option maxHeartbeats 16000000
namespace Go.Proofs.YtmedjkhmadfjlaaGreat
section
open Go.RowKit
open Tm
theorem Di.cells4 {w:World} {n b o i:Nat} {rs:List RV} {x:RV} (h:Di w (some ⟨b,o,none⟩) n rs) (hr:rs[i]?=some x):w.cell? ⟨b,o+i*4,none⟩=some (.slice x.A x.n x.c)/\w.cell? ⟨b,o+i*4+1,none⟩=some (.bool x.s)/\w.cell? ⟨b,o+i*4+2,none⟩=some (.slice x.B x.m x.d)/\w.cell? ⟨b,o+i*4+3,none⟩=some (.bool x.f):=by
 have hi:i<n:=by have h1:=(List.getElem?_eq_some_iff.1 hr).1;have h2:=h.1;omega
 obtain ⟨b',o',r',hA,hr',c0,c1,c2,c3⟩:=h.at_ hi;injection hA with hA
 injection hA with e1 e2
 rw[hr]at hr';injection hr' with hr'
 subst e1 e2 hr';exact ⟨c0,c1,c2,c3⟩
def Ji (w1:World) (rs:List RV) (r:RV) (q:Nat) (ov:Value) (wr:World):Prop:=
 ∃os:List RV,LN 42 4 wr w1.heap.size ov os.length (AL os)/\os.map RV.rd=IL r.rd ((rs.take q).map RV.rd)/\(∀p∈os,p=r\/p∈rs)/\Below w1.heap.size w1 wr
theorem Da {rs:List RV} {q:Nat} {x:RV} (hx:rs[q]?=some x):(rs.take (q+1)).map RV.rd=(rs.take q).map RV.rd++[x.rd]:=by rw[List.take_add_one,hx,List.map_append];rfl
theorem N9 {w1 W w':World} {rs os:List RV} {r x:RV} {q p:Nat} {ov v':Value} (hx:rs[q]?=some x) (hno:¬(F3 r.rd ((rs.take q).map RV.rd)=false/\Eg r.rd x.rd<=0)) (hl:LN 42 4 W w1.heap.size ov p (AL os)) (hp:os.length=p) (hos:os.map RV.rd=IL r.rd ((rs.take q).map RV.rd)) (hm:∀p∈os,p=r\/p∈rs) (hb:Below w1.heap.size w1 W)
   (h1:LN 42 4 w' w1.heap.size v' (p+1) (AL (os++[x]))) (h2:Tn ov.ownBlock W w'):Ji w1 rs r (q+1) v' w':=by
 subst hp;refine ⟨os++[x],by rw[List.length_append];exact h1,?_,fun y hy=>?_,hl.lrow.old hb h2.1 (Nat.le_refl _) (Nat.le_refl _)⟩
 · rw[Da hx,L6,if_neg hno,List.map_append,hos];rfl
 · rcases List.mem_append.1 hy with hy|hy
   · exact hm y hy
   · rw[List.mem_singleton]at hy;rw[hy];exact .inr (List.mem_of_getElem? hx)
theorem SO {w1 W w':World} {rs os:List RV} {r x:RV} {q p:Nat} {ov v':Value} (hx:rs[q]?=some x) (hyes:F3 r.rd ((rs.take q).map RV.rd)=false/\Eg r.rd x.rd<=0) (hl:LN 42 4 W w1.heap.size ov (p+1) (AL (os++[r]))) (hp:os.length=p) (hos:os.map RV.rd=IL r.rd ((rs.take q).map RV.rd)) (hm:∀p∈os,p=r\/p∈rs) (hb:Below w1.heap.size w1 W)
   (h1:LN 42 4 w' w1.heap.size v' (p+1+1) (AL (os++[r]++[x]))) (h2:Tn ov.ownBlock W w'):Ji w1 rs r (q+1) v' w':=by
 subst hp;refine ⟨os++[r]++[x],by rw[List.length_append,List.length_append];exact h1,?_,fun y hy=>?_,hl.lrow.old hb h2.1 (Nat.le_refl _) (Nat.le_refl _)⟩
 · rw[Da hx,L6,if_pos hyes,List.map_append,List.map_append,hos];rfl
 · rcases List.mem_append.1 hy with hy|hy
   · rcases List.mem_append.1 hy with hy|hy
     · exact hm y hy
     · rw[List.mem_singleton]at hy;exact .inl hy
   · rw[List.mem_singleton]at hy;rw[hy];exact .inr (List.mem_of_getElem? hx)
def Hz (rs:List RV) (r:RV) (k:Nat) (w:World) (e:Ending) (w':World):Prop:=
 ∃A c os,e=.returned (.slice A os.length c)/\BD w' A os.length os k/\os.map RV.rd=CV r.rd (rs.map RV.rd)/\(∀p∈os,p=r\/p∈rs)/\os.length<=c/\c<=9223372036854775807/\Below w.heap.size w w'
theorem NA {w0 w1 w':World} {rs os:List RV} {r:RV} {k p:Nat} {v':Value} (h0:Below w0.heap.size w0 w1) (hrs:∀x∈rs,Aw w1 x.trm x.L x.K k) (hr:Aw w1 r.trm r.L r.K k) (hm:∀p∈os,p=r\/p∈rs) (hp:os.length=p) (hos:os.map RV.rd=CV r.rd (rs.map RV.rd)) (hl:LN 42 4 w' w1.heap.size v' p (AL os)) (hb:Below w1.heap.size w1 w'):Hz rs r k w0 (.returned v') w':=by
 subst hp;obtain ⟨A,c,rfl,hc,hc2,-⟩:=hl.lrow.len;refine ⟨A,c,os,rfl,⟨BR.rels hl rfl,fun y hy=>?_⟩,hos,hm,hc,hc2,h0.next hb⟩;rcases hm y hy with e|e
 · rw[e];exact hr.below hb
 · exact (hrs y e).below hb
theorem F6 (A:Option Addr) (n c:Nat) (rs:List RV) (r:RV) (k:Nat) (w0:World) (hv:BD w0 A n rs k) (hr:Aw w0 r.trm r.L r.K k) (hn:n<=1000) (hl:∀x∈rs,x.L.length<=100000) (hlr:r.L.length<=100000) (hk:k<=100000):Calls Tryz.prog 33 #[.slice A n c,r.agg] w0 (Hz rs r k w0):=by
 show Calls _ _ #[_,.agg #[.slice r.A r.n r.c,.bool r.s,.slice r.B r.m r.d,.bool r.f]] w0 _;obtain ⟨x1,y1,-⟩:=Bh 42 w0 #[.slice r.A r.n r.c,.bool r.s,.slice r.B r.m r.d,.bool r.f];have HRS:=Ac (hv.below y1);have HR:=Ac (hr.below y1);have X:=Ac x1;have HN:=Ac hv.1.1;generalize hW1:(w0.alloc (.cells #[.slice r.A r.n r.c,.bool r.s,.slice r.B r.m r.d,.bool r.f] 42))=W1 at *;have y2:=Af W1 (.cells #[] 42)
 have HS:=Ac (show Ji W1 rs r 0 (.slice (some ⟨W1.heap.size,0,none⟩) 0 0) (W1.alloc (.cells #[] 42)) from ⟨[],BR.lit0 _ _ (Nat.le_refl _) FD.nil,rfl,(fun p hp=>by cases hp),y2⟩);have HY1:=Ac y1;clear hv hr x1 y1 y2;go_enter Tryz.func33,Tryz.ntmps33;go_upto_region 1 with fail;(try rw[hW1])
 clear hW1;go_wp2_with fail;go_loopw [5,6,7] (fun s t i wr=>∃(q:Nat) (dn:Bool),q<=n/\i=.int .i64 q/\t=.bool dn/\Hid (dn=F3 r.rd ((rs.take q).map RV.rd))/\Hid (Ji W1 rs r q s wr)) (fun _ _ i _=>n-(intOf i).toNat)
 case atStart=>exact ⟨0,false,Nat.zero_le _,rfl,rfl,rfl,HS⟩
 case round=>
  obtain ⟨q,dn,hq,rfl,rfl,HD,HI⟩:=hrel;obtain ⟨os,lr,hos,hom,hB⟩:=HI.out;have hoq:os.length<=1001:=by have h1:=congrArg List.length hos;rw[List.length_map]at h1;have h2:=SD r.rd ((rs.take q).map RV.rd);rw[List.length_map,List.length_take]at h2;have h3:=HN.out;omega
  obtain ⟨Ao,co,hov,-,-,-⟩:=lr.lrow.len;subst hov;generalize hpl:os.length=p at *;have HPL:=Ac hpl;have HL:=Ac lr;have HOS:=Ac hos;have HOM:=Ac hom;have HB:=Ac hB;clear lr hos hom hB hpl HI;by_cases hqn:q<n
  · obtain ⟨bb,o,x,rfl,hx,-⟩:=(HRS.out.1).at_ hqn;have g1:(q:Int)<(n:Int):=(by omega);have HX:=Ac hx;have HXT:=Ac (HRS.out.2 x (List.mem_of_getElem? hx));have HXL:=Ac (hl x (List.mem_of_getElem? hx));have HC:=Ac (fun W (h:Below W1.heap.size W1 W)=>(HRS.out.1.below h).cells4 hx)
    have HRC:=Ac (show ∀W,Below W1.heap.size W1 W->W.cell? ⟨w0.heap.size,0,none⟩=some (.slice r.A r.n r.c)/\W.cell? ⟨w0.heap.size,1,none⟩=some (.bool r.s)/\W.cell? ⟨w0.heap.size,2,none⟩=some (.slice r.B r.m r.d)/\W.cell? ⟨w0.heap.size,3,none⟩=some (.bool r.f) from fun W h=>⟨(X.out.next h).r0,(X.out.next h).r1,(X.out.next h).r2,(X.out.next h).r3⟩);have HM1:=Ac (show F3 r.rd ((rs.take (q+1)).map RV.rd)=(dn || decide (Eg r.rd x.rd<=0)) from by rw[Da hx,L5,<-HD.out])
    have SOF:=Ac (show ∀W,Below wr.heap.size wr W->(W.cell? ⟨w0.heap.size,0,none⟩=some (.slice r.A r.n r.c)/\W.cell? ⟨w0.heap.size,1,none⟩=some (.bool r.s)/\W.cell? ⟨w0.heap.size,2,none⟩=some (.slice r.B r.m r.d)/\W.cell? ⟨w0.heap.size,3,none⟩=some (.bool r.f)/\W.cell? ⟨bb,o+q*4,none⟩=some (.slice x.A x.n x.c)/\W.cell? ⟨bb,o+q*4+1,none⟩=some (.bool x.s)/\W.cell? ⟨bb,o+q*4+2,none⟩=some (.slice x.B x.m x.d)/\W.cell? ⟨bb,o+q*4+3,none⟩=some (.bool x.f)) from fun W h=>by
     obtain ⟨a0,a1,a2,a3⟩:=HRC.out W (HB.out.next h);obtain ⟨b0,b1,b2,b3⟩:=HC.out W (HB.out.next h);exact ⟨a0,a1,a2,a3,b0,b1,b2,b3⟩)
    clear hx;go_upto_region 6 with fail;cases dn with
    |true=>
     refine AO (by kernel_rfl) (by kernel_rfl) (by kernel_rfl) (fun w w'=>Below w.heap.size w w') (fun j v w=>match j with|0=>v=.bool true|1=>v=.bool false|2=>v=.bool false|3=>v=undef|4=>v=undef|5=>v=undef|6=>v=undef|7=>v=undef|8=>v=undef|9=>v=undef|10=>v=.bool false|_=>True) (fun _ _ w=>Below wr.heap.size wr w) ?_ (fun _=>Ap wr 1) ?_ ?_
     · intro j v w w' hT h;match j,h with
       |0,h=>exact h
       |1,h=>exact h
       |2,h=>exact h
       |3,h=>exact h
       |4,h=>exact h
       |5,h=>exact h
       |6,h=>exact h
       |7,h=>exact h
       |8,h=>exact h
       |9,h=>exact h
       |10,h=>exact h
       |j+11,h=>trivial
     · refine ⟨?_,?_,?_,?_,?_,?_,?_,?_,?_,?_,?_,trivial⟩
       · intro l9 σ w a hin hout hl hc hp hG hF;refine Ad.none rfl ?_;have e6:a.tmps.getD 6 undef=.bool true:=hout 6 (Ae (by kernel_rfl));refine Does.val (.bool true) (w':=w) ?_ ⟨Below.refl _ _,rfl,hG⟩;simp only[Array.getD_eq_getD_getElem?]at e6;go_simp
       · intro l9 σ w a hin hout hl hc hp hG hF;refine Ad.none rfl ?_;have e15:a.tmps.getD 15 undef=.bool true:=Am (hin 0 15) rfl (hp ⟨0,.data⟩ (by simp) rfl) (hF 0);refine Does.val (.bool false) (w':=w) ?_ ⟨Below.refl _ _,rfl,hG⟩;simp only[Array.getD_eq_getD_getElem?]at e15;go_simp
       · intro l9 σ w a hin hout hl hc hp hG hF;refine Ad.none rfl ?_;have e16:a.tmps.getD 16 undef=.bool false:=Am (hin 1 16) rfl (hp ⟨1,.data⟩ (by simp) rfl) (hF 1);refine Does.val (.bool false) (w':=w) ?_ ⟨Below.refl _ _,rfl,hG⟩;simp only[Array.getD_eq_getD_getElem?]at e16;go_simp
       · intro l9 σ w a hin hout hl hc hp hG hF;refine Ad.some (d:=17) (b:=false) rfl rfl (Am (hin 2 17) rfl (hp ⟨2,.guard⟩ (by simp) rfl) (hF 2)) ?_;exact Or.inr ⟨(fun h=>by cases h),Below.refl _ _,rfl,hG⟩
       · intro l9 σ w a hin hout hl hc hp hG hF;refine Ad.some (d:=17) (b:=false) rfl rfl (Am (hin 2 17) rfl (hp ⟨2,.guard⟩ (by simp) rfl) (hF 2)) ?_;exact Or.inr ⟨(fun h=>by cases h),Below.refl _ _,rfl,hG⟩
       · intro l9 σ w a hin hout hl hc hp hG hF;refine Ad.some (d:=17) (b:=false) rfl rfl (Am (hin 2 17) rfl (hp ⟨2,.guard⟩ (by simp) rfl) (hF 2)) ?_;exact Or.inr ⟨(fun h=>by cases h),Below.refl _ _,rfl,hG⟩
       · intro l9 σ w a hin hout hl hc hp hG hF;refine Ad.some (d:=17) (b:=false) rfl rfl (Am (hin 2 17) rfl (hp ⟨2,.guard⟩ (by simp) rfl) (hF 2)) ?_;exact Or.inr ⟨(fun h=>by cases h),Below.refl _ _,rfl,hG⟩
       · intro l9 σ w a hin hout hl hc hp hG hF;refine Ad.some (d:=17) (b:=false) rfl rfl (Am (hin 2 17) rfl (hp ⟨2,.guard⟩ (by simp) rfl) (hF 2)) ?_;exact Or.inr ⟨(fun h=>by cases h),Below.refl _ _,rfl,hG⟩
       · intro l9 σ w a hin hout hl hc hp hG hF;refine Ad.some (d:=17) (b:=false) rfl rfl (Am (hin 2 17) rfl (hp ⟨2,.guard⟩ (by simp) rfl) (hF 2)) ?_;exact Or.inr ⟨(fun h=>by cases h),Below.refl _ _,rfl,hG⟩
       · intro l9 σ w a hin hout hl hc hp hG hF;refine Ad.some (d:=17) (b:=false) rfl rfl (Am (hin 2 17) rfl (hp ⟨2,.guard⟩ (by simp) rfl) (hF 2)) ?_;exact Or.inr ⟨(fun h=>by cases h),Below.refl _ _,rfl,hG⟩
       · intro l9 σ w a hin hout hl hc hp hG hF;refine Ad.none rfl ?_;have e17:a.tmps.getD 17 undef=.bool false:=Am (hin 2 17) rfl (hp ⟨2,.data⟩ (by simp) rfl) (hF 2);have e24:a.tmps.getD 24 undef=undef:=Am (hin 9 24) rfl (hp ⟨9,.data⟩ (by simp) rfl) (hF 9);refine Does.val (.bool false) (w':=w) ?_ ⟨Below.refl _ _,rfl,hG⟩;simp only[Array.getD_eq_getD_getElem?]at e17 e24;go_simp
     · intro l9 σ W9 hall hG hF;rw[show mid _ σ l9 _=(Act.put (Act.put (Act.put (Act.put (Act.put (Act.put (Act.put (Act.put (Act.put (Act.put (Act.put _ (some 15) (σ 0)) (some 16) (σ 1)) (some 17) (σ 2)) (some 18) (σ 3)) (some 19) (σ 4)) (some 20) (σ 5)) (some 21) (σ 6)) (some 22) (σ 7)) (some 23) (σ 8)) (some 24) (σ 9)) (some 25) (σ 10)) from (AU hall).trans rfl];generalize σ 0=tt0;generalize σ 1=tt1;generalize σ 2=tt2;generalize σ 3=tt3;generalize σ 4=tt4
       generalize σ 5=tt5;generalize σ 6=tt6;generalize σ 7=tt7;generalize σ 8=tt8;generalize σ 9=tt9;rw[show σ 10=.bool false from hF 10 (by decide)];simp only[Act.put,List.setIfInBounds_toArray,List.set_cons_zero,List.set_cons_succ];have TG:=hG;clear hF hG hall;clear σ;have HL9:=Ac (HL.out.below TG);have HB9:=Ac (HB.out.next TG);have CC:=HC.out W9 HB9.out;obtain ⟨z0,z1,z2,z3⟩:=CC;clear TG SOF
       have HROW:=Ac ((HL9.out).below (Af W9 (.cells #[.slice x.A x.n x.c,.bool x.s,.slice x.B x.m x.d,.bool x.f] 42)));have HNW:=Ac (AK.new 42 W9 #[.slice x.A x.n x.c,.bool x.s,.slice x.B x.m x.d,.bool x.f]);have HBS:=Ac (show W1.heap.size<=(W9.alloc (.cells #[.slice x.A x.n x.c,.bool x.s,.slice x.B x.m x.d,.bool x.f] 42)).heap.size from Nat.le_trans (HB9.out).size (Af W9 _).size)
       have HJ:=Ac (fun (v':Value) (w':World) (h1:LN 42 4 w' W1.heap.size v' (p+1) (AL (os++[x]))) (h2:Tn (Value.slice Ao p co).ownBlock (W9.alloc (.cells #[.slice x.A x.n x.c,.bool x.s,.slice x.B x.m x.d,.bool x.f] 42)) w')=>N9 HX.out (fun h=>by rw[<-HD.out]at h;cases h.1) HROW.out HPL.out HOS.out HOM.out (HB9.out.next (Af W9 _)) h1 h2)
       go_wp2_with (at_builtin;refine Bm rfl _ _ rfl rfl W1.heap.size _ _ os rfl HROW.out ⟨W9.heap.size,0,none⟩ 1 1 rfl [x] rfl (fun jj u hu=>by rw[addr_add,Nat.zero_add];exact HNW.out.cell jj u (by simpa[AL,RV.cells] using hu)) (by omega) (by omega) HBS.out ?_;intro v' w' h1 h2;have HE:=Ac (HJ.out v' w' h1 h2);clear h1 h2);go_roundw
       case rel=>exact ⟨q+1,true,by omega,by go_num,rfl,by rw[HM1.out];rfl,HE⟩
       case measure=>simp[intOf]<;>omega
    |false=>
     have HCM:=Ac (fun W (h:Below wr.heap.size wr W)=>QM (.agg #[.slice r.A r.n r.c,.bool r.s,.slice r.B r.m r.d,.bool r.f]) (.agg #[.slice x.A x.n x.c,.bool x.s,.slice x.B x.m x.d,.bool x.f]) r.L x.L r.K x.K r.f x.f k W ⟨_,_,_,_,_,_,_,rfl,(HR.out.below (HB.out.next h)).in_⟩ ⟨_,_,_,_,_,_,_,rfl,(HXT.out.below (HB.out.next h)).in_⟩ hlr HXL.out hk);obtain ⟨cc,hce⟩:∃cc,cc=Eg r.rd x.rd:=⟨_,rfl⟩
     rw[show (∀W (h:Below wr.heap.size wr W),Calls Tryz.prog 85 #[.agg #[.slice r.A r.n r.c,.bool r.s,.slice r.B r.m r.d,.bool r.f],.agg #[.slice x.A x.n x.c,.bool x.s,.slice x.B x.m x.d,.bool x.f]] W (fun e w'=>e=.returned (.int .i64 (O3 r.L x.L r.K x.K r.f x.f))/\Below W.heap.size W w'))=(∀W (h:Below wr.heap.size wr W),Calls Tryz.prog 85 #[.agg #[.slice r.A r.n r.c,.bool r.s,.slice r.B r.m r.d,.bool r.f],.agg #[.slice x.A x.n x.c,.bool x.s,.slice x.B x.m x.d,.bool x.f]] W (fun e w'=>e=.returned (.int .i64 cc)/\Below W.heap.size W w')) from by rw[hce];rfl]at HCM
     have HCE:=Ac hce;clear hce;by_cases hcc:cc<=0
     · skip
       refine AO (by kernel_rfl) (by kernel_rfl) (by kernel_rfl) (fun w w'=>Below w.heap.size w w') (fun j v w=>match j with|0=>v=.bool false|1=>v=.bool true|2=>v=.bool true|3=>v=.agg #[.slice r.A r.n r.c,.bool r.s,.slice r.B r.m r.d,.bool r.f]|4=>v=.slice (some ⟨bb,o,none⟩) n c|5=>v=.int .i64 (q:Int)|6=>v=.pointer (some ⟨bb,o+q*4,none⟩)|7=>v=.agg #[.slice x.A x.n x.c,.bool x.s,.slice x.B x.m x.d,.bool x.f]|8=>v=.int .i64 cc|9=>v=.bool true|10=>v=.bool true|_=>True) (fun _ _ w=>Below wr.heap.size wr w) ?_ (fun _=>Ap wr 1) ?_ ?_
       · intro j v w w' hT h;match j,h with
         |0,h=>exact h
         |1,h=>exact h
         |2,h=>exact h
         |3,h=>exact h
         |4,h=>exact h
         |5,h=>exact h
         |6,h=>exact h
         |7,h=>exact h
         |8,h=>exact h
         |9,h=>exact h
         |10,h=>exact h
         |j+11,h=>trivial
       · refine ⟨?_,?_,?_,?_,?_,?_,?_,?_,?_,?_,?_,trivial⟩
         · intro l9 σ w a hin hout hl hc hp hG hF;refine Ad.none rfl ?_;have e6:a.tmps.getD 6 undef=.bool false:=hout 6 (Ae (by kernel_rfl));refine Does.val (.bool false) (w':=w) ?_ ⟨Below.refl _ _,rfl,hG⟩;simp only[Array.getD_eq_getD_getElem?]at e6;go_simp
         · intro l9 σ w a hin hout hl hc hp hG hF;refine Ad.none rfl ?_;have e15:a.tmps.getD 15 undef=.bool false:=Am (hin 0 15) rfl (hp ⟨0,.data⟩ (by simp) rfl) (hF 0);refine Does.val (.bool true) (w':=w) ?_ ⟨Below.refl _ _,rfl,hG⟩;simp only[Array.getD_eq_getD_getElem?]at e15;go_simp
         · intro l9 σ w a hin hout hl hc hp hG hF;refine Ad.none rfl ?_;have e16:a.tmps.getD 16 undef=.bool true:=Am (hin 1 16) rfl (hp ⟨1,.data⟩ (by simp) rfl) (hF 1);refine Does.val (.bool true) (w':=w) ?_ ⟨Below.refl _ _,rfl,hG⟩;simp only[Array.getD_eq_getD_getElem?]at e16;go_simp
         · intro l9 σ w a hin hout hl hc hp hG hF;refine Ad.some (d:=17) (b:=true) rfl rfl (Am (hin 2 17) rfl (hp ⟨2,.guard⟩ (by simp) rfl) (hF 2)) ?_;refine Or.inl ⟨rfl,?_⟩;have e3:a.tmps.getD 3 undef=.pointer (some ⟨w0.heap.size,0,none⟩):=hout 3 (Ae (by kernel_rfl));have CC:=SOF.out w hG;obtain ⟨C0,C1,C2,C3,D0,D1,D2,D3⟩:=CC;refine Does.val (.agg #[.slice r.A r.n r.c,.bool r.s,.slice r.B r.m r.d,.bool r.f]) (w':=w) ?_ ⟨Below.refl _ _,rfl,hG⟩;go_simp
         · intro l9 σ w a hin hout hl hc hp hG hF;refine Ad.some (d:=17) (b:=true) rfl rfl (Am (hin 2 17) rfl (hp ⟨2,.guard⟩ (by simp) rfl) (hF 2)) ?_;refine Or.inl ⟨rfl,?_⟩;have e0:a.tmps.getD 0 undef=.slice (some ⟨bb,o,none⟩) n c:=hout 0 (Ae (by kernel_rfl));refine Does.val (.slice (some ⟨bb,o,none⟩) n c) (w':=w) ?_ ⟨Below.refl _ _,rfl,hG⟩;simp only[Array.getD_eq_getD_getElem?]at e0;go_simp
         · intro l9 σ w a hin hout hl hc hp hG hF;refine Ad.some (d:=17) (b:=true) rfl rfl (Am (hin 2 17) rfl (hp ⟨2,.guard⟩ (by simp) rfl) (hF 2)) ?_;refine Or.inl ⟨rfl,?_⟩;have e7:a.tmps.getD 7 undef=.int .i64 (q:Int):=hout 7 (Ae (by kernel_rfl));refine Does.val (.int .i64 (q:Int)) (w':=w) ?_ ⟨Below.refl _ _,rfl,hG⟩;simp only[Array.getD_eq_getD_getElem?]at e7;go_simp
         · intro l9 σ w a hin hout hl hc hp hG hF;refine Ad.some (d:=17) (b:=true) rfl rfl (Am (hin 2 17) rfl (hp ⟨2,.guard⟩ (by simp) rfl) (hF 2)) ?_;refine Or.inl ⟨rfl,?_⟩;have e19:a.tmps.getD 19 undef=.slice (some ⟨bb,o,none⟩) n c:=Am (hin 4 19) rfl (hp ⟨4,.data⟩ (by simp) rfl) (hF 4);have e20:a.tmps.getD 20 undef=.int .i64 (q:Int):=Am (hin 5 20) rfl (hp ⟨5,.data⟩ (by simp) rfl) (hF 5)
           refine Does.val (.pointer (some ⟨bb,o+q*4,none⟩)) (w':=w) ?_ ⟨Below.refl _ _,rfl,hG⟩;simp only[Array.getD_eq_getD_getElem?]at e19 e20;go_simp;(try (intro hh;exfalso;omega))
           (try (exact IntWalk.i64_in _ (by omega)))
         · intro l9 σ w a hin hout hl hc hp hG hF;refine Ad.some (d:=17) (b:=true) rfl rfl (Am (hin 2 17) rfl (hp ⟨2,.guard⟩ (by simp) rfl) (hF 2)) ?_;refine Or.inl ⟨rfl,?_⟩;have e21:a.tmps.getD 21 undef=.pointer (some ⟨bb,o+q*4,none⟩):=Am (hin 6 21) rfl (hp ⟨6,.data⟩ (by simp) rfl) (hF 6);have CC:=SOF.out w hG;obtain ⟨C0,C1,C2,C3,D0,D1,D2,D3⟩:=CC;refine Does.val (.agg #[.slice x.A x.n x.c,.bool x.s,.slice x.B x.m x.d,.bool x.f]) (w':=w) ?_ ⟨Below.refl _ _,rfl,hG⟩
           go_simp
         · intro l9 σ w a hin hout hl hc hp hG hF;refine Ad.some (d:=17) (b:=true) rfl rfl (Am (hin 2 17) rfl (hp ⟨2,.guard⟩ (by simp) rfl) (hF 2)) ?_;refine Or.inl ⟨rfl,?_⟩;have e18:a.tmps.getD 18 undef=.agg #[.slice r.A r.n r.c,.bool r.s,.slice r.B r.m r.d,.bool r.f]:=Am (hin 3 18) rfl (hp ⟨3,.data⟩ (by simp) rfl) (hF 3)
           have e22:a.tmps.getD 22 undef=.agg #[.slice x.A x.n x.c,.bool x.s,.slice x.B x.m x.d,.bool x.f]:=Am (hin 7 22) rfl (hp ⟨7,.data⟩ (by simp) rfl) (hF 7);refine Does.call ?_ (HCM.out w hG) ?_
           · go_simp
           · rintro e w' ⟨rfl,hb⟩;exact ⟨_,rfl,hb,rfl,hG.next hb⟩
         · intro l9 σ w a hin hout hl hc hp hG hF;refine Ad.some (d:=17) (b:=true) rfl rfl (Am (hin 2 17) rfl (hp ⟨2,.guard⟩ (by simp) rfl) (hF 2)) ?_;refine Or.inl ⟨rfl,?_⟩;have e23:a.tmps.getD 23 undef=.int .i64 cc:=Am (hin 8 23) rfl (hp ⟨8,.data⟩ (by simp) rfl) (hF 8);refine Does.val (.bool true) (w':=w) ?_ ⟨Below.refl _ _,rfl,hG⟩;simp only[Array.getD_eq_getD_getElem?]at e23;go_simp;(try simpa using hcc)
         · intro l9 σ w a hin hout hl hc hp hG hF;refine Ad.none rfl ?_;have e17:a.tmps.getD 17 undef=.bool true:=Am (hin 2 17) rfl (hp ⟨2,.data⟩ (by simp) rfl) (hF 2);have e24:a.tmps.getD 24 undef=.bool true:=Am (hin 9 24) rfl (hp ⟨9,.data⟩ (by simp) rfl) (hF 9);refine Does.val (.bool true) (w':=w) ?_ ⟨Below.refl _ _,rfl,hG⟩;simp only[Array.getD_eq_getD_getElem?]at e17 e24;go_simp
       · intro l9 σ W9 hall hG hF;rw[show mid _ σ l9 _=(Act.put (Act.put (Act.put (Act.put (Act.put (Act.put (Act.put (Act.put (Act.put (Act.put (Act.put _ (some 15) (σ 0)) (some 16) (σ 1)) (some 17) (σ 2)) (some 18) (σ 3)) (some 19) (σ 4)) (some 20) (σ 5)) (some 21) (σ 6)) (some 22) (σ 7)) (some 23) (σ 8)) (some 24) (σ 9)) (some 25) (σ 10)) from (AU hall).trans rfl];generalize σ 0=tt0;generalize σ 1=tt1;generalize σ 2=tt2;generalize σ 3=tt3;generalize σ 4=tt4
         generalize σ 5=tt5;generalize σ 6=tt6;generalize σ 7=tt7;generalize σ 8=tt8;generalize σ 9=tt9;rw[show σ 10=.bool true from hF 10 (by decide)];simp only[Act.put,List.setIfInBounds_toArray,List.set_cons_zero,List.set_cons_succ];have TG:=hG;clear hF hG hall;clear σ;have HL9:=Ac (HL.out.below TG);have HB9:=Ac (HB.out.next TG);have CC:=HRC.out W9 HB9.out;obtain ⟨z0,z1,z2,z3⟩:=CC;clear TG SOF HCM
         have HROW:=Ac ((HL9.out).below (Af W9 (.cells #[.slice r.A r.n r.c,.bool r.s,.slice r.B r.m r.d,.bool r.f] 42)));have HNW:=Ac (AK.new 42 W9 #[.slice r.A r.n r.c,.bool r.s,.slice r.B r.m r.d,.bool r.f]);have HBS:=Ac (show W1.heap.size<=(W9.alloc (.cells #[.slice r.A r.n r.c,.bool r.s,.slice r.B r.m r.d,.bool r.f] 42)).heap.size from Nat.le_trans (HB9.out).size (Af W9 _).size)
         have HJ1:=Ac (fun (v':Value) (w':World) (h1:LN 42 4 w' W1.heap.size v' (p+1) (AL (os++[r]))) (h2:Tn (Value.slice Ao p co).ownBlock (W9.alloc (.cells #[.slice r.A r.n r.c,.bool r.s,.slice r.B r.m r.d,.bool r.f] 42)) w')=>HROW.out.lrow.old (HB9.out.next (Af W9 _)) h2.1 (Nat.le_refl _) (Nat.le_refl _))
         go_upto_region 9 with (at_builtin;refine Bm rfl _ _ rfl rfl W1.heap.size _ _ os rfl HROW.out ⟨W9.heap.size,0,none⟩ 1 1 rfl [r] rfl (fun jj u hu=>by rw[addr_add,Nat.zero_add];exact HNW.out.cell jj u (by simpa[AL,RV.cells] using hu)) (by omega) (by omega) HBS.out ?_;intro v' w' h1 h2;have HB2:=Ac (HJ1.out v' w' h1 h2);have HL2:=Ac h1;clear h1 h2;obtain ⟨A2,c2,hv2,-,-,-⟩:=HL2.out.lrow.len;subst hv2;obtain ⟨y0,y1,y2,y3⟩:=HC.out w' HB2.out;clear HROW HNW HBS HJ1 z0 z1 z2 z3)
         have HJ:=Ac (fun (v2:Value) (w2:World) (h1:LN 42 4 w2 W1.heap.size v2 (p+1+1) (AL (os++[r]++[x]))) (h2:Tn (Value.slice A2 (p+1) c2).ownBlock (w'.alloc (.cells #[.slice x.A x.n x.c,.bool x.s,.slice x.B x.m x.d,.bool x.f] 42)) w2)=>SO HX.out ⟨HD.out.symm,HCE.out▸hcc⟩ (HL2.out.below (Af w' _)) HPL.out HOS.out HOM.out (HB2.out.next (Af w' _)) h1 h2);have HROW:=Ac ((HL2.out).below (Af w' (.cells #[.slice x.A x.n x.c,.bool x.s,.slice x.B x.m x.d,.bool x.f] 42)))
         have HNW:=Ac (AK.new 42 w' #[.slice x.A x.n x.c,.bool x.s,.slice x.B x.m x.d,.bool x.f]);have HBS:=Ac (show W1.heap.size<=(w'.alloc (.cells #[.slice x.A x.n x.c,.bool x.s,.slice x.B x.m x.d,.bool x.f] 42)).heap.size from Nat.le_trans (HB2.out).size (Af w' _).size)
         go_wp2_with (at_builtin;refine Bm rfl _ _ rfl rfl W1.heap.size _ _ (os++[r]) rfl HROW.out ⟨w'.heap.size,0,none⟩ 1 1 rfl [x] rfl (fun jj u hu=>by rw[addr_add,Nat.zero_add];exact HNW.out.cell jj u (by simpa[AL,RV.cells] using hu)) (by omega) (by omega) HBS.out ?_;intro v2 w2 h1 h2;have HE:=Ac (HJ.out v2 w2 h1 h2);clear h1 h2);go_roundw
         case rel=>exact ⟨q+1,true,by omega,by go_num,rfl,by rw[HM1.out,<-HCE.out];exact Ac (by simpa using hcc),HE⟩
         case measure=>simp[intOf]<;>omega
     · skip
       refine AO (by kernel_rfl) (by kernel_rfl) (by kernel_rfl) (fun w w'=>Below w.heap.size w w') (fun j v w=>match j with|0=>v=.bool false|1=>v=.bool true|2=>v=.bool true|3=>v=.agg #[.slice r.A r.n r.c,.bool r.s,.slice r.B r.m r.d,.bool r.f]|4=>v=.slice (some ⟨bb,o,none⟩) n c|5=>v=.int .i64 (q:Int)|6=>v=.pointer (some ⟨bb,o+q*4,none⟩)|7=>v=.agg #[.slice x.A x.n x.c,.bool x.s,.slice x.B x.m x.d,.bool x.f]|8=>v=.int .i64 cc|9=>v=.bool false|10=>v=.bool false|_=>True) (fun _ _ w=>Below wr.heap.size wr w) ?_ (fun _=>Ap wr 1) ?_ ?_
       · intro j v w w' hT h;match j,h with
         |0,h=>exact h
         |1,h=>exact h
         |2,h=>exact h
         |3,h=>exact h
         |4,h=>exact h
         |5,h=>exact h
         |6,h=>exact h
         |7,h=>exact h
         |8,h=>exact h
         |9,h=>exact h
         |10,h=>exact h
         |j+11,h=>trivial
       · refine ⟨?_,?_,?_,?_,?_,?_,?_,?_,?_,?_,?_,trivial⟩
         · intro l9 σ w a hin hout hl hc hp hG hF;refine Ad.none rfl ?_;have e6:a.tmps.getD 6 undef=.bool false:=hout 6 (Ae (by kernel_rfl));refine Does.val (.bool false) (w':=w) ?_ ⟨Below.refl _ _,rfl,hG⟩;simp only[Array.getD_eq_getD_getElem?]at e6;go_simp
         · intro l9 σ w a hin hout hl hc hp hG hF;refine Ad.none rfl ?_;have e15:a.tmps.getD 15 undef=.bool false:=Am (hin 0 15) rfl (hp ⟨0,.data⟩ (by simp) rfl) (hF 0);refine Does.val (.bool true) (w':=w) ?_ ⟨Below.refl _ _,rfl,hG⟩;simp only[Array.getD_eq_getD_getElem?]at e15;go_simp
         · intro l9 σ w a hin hout hl hc hp hG hF;refine Ad.none rfl ?_;have e16:a.tmps.getD 16 undef=.bool true:=Am (hin 1 16) rfl (hp ⟨1,.data⟩ (by simp) rfl) (hF 1);refine Does.val (.bool true) (w':=w) ?_ ⟨Below.refl _ _,rfl,hG⟩;simp only[Array.getD_eq_getD_getElem?]at e16;go_simp
         · intro l9 σ w a hin hout hl hc hp hG hF;refine Ad.some (d:=17) (b:=true) rfl rfl (Am (hin 2 17) rfl (hp ⟨2,.guard⟩ (by simp) rfl) (hF 2)) ?_;refine Or.inl ⟨rfl,?_⟩;have e3:a.tmps.getD 3 undef=.pointer (some ⟨w0.heap.size,0,none⟩):=hout 3 (Ae (by kernel_rfl));have CC:=SOF.out w hG;obtain ⟨C0,C1,C2,C3,D0,D1,D2,D3⟩:=CC;refine Does.val (.agg #[.slice r.A r.n r.c,.bool r.s,.slice r.B r.m r.d,.bool r.f]) (w':=w) ?_ ⟨Below.refl _ _,rfl,hG⟩;go_simp
         · intro l9 σ w a hin hout hl hc hp hG hF;refine Ad.some (d:=17) (b:=true) rfl rfl (Am (hin 2 17) rfl (hp ⟨2,.guard⟩ (by simp) rfl) (hF 2)) ?_;refine Or.inl ⟨rfl,?_⟩;have e0:a.tmps.getD 0 undef=.slice (some ⟨bb,o,none⟩) n c:=hout 0 (Ae (by kernel_rfl));refine Does.val (.slice (some ⟨bb,o,none⟩) n c) (w':=w) ?_ ⟨Below.refl _ _,rfl,hG⟩;simp only[Array.getD_eq_getD_getElem?]at e0;go_simp
         · intro l9 σ w a hin hout hl hc hp hG hF;refine Ad.some (d:=17) (b:=true) rfl rfl (Am (hin 2 17) rfl (hp ⟨2,.guard⟩ (by simp) rfl) (hF 2)) ?_;refine Or.inl ⟨rfl,?_⟩;have e7:a.tmps.getD 7 undef=.int .i64 (q:Int):=hout 7 (Ae (by kernel_rfl));refine Does.val (.int .i64 (q:Int)) (w':=w) ?_ ⟨Below.refl _ _,rfl,hG⟩;simp only[Array.getD_eq_getD_getElem?]at e7;go_simp
         · intro l9 σ w a hin hout hl hc hp hG hF;refine Ad.some (d:=17) (b:=true) rfl rfl (Am (hin 2 17) rfl (hp ⟨2,.guard⟩ (by simp) rfl) (hF 2)) ?_;refine Or.inl ⟨rfl,?_⟩;have e19:a.tmps.getD 19 undef=.slice (some ⟨bb,o,none⟩) n c:=Am (hin 4 19) rfl (hp ⟨4,.data⟩ (by simp) rfl) (hF 4);have e20:a.tmps.getD 20 undef=.int .i64 (q:Int):=Am (hin 5 20) rfl (hp ⟨5,.data⟩ (by simp) rfl) (hF 5)
           refine Does.val (.pointer (some ⟨bb,o+q*4,none⟩)) (w':=w) ?_ ⟨Below.refl _ _,rfl,hG⟩;simp only[Array.getD_eq_getD_getElem?]at e19 e20;go_simp;(try (intro hh;exfalso;omega))
           (try (exact IntWalk.i64_in _ (by omega)))
         · intro l9 σ w a hin hout hl hc hp hG hF;refine Ad.some (d:=17) (b:=true) rfl rfl (Am (hin 2 17) rfl (hp ⟨2,.guard⟩ (by simp) rfl) (hF 2)) ?_;refine Or.inl ⟨rfl,?_⟩;have e21:a.tmps.getD 21 undef=.pointer (some ⟨bb,o+q*4,none⟩):=Am (hin 6 21) rfl (hp ⟨6,.data⟩ (by simp) rfl) (hF 6);have CC:=SOF.out w hG;obtain ⟨C0,C1,C2,C3,D0,D1,D2,D3⟩:=CC;refine Does.val (.agg #[.slice x.A x.n x.c,.bool x.s,.slice x.B x.m x.d,.bool x.f]) (w':=w) ?_ ⟨Below.refl _ _,rfl,hG⟩
           go_simp
         · intro l9 σ w a hin hout hl hc hp hG hF;refine Ad.some (d:=17) (b:=true) rfl rfl (Am (hin 2 17) rfl (hp ⟨2,.guard⟩ (by simp) rfl) (hF 2)) ?_;refine Or.inl ⟨rfl,?_⟩;have e18:a.tmps.getD 18 undef=.agg #[.slice r.A r.n r.c,.bool r.s,.slice r.B r.m r.d,.bool r.f]:=Am (hin 3 18) rfl (hp ⟨3,.data⟩ (by simp) rfl) (hF 3)
           have e22:a.tmps.getD 22 undef=.agg #[.slice x.A x.n x.c,.bool x.s,.slice x.B x.m x.d,.bool x.f]:=Am (hin 7 22) rfl (hp ⟨7,.data⟩ (by simp) rfl) (hF 7);refine Does.call ?_ (HCM.out w hG) ?_
           · go_simp
           · rintro e w' ⟨rfl,hb⟩;exact ⟨_,rfl,hb,rfl,hG.next hb⟩
         · intro l9 σ w a hin hout hl hc hp hG hF;refine Ad.some (d:=17) (b:=true) rfl rfl (Am (hin 2 17) rfl (hp ⟨2,.guard⟩ (by simp) rfl) (hF 2)) ?_;refine Or.inl ⟨rfl,?_⟩;have e23:a.tmps.getD 23 undef=.int .i64 cc:=Am (hin 8 23) rfl (hp ⟨8,.data⟩ (by simp) rfl) (hF 8);refine Does.val (.bool false) (w':=w) ?_ ⟨Below.refl _ _,rfl,hG⟩;simp only[Array.getD_eq_getD_getElem?]at e23;go_simp;(try simpa using hcc)
         · intro l9 σ w a hin hout hl hc hp hG hF;refine Ad.none rfl ?_;have e17:a.tmps.getD 17 undef=.bool true:=Am (hin 2 17) rfl (hp ⟨2,.data⟩ (by simp) rfl) (hF 2);have e24:a.tmps.getD 24 undef=.bool false:=Am (hin 9 24) rfl (hp ⟨9,.data⟩ (by simp) rfl) (hF 9);refine Does.val (.bool false) (w':=w) ?_ ⟨Below.refl _ _,rfl,hG⟩;simp only[Array.getD_eq_getD_getElem?]at e17 e24;go_simp
       · intro l9 σ W9 hall hG hF;rw[show mid _ σ l9 _=(Act.put (Act.put (Act.put (Act.put (Act.put (Act.put (Act.put (Act.put (Act.put (Act.put (Act.put _ (some 15) (σ 0)) (some 16) (σ 1)) (some 17) (σ 2)) (some 18) (σ 3)) (some 19) (σ 4)) (some 20) (σ 5)) (some 21) (σ 6)) (some 22) (σ 7)) (some 23) (σ 8)) (some 24) (σ 9)) (some 25) (σ 10)) from (AU hall).trans rfl];generalize σ 0=tt0;generalize σ 1=tt1;generalize σ 2=tt2;generalize σ 3=tt3;generalize σ 4=tt4
         generalize σ 5=tt5;generalize σ 6=tt6;generalize σ 7=tt7;generalize σ 8=tt8;generalize σ 9=tt9;rw[show σ 10=.bool false from hF 10 (by decide)];simp only[Act.put,List.setIfInBounds_toArray,List.set_cons_zero,List.set_cons_succ];have TG:=hG;clear hF hG hall;clear σ;have HL9:=Ac (HL.out.below TG);have HB9:=Ac (HB.out.next TG);have CC:=HC.out W9 HB9.out;obtain ⟨z0,z1,z2,z3⟩:=CC;clear TG SOF HCM
         have HROW:=Ac ((HL9.out).below (Af W9 (.cells #[.slice x.A x.n x.c,.bool x.s,.slice x.B x.m x.d,.bool x.f] 42)));have HNW:=Ac (AK.new 42 W9 #[.slice x.A x.n x.c,.bool x.s,.slice x.B x.m x.d,.bool x.f]);have HBS:=Ac (show W1.heap.size<=(W9.alloc (.cells #[.slice x.A x.n x.c,.bool x.s,.slice x.B x.m x.d,.bool x.f] 42)).heap.size from Nat.le_trans (HB9.out).size (Af W9 _).size)
         have HJ:=Ac (fun (v':Value) (w':World) (h1:LN 42 4 w' W1.heap.size v' (p+1) (AL (os++[x]))) (h2:Tn (Value.slice Ao p co).ownBlock (W9.alloc (.cells #[.slice x.A x.n x.c,.bool x.s,.slice x.B x.m x.d,.bool x.f] 42)) w')=>N9 HX.out (fun h=>hcc (HCE.out.symm▸h.2)) HROW.out HPL.out HOS.out HOM.out (HB9.out.next (Af W9 _)) h1 h2)
         go_wp2_with (at_builtin;refine Bm rfl _ _ rfl rfl W1.heap.size _ _ os rfl HROW.out ⟨W9.heap.size,0,none⟩ 1 1 rfl [x] rfl (fun jj u hu=>by rw[addr_add,Nat.zero_add];exact HNW.out.cell jj u (by simpa[AL,RV.cells] using hu)) (by omega) (by omega) HBS.out ?_;intro v' w' h1 h2;have HE:=Ac (HJ.out v' w' h1 h2);clear h1 h2);go_roundw
         case rel=>exact ⟨q+1,false,by omega,by go_num,rfl,by rw[HM1.out,<-HCE.out];exact Ac (by simpa using hcc),HE⟩
         case measure=>simp[intOf]<;>omega
  · have e0:q=n:=(by omega);subst e0;have g1:¬(q:Int)<(q:Int):=(by omega);have htk:(rs.take q).map RV.rd=rs.map RV.rd:=(by rw[List.take_of_length_le (by have:=HN.out;omega)]);rw[htk]at HD HOS;cases dn with
    |true=>
     have HE:=Ac (show Hz rs r k w0 (.returned (.slice Ao p co)) wr from NA HY1.out HRS.out.2 HR.out HOM.out HPL.out (by rw[Ny,if_pos HD.out.symm];exact HOS.out) HL.out HB.out);clear htk;go_wp2_with fail;go_ret
     exact HE.out
    |false=>
     have hrc:=(X.out.next HB.out);have z0:=hrc.r0;have z1:=hrc.r1;have z2:=hrc.r2;have z3:=hrc.r3;clear hrc htk;have HJ:=Ac (fun (v':Value) (w':World) (h1:LN 42 4 w' W1.heap.size v' (p+1) (AL (os++[r]))) (h2:Tn (Value.slice Ao p co).ownBlock (wr.alloc (.cells #[.slice r.A r.n r.c,.bool r.s,.slice r.B r.m r.d,.bool r.f] 42)) w')=>show Hz rs r k w0 (.returned v') w' from NA HY1.out HRS.out.2 HR.out (fun y hy=>by
       rcases List.mem_append.1 hy with hy|hy
       · exact HOM.out y hy
       · rw[List.mem_singleton]at hy;exact .inl hy) (by rw[List.length_append,HPL.out];rfl) (by rw[Ny,if_neg (by rw[<-HD.out];decide),List.map_append,HOS.out];rfl) h1 ((HL.out.below (Af wr _)).lrow.old (HB.out.next (Af wr _)) h2.1 (Nat.le_refl _) (Nat.le_refl _)))
     have HROW:=Ac ((HL.out).below (Af wr (.cells #[.slice r.A r.n r.c,.bool r.s,.slice r.B r.m r.d,.bool r.f] 42)));have HNW:=Ac (AK.new 42 wr #[.slice r.A r.n r.c,.bool r.s,.slice r.B r.m r.d,.bool r.f]);have HBS:=Ac (show W1.heap.size<=(wr.alloc (.cells #[.slice r.A r.n r.c,.bool r.s,.slice r.B r.m r.d,.bool r.f] 42)).heap.size from Nat.le_trans (HB.out).size (Af wr _).size)
     go_wp2_with (at_builtin;refine Bm rfl _ _ rfl rfl W1.heap.size _ _ os rfl HROW.out ⟨wr.heap.size,0,none⟩ 1 1 rfl [r] rfl (fun jj u hu=>by rw[addr_add,Nat.zero_add];exact HNW.out.cell jj u (by simpa[AL,RV.cells] using hu)) (by omega) (by omega) HBS.out ?_;intro v' w' h1 h2;have HE:=Ac (HJ.out v' w' h1 h2);clear h1 h2);go_ret
     exact HE.out
end
end Go.Proofs.YtmedjkhmadfjlaaGreat
