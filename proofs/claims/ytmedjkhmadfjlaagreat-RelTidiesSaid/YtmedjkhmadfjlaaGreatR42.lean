/- Texts of one seat, put together: RelTight TidyG R4TidyA. -/
import Derived.Test.YtmedjkhmadfjlaaGreatR25
import Derived.Test.YtmedjkhmadfjlaaGreatR41
import Derived.Test.YtmedjkhmadfjlaaGreatR39
import Derived.Test.YtmedjkhmadfjlaaGreatR40
set_option linter.unusedVariables false
set_option linter.unusedSimpArgs false
set_option maxRecDepth 100000
set_option maxHeartbeats 16000000
namespace Go.Proofs.YtmedjkhmadfjlaaGreat
section
open Go.RowKit
open Tm
theorem Mx (v:Value) (L:List (Int×Int)) (K:Int) (e:Bool) (k:Nat) (w0:World) (hv:Qr w0 v L K e k) (hl:L.length<=100000) (hk:k<=100000):Calls Tryz.prog 19 #[v] w0 (Lz L K e (k+L.length+L.length) w0):=by
 have hv0:=hv;obtain ⟨A,n,c,s,B,m,d,rfl,ht⟩:=hv;obtain ⟨z0,z1,z2,-⟩:=Bi 42 42 w0 #[.slice A n c,.bool s,.slice B m d,.bool e] #[.slice none 0 0,.bool false,.slice none 0 0,.bool false];have hsh:=Nq _ L K k _ (ht.below z2) (by omega) (by omega);have HTK:=Ac ht.opn.2.2.2;have x0:=z0.r0;have x1:=z0.r1;have x2:=z0.r2;go_enter Tryz.func19,Tryz.ntmps19;go_wp2_with fail;refine hsh.mono ?_;rintro en w1 ⟨v1,u1,rfl,r1,g1,b1⟩;obtain ⟨As,ns,cs,ss,Bs,ms,ds,rfl⟩:=r1.form
 obtain ⟨sg,Ag,ng,cg,rfl⟩:=g1.form;have y1:=Af w1 (.cells #[.slice As ns cs,.bool ss,.slice Bs ms ds] 40);have y2:=Af (w1.alloc (.cells #[.slice As ns cs,.bool ss,.slice Bs ms ds] 40)) (.cells #[.bool sg,.slice Ag ng cg] 38);have t0:=(AK.new 40 w1 #[.slice As ns cs,.bool ss,.slice Bs ms ds]).next y2;have k0:=AH.new (w1.alloc (.cells #[.slice As ns cs,.bool ss,.slice Bs ms ds] 40)) #[.bool sg,.slice Ag ng cg];rw[size_alloc]at k0;have T2:=Ac (((z2.next b1).next y1).next y2)
 have XR:=Ac (((z0.next b1).next y1).next y2);have XO:=Ac (((z1.next b1).next y1).next y2);have XT:=Ac t0;have XG:=Ac k0;have R1:=Ac ((r1.below y1).below y2);have G1:=Ac ((g1.below y1).below y2);have hs1:=Ac (show w0.heap.size+1+1<=w1.heap.size by have:=b1.size;simp only[size_alloc]at this;omega);have HNS:=Ac (show (norm L).length=ns by rw[<-Ez];exact (R1.out.opn.1).len);have HV0:=Ac hv0;clear x0 x1 x2 z0 z1 z2 hsh ht r1 g1 b1 y1 y2 t0 k0 hv0
 generalize hW:((w1.alloc (.cells #[.slice As ns cs,.bool ss,.slice Bs ms ds] 40)).alloc (.cells #[.bool sg,.slice Ag ng cg] 38))=W at *;by_cases hns:ns=0
 · subst hns;have HNN:=Ac (List.length_eq_zero_iff.1 HNS.out);have hho:=Me _ L K e k 0 none 0 0 [] W (HV0.out.below T2.out) ⟨rfl,fun h=>absurd h (by omega),fun p hp=>by cases hp⟩ (by omega) (by omega) (by omega) (by omega);rw[show K+val (nums []) L=K by rw[show nums []=[] from rfl,OX];omega]at hho;have HKN:=Ac (EG (K:=K) (e:=e) HNN.out);have x0:=XR.out.r0;have x1:=XR.out.r1;have x2:=XR.out.r2;have x3:=XR.out.r3;have y0:=XT.out.c0;subst hW;go_wp2_with fail;refine hho.mono ?_
   rintro en w2 ⟨rfl,b2⟩;have HB2:=Ac b2;have xo:=XO.out.next b2;have y0':=(XT.out.next b2).c0;clear x0 x1 x2 x3 y0 hho b2;cases hb:Dh e K with
   |true=>
    have hkn:AR L K e=1:=(by rw[HKN.out,if_pos hb]);clear hb;go_wp2_with (with_reducible refine AG rfl _ _ rfl (w0.heap.size+1) _ _ _ _ _ _ _ _ rfl rfl _ _ _ _ xo ?_;intro w3 k3 ho3);refine Bf rfl rfl rfl k3 rfl ?_;obtain ⟨e1,e2,e3⟩:=Dx (L:=L) (K:=K) (e:=e) (by rw[hkn];decide);exact ⟨_,by rw[hkn]<;>rfl,by rw[e1,e2,e3];exact DC.zero _ _,AE (T2.out.next HB2.out) (by omega) ho3⟩
   |false=>
    have hkn:AR L K e=-1:=(by rw[HKN.out,if_neg (by simp[hb])]);clear hb;go_wp2_with (with_reducible refine AG rfl _ _ rfl (w0.heap.size+1) _ _ _ _ _ _ _ _ rfl rfl _ _ _ _ xo ?_;intro w3 k3 ho3);refine Bf rfl rfl rfl k3 rfl ?_;obtain ⟨e1,e2,e3⟩:=Dx (L:=L) (K:=K) (e:=e) (by rw[hkn];decide);exact ⟨_,by rw[hkn]<;>rfl,by rw[e1,e2,e3];exact DC.zero _ _,AE (T2.out.next HB2.out) (by omega) ho3⟩
 · have HNN:=Ac (show norm L≠[] from fun h=>hns (by rw[<-HNS.out,h];rfl));have hnz:¬(ns:Int)=0:=(by omega);have HC0:=Ac (show Ak L≠0 from fun h=>HNN.out (Cw.1 h));have x0:=XR.out.r0;have x1:=XR.out.r1;have x2:=XR.out.r2;have x3:=XR.out.r3;have y0:=XT.out.c0;have y1:=XT.out.c1;have y2:=XT.out.c2;have g0:=AH.c0 XG.out;have g1:=AH.c1 XG.out;have xo:=XO.out;cases e with
   |false=>
    have hkn:=EW (L:=L) (K:=K) HNN.out;subst hW;go_wp2_with (with_reducible refine AG rfl _ _ rfl (w0.heap.size+1) _ _ _ _ _ _ _ _ rfl rfl _ _ _ _ xo ?_;intro w3 k3 ho3);refine Bf rfl rfl rfl k3 rfl ?_;obtain ⟨e1,e2,e3⟩:=Ey (L:=L) (K:=K) (e:=false) hkn rfl;refine ⟨_,by rw[hkn]<;>rfl,?_,AE T2.out (by omega) ho3⟩
    rw[e1,e2,e3,<-Hs HNN.out];exact ⟨_,_,_,_,_,_,_,rfl,(R1.out.mono (by omega)).onlyR XO.out ho3⟩
   |true=>
    have hdv:=Nl _ _ K (Ak L) k (k+L.length) W (HTK.out.below T2.out) G1.out.in_ HC0.out (by omega) (by omega);subst hW;go_wp2_with fail;refine hdv.mono ?_;rintro en w2 ⟨q2,v2,rfl,zq,zr,b2⟩;obtain ⟨s3,A3,n3,c3,rfl⟩:=zq.form;obtain ⟨s4,A4,n4,c4,rfl⟩:=zr.form;have y3:=Af w2 (.cells #[.bool s3,.slice A3 n3 c3] 38);have y4:=Af (w2.alloc (.cells #[.bool s3,.slice A3 n3 c3] 38)) (.cells #[.bool s4,.slice A4 n4 c4] 38);have hB2:=(b2.next y3).next y4
    have k4:=AH.new (w2.alloc (.cells #[.bool s3,.slice A3 n3 c3] 38)) #[.bool s4,.slice A4 n4 c4];have zr4:=(zr.below y3).below y4;have hsg:=Ef _ (K.fmod (Ak L)) _ _ zr4.in_ (by omega);unfold CJ at hsg;have HB2:=Ac hB2;have c40:=AH.c0 k4;have c41:=AH.c1 k4;have hs2:=Ac (show w1.heap.size+1+1<=w2.heap.size by have:=b2.size;simp only[size_alloc]at this;omega);clear x0 x1 x2 x3 y0 y1 y2 g0 g1 xo hdv zq zr b2 y3 y4 hB2 k4 zr4;go_wp2_with fail;refine hsg.mono ?_
    rintro en w3 ⟨rfl,b3⟩;have T3:=Ac ((T2.out.next HB2.out).next b3);have XO3:=Ac ((XO.out.next HB2.out).next b3);have XT3:=Ac ((XT.out.next HB2.out).next b3);have R3:=Ac ((R1.out.below HB2.out).below b3);have HB3:=Ac b3;clear hsg b3 c40 c41;by_cases hr:K.fmod (Ak L)=0
    · have hkn:=En HNN.out hr;have hsz:(K.fmod (Ak L)).sign=0:=(by rw[hr];rfl);rw[hsz];clear hsz hr;obtain ⟨bb,o,p,rfl,hlt,hLp,c0,c1,c2,hz⟩:=(R3.out.opn.1.in_).at_ (i:=0) (by omega);simp only[Nat.zero_mul,Nat.add_zero]at c0 c1 c2;have HLD:=Ac (Mj hLp);have hsg:=Ef p.num p.Z _ w3 hz (by omega);unfold CJ at hsg;have y0:=XT3.out.c0;have y1:=XT3.out.c1;have y2:=XT3.out.c2;have hlp:L.length<=100000:=hl;clear hLp hz;go_wp2_with fail;refine hsg.mono ?_;rintro en w4 ⟨rfl,b4⟩
      have T4:=Ac (T3.out.next b4);have XO4:=Ac (XO3.out.next b4);have XT4:=Ac (XT3.out.next b4);have R4:=Ac (R3.out.below b4);clear hsg b4 y0 y1 y2 c0 c1 c2;have y0:=XT4.out.c0;have y1:=XT4.out.c1;have y2:=XT4.out.c2;by_cases hn:p.Z<0
      · have hf:Cp L true=true:=(by unfold Cp;rw[HLD.out];simp[hn]);have hsn:p.Z.sign<0:=Int.sign_neg_iff.2 hn;have HNL:=Ac (Bz L);have hng:=JR _ (Ce (Ak L) (norm L)) (CZ L K) (k+L.length) w4 R4.out.in_ (by rw[Ez];have:=HNL.out;omega) (by omega);have xt4:=XT4.out;go_wp2_with fail;refine hng.mono ?_;rintro en w5 ⟨v5,rfl,r5,b5⟩;obtain ⟨A5,n5,c5,s5,B5,m5,d5,rfl⟩:=r5.form;have xt5:=XT4.out.next b5;have XO5:=Ac (XO4.out.next b5);have R5:=Ac r5;have HB5:=Ac b5
        have hne:w0.heap.size+1≠w1.heap.size:=(by have:=hs1.out;omega);clear hng y0 y1 y2 xt4 r5 b5;go_wp2_with (first|(with_reducible refine Be rfl _ _ rfl w1.heap.size _ _ _ _ _ _ _ rfl rfl _ _ _ xt5 ?_;intro w6 k6 ho6;have y0:=k6.c0;have y1:=k6.c1;have y2:=k6.c2;have xo6:=AK.other XO5.out ho6 hne;clear xt5)|(with_reducible refine AG rfl _ _ rfl (w0.heap.size+1) _ _ _ _ _ _ _ _ rfl rfl _ _ _ _ xo6 ?_;intro w7 k7 ho7));refine Bf rfl rfl rfl k7 rfl ?_
        obtain ⟨e1,e2,e3⟩:=Hr (L:=L) (K:=K) (e:=true) hkn hf;refine ⟨_,by rw[hkn]<;>rfl,?_,AE (AE (T4.out.next HB5.out) (by have:=hs1.out;omega) ho6) (by omega) ho7⟩
        rw[e1,e2,e3,<-FW,<-Hs HNN.out];exact ⟨_,_,_,_,_,_,_,rfl,((R5.out.mono (by rw[Ez];have:=HNL.out;omega)).only (XT4.out.next HB5.out) ho6).onlyR xo6 ho7⟩
      · have hf:Cp L true=false:=(by unfold Cp;rw[HLD.out];simp;omega);have hsn:¬p.Z.sign<0:=(by rw[Int.sign_neg_iff];exact hn);have xo4:=XO4.out;go_wp2_with (with_reducible refine AG rfl _ _ rfl (w0.heap.size+1) _ _ _ _ _ _ _ _ rfl rfl _ _ _ _ xo4 ?_;intro w7 k7 ho7);refine Bf rfl rfl rfl k7 rfl ?_;obtain ⟨e1,e2,e3⟩:=Ey (L:=L) (K:=K) (e:=true) hkn hf;refine ⟨_,by rw[hkn]<;>rfl,?_,AE T4.out (by omega) ho7⟩
        rw[e1,e2,e3,<-Hs HNN.out];exact ⟨_,_,_,_,_,_,_,rfl,(R4.out.mono (by omega)).onlyR XO4.out ho7⟩
    · have hkn:=G6 HNN.out hr;have hsz:¬(K.fmod (Ak L)).sign=0:=(by rw[Int.sign_eq_zero_iff_zero];exact hr);have xo3:=XO3.out;go_wp2_with (with_reducible refine AG rfl _ _ rfl (w0.heap.size+1) _ _ _ _ _ _ _ _ rfl rfl _ _ _ _ xo3 ?_;intro w7 k7 ho7);refine Bf rfl rfl rfl k7 rfl ?_;obtain ⟨e1,e2,e3⟩:=Dx (L:=L) (K:=K) (e:=true) (by rw[hkn];decide);exact ⟨_,by rw[hkn]<;>rfl,by rw[e1,e2,e3];exact DC.zero _ _,AE T3.out (by omega) ho7⟩
end
section
open Go.RowKit
open Tm
def H4 (rs:List R3) (k M:Nat) (w:World) (e:Ending) (w':World):Prop:=
 ∃o:Option (List R3),I1 rs o/\Below w.heap.size w w' /\
  match o with
  |none=>e=.returned (.tuple #[.slice none 0 0,.bool false])
  |some out=>∃A c ps,e=.returned (.tuple #[.slice A out.length c,.bool true])/\BD w' A out.length ps k/\ps.map RV.rd=out/\out.length<=c/\c<=9223372036854775807/\∀p∈ps,p.L.length<=M
def My (w0:World) (rs:List RV) (k M:Nat) (q:Nat) (bv:Value) (wr:World):Prop:=
 ∃bs:List BV,LN 54 9 wr w0.heap.size bv bs.length (Bc bs)/\bs.map BV.bd=Cq ((rs.take q).map RV.rd)/\(∀r∈rs.take q,tk r.rd≠-1)/\(∀b∈bs,CN wr b k/\b.S.length<=M/\norm b.S=b.S)/\Below w0.heap.size w0 wr/\bs.length<=q
theorem ID (l:List R3) (r:R3):Cq (l++[r])=if tk r=0 then Cq l++[AX (tt r)] else Cq l:=by
 unfold Cq;rw[List.filter_append];by_cases h:tk r=0
 · rw[if_pos h];simp[h]
 · rw[if_neg h];simp[h]
theorem SR {w0 wr w':World} {rs:List RV} {k M q:Nat} {bv:Value} {r:RV} (h:My w0 rs k M q bv wr) (hr:rs[q]?=some r) (h1:tk r.rd=1) (hb:Below wr.heap.size wr w'):My w0 rs k M (q+1) bv w':=by
 obtain ⟨bs,a1,a2,a3,a4,a5,a6⟩:=h;refine ⟨bs,a1.below hb,?_,?_,fun b hm=>⟨(a4 b hm).1.below hb,(a4 b hm).2⟩,a5.next hb,by omega⟩
 · rw[List.take_add_one,hr,List.map_append,a2];show _=Cq (_++[r.rd]);rw[ID,if_neg (by omega)]
 · intro x hx;rw[List.take_add_one,hr]at hx;rcases List.mem_append.1 hx with hx|hx
   · exact a3 x hx
   · have hx:x=r:=(by simpa using hx);subst hx;omega
theorem Uo {w0 wr W w':World} {rs:List RV} {k M q p:Nat} {bv v':Value} {r:RV} {bs:List BV} {b:BV} (hl:LN 54 9 W w0.heap.size bv p (Bc bs)) (a2:bs.map BV.bd=Cq ((rs.take q).map RV.rd)) (a3:∀r∈rs.take q,tk r.rd≠-1) (a4:∀b∈bs,CN W b k/\b.S.length<=M/\norm b.S=b.S) (a5:Below w0.heap.size w0 W) (hp:bs.length=p) (a6:p<=q)
   (hr:rs[q]?=some r) (h1:tk r.rd=0) (hb:CN W b k) (hbd:b.bd=AX (tt r.rd)) (hbl:b.S.length<=M) (h2:LN 54 9 w' w0.heap.size v' (p+1) (Bc (bs++[b]))) (h3:Tn bv.ownBlock W w'):My w0 rs k M (q+1) v' w':=by
 subst hp;refine ⟨bs++[b],by rw[List.length_append];exact h2,?_,?_,?_,hl.lrow.old a5 h3.1 (Nat.le_refl _) (Nat.le_refl _),by simp;omega⟩
 · rw[List.take_add_one,hr,List.map_append,List.map_append,a2];show _=Cq (_++[r.rd]);rw[ID,if_pos h1,<-hbd];rfl
 · intro x hx;rw[List.take_add_one,hr]at hx;rcases List.mem_append.1 hx with hx|hx
   · exact a3 x hx
   · have hx:x=r:=(by simpa using hx);subst hx;omega
 · intro x hx;rcases List.mem_append.1 hx with hx|hx
   · exact ⟨(a4 x hx).1.kt h3.2,(a4 x hx).2⟩
   · rw[List.mem_singleton]at hx;subst hx;have hok:=Nw (Ff h1);rw[<-hbd]at hok;exact ⟨hb.kt h3.2,hbl,hok.1⟩
def P8 (w3:World) (js:List BV) (k M:Nat) (q:Nat) (tv:Value) (wr:World):Prop:=
 ∃ps:List RV,LN 42 4 wr w3.heap.size tv ps.length (AL ps)/\ps.map RV.rd=F8 ((js.take q).map BV.bd)/\(∀b∈js.take q,BN b.bd≠none)/\(∀p∈ps,Aw wr p.trm p.L p.K k/\p.L.length<=M)/\Below w3.heap.size w3 wr/\ps.length<=2*q
theorem OO (l:List Bd) (b:Bd) (ds:List R3) (h:BN b=some ds):F8 (l++[b])=F8 l++ds:=by unfold F8;rw[List.map_append,List.flatten_append];simp[h]
theorem SS {w3 W w':World} {js:List BV} {k M q p m:Nat} {tv v':Value} {b:BV} {ps xs:List RV} {ds:List R3} (hl:LN 42 4 W w3.heap.size tv p (AL ps)) (a2:ps.map RV.rd=F8 ((js.take q).map BV.bd)) (a3:∀b∈js.take q,BN b.bd≠none) (a4:∀p∈ps,Aw W p.trm p.L p.K k/\p.L.length<=M) (a5:Below w3.heap.size w3 W) (hp:ps.length=p) (a6:p<=2*q)
   (hb:js[q]?=some b) (hds:BN b.bd=some ds) (hm:ds.length=m) (hx:xs.map RV.rd=ds) (hxr:∀x∈xs,Aw W x.trm x.L x.K k/\x.L.length<=M) (h2:LN 42 4 w' w3.heap.size v' (p+m) (AL (ps++xs))) (h3:Tn tv.ownBlock W w'):P8 w3 js k M (q+1) v' w':=by
 subst hp hm;have hxl:xs.length=ds.length:=by rw[<-hx,List.length_map]
 refine ⟨ps++xs,by rw[List.length_append,hxl];exact h2,?_,?_,?_,hl.lrow.old a5 h3.1 (Nat.le_refl _) (Nat.le_refl _),?_⟩
 · rw[List.take_add_one,hb,List.map_append,List.map_append,a2,hx];show _=F8 (_++[b.bd]);rw[OO _ _ _ hds]
 · intro x hm;rw[List.take_add_one,hb]at hm;rcases List.mem_append.1 hm with hm|hm
   · exact a3 x hm
   · have hm:x=b:=(by simpa using hm);subst hm;rw[hds];simp
 · intro x hm;rcases List.mem_append.1 hm with hm|hm
   · exact ⟨h3.2.2 _ _ _ _ (a4 x hm).1,(a4 x hm).2⟩
   · exact ⟨h3.2.2 _ _ _ _ (hxr x hm).1,(hxr x hm).2⟩
 · have:=Pv b.bd;unfold TY at this;rw[hds]at this;rw[List.length_append,hxl];simp at this;omega
theorem OP {b:Bd} {ds:List R3} {M:Nat} (h:BN b=some ds) (hn:norm b.S=b.S) (hl:b.S.length<=M):∀r∈ds,r.1.length<=M:=by
 have h2:(AZ b.S).length<=M:=by rw[Cd hn,List.length_map];exact hl
 obtain ⟨S,lo,hi⟩:=b;unfold BN at h;dsimp only at h hl h2
 intro r hr;cases lo<;>cases hi<;>dsimp only at h
 · cases h;simp at hr
 · cases h
   rw[List.mem_singleton]at hr;subst hr;exact h2
 · cases h
   rw[List.mem_singleton]at hr;subst hr;exact hl
 · split at h
   · cases h
   · split at h
     · cases h
       rw[List.mem_singleton]at hr;subst hr;exact hl
     · cases h
       simp only[List.mem_cons,List.not_mem_nil,or_false]at hr;rcases hr with rfl|rfl
       · exact hl
       · exact h2
theorem La {b:Bd} {ds:List R3} (h:BN b=some ds) (hb:Nv b):0<ds.length:=by
 obtain ⟨S,lo,hi⟩:=b;obtain ⟨-,-,h3⟩:=hb;unfold BN at h;dsimp only at h h3
 cases lo<;>cases hi<;>dsimp only at h
 · simp at h3
 · cases h;simp
 · cases h;simp
 · split at h
   · cases h
   · split at h<;>(cases h;simp)
theorem Jj (L:List (Int×Int)) (K:Int) (e:Bool):(K9 L K e).length<=L.length:=by
 unfold K9;have h:=Bz L;split
 · simp
 · split
   · rw[List.length_map,Ez];exact h
   · rw[Ez];exact h
theorem QP {r:R3} (h:norm r.1=r.1):(AX r).S.length=r.1.length:=by
 unfold AX;split
 · show (AZ r.1).length=_;rw[Cd h,List.length_map]
 · rfl
theorem Kz (A:Option Addr) (n c k M:Nat) (rs:List RV) (w0:World) (h:EX w0 A n rs k) (hn:n<=1000) (hnc:n<=c) (hcc:c<=9223372036854775807) (hM:M<=10000) (hl:∀r∈rs,r.L.length<=M) (hk:k<=10000) :
  Calls Tryz.prog 7 #[.slice A n c] w0 (H4 (rs.map RV.rd) (k+3*M+1+3*M) M w0):=by
 have HR:=Ac h;have HLE:=Ac hl;clear h hl;go_enter Tryz.func7,Tryz.ntmps7;go_wp2_with fail;go_loopw [4,16] (fun bv i wr=>∃(q:Nat) (bl:Value),q<=n/\i=.int .i64 q/\bl=bv/\Hid (My w0 rs (k+3*M) M q bl wr)) (fun _ i _=>n-(intOf i).toNat)
 case atStart=>exact ⟨0,_,Nat.zero_le _,rfl,rfl,[],BR.nil _ _ _ _ _,rfl,(fun r hr=>by cases hr),(fun r hr=>by cases hr),Below.refl _ _,Nat.le_refl _⟩
 case round=>
  obtain ⟨q,bl,hq,rfl,rfl,HT⟩:=hrel;by_cases hqn:q<n
  · have g1:(q:Int)<(n:Int):=(by omega);obtain ⟨bs,a1,a2,a3,a4,a5,a6⟩:=HT.out;obtain ⟨Ab,cb,hbv,-,-,-⟩:=a1.lrow.len;subst hbv;generalize hpl:bs.length=p at *;have HPL:=Ac hpl;clear hpl;obtain ⟨bb,o,r,hA,hr,c0,c1,c2,c3⟩:=(HR.out.1.below a5).at_ hqn;subst hA;have HRQ:=Ac hr;have hmem:=List.mem_of_getElem? hr;have hti:=(HR.out.2 r hmem).below a5;have hrl:=HLE.out r hmem;have HA1:=Ac a1;have HA2:=Ac a2;have HA3:=Ac a3;have HA4:=Ac a4;have HA5:=Ac a5
    have y1:=Af wr (.cells #[.slice r.A r.n r.c,.bool r.s,.slice r.B r.m r.d,.bool r.f] 42);have x6:=AK.new 42 wr #[.slice r.A r.n r.c,.bool r.s,.slice r.B r.m r.d,.bool r.f];have hT:=Mx (.agg #[.slice r.A r.n r.c,.bool r.s,.slice r.B r.m r.d,.bool r.f]) r.L r.K r.f k _ ⟨_,_,_,_,_,_,_,rfl,hti.below y1⟩ (by omega) (by omega);have z0:=x6.r0;have z1:=x6.r1;have z2:=x6.r2;have z3:=x6.r3;have HY1:=Ac y1;clear hr hmem hti a1 a2 a3 a4 a5 x6 y1;go_wp2_with fail;refine hT.mono ?_
    rintro e w2 ⟨v2,rfl,⟨A2,n2,cc2,s2,B2,m2,d2,rfl,t2⟩,b2⟩;have HB2:=Ac (HY1.out.trans (b2.mono (by simp)));have hkn:=Nu r.rd;have HT2:=Ac t2;clear hT b2 t2 c0 c1 c2 c3 z0 z1 z2 z3 HY1;rw[show AR r.L r.K r.f=tk r.rd from rfl];rcases hkn with h0|h0|h0
    · rw[h0];have y3:=Af w2 (.cells #[.slice A2 n2 cc2,.bool s2,.slice B2 m2 d2,.bool (FG r.L r.K r.f)] 42);have x7:=AK.new 42 w2 #[.slice A2 n2 cc2,.bool s2,.slice B2 m2 d2,.bool (FG r.L r.K r.f)];have htl:=Jj r.L r.K r.f;have hbo:=OG (.agg #[.slice A2 n2 cc2,.bool s2,.slice B2 m2 d2,.bool (FG r.L r.K r.f)]) (K9 r.L r.K r.f) (Mk r.L r.K r.f) (FG r.L r.K r.f) (k+r.L.length+r.L.length) _ ⟨_,_,_,_,_,_,_,rfl,HT2.out.below y3⟩ (Ff h0) (by omega) (by omega);have z0:=x7.r0
      have z1:=x7.r1;have z2:=x7.r2;have z3:=x7.r3;have HY3:=Ac y3;have HTL:=Ac htl;have H0:=Ac h0;clear x7 y3 htl h0;go_wp2_with fail;refine hbo.mono ?_;rintro e w4 ⟨b,rfl,rb,hbd,b4⟩;unfold BV.agg;have HB4:=Ac ((HB2.out.next HY3.out).next b4);have HBR:=Ac rb;have HBD:=Ac hbd;have HNW:=Ac (AK.new 54 w4 #[.slice b.A b.n b.c,.bool b.s,.slice b.B b.m b.d,.bool b.lo.g,.bool b.lo.s,.slice b.lo.B b.lo.m b.lo.d,.bool b.hi.g,.bool b.hi.s,.slice b.hi.B b.hi.m b.hi.d])
      have HY5:=Ac (Af w4 (.cells #[.slice b.A b.n b.c,.bool b.s,.slice b.B b.m b.d,.bool b.lo.g,.bool b.lo.s,.slice b.lo.B b.lo.m b.lo.d,.bool b.hi.g,.bool b.hi.s,.slice b.hi.B b.hi.m b.hi.d] 54));clear hbo rb hbd b4 z0 z1 z2 z3;have HROW:=Ac ((HA1.out.below HB4.out).below HY5.out)
      have HBS:=Ac (show w0.heap.size<=(w4.alloc (.cells #[.slice b.A b.n b.c,.bool b.s,.slice b.B b.m b.d,.bool b.lo.g,.bool b.lo.s,.slice b.lo.B b.lo.m b.lo.d,.bool b.hi.g,.bool b.hi.s,.slice b.hi.B b.hi.m b.hi.d] 54)).heap.size from Nat.le_trans HA5.out.size (Nat.le_trans HB4.out.size HY5.out.size));have hsl:b.S.length<=M:=by have e1:b.S=(AX (tt r.rd)).S:=congrArg Bd.S HBD.out;rw[e1,QP (Ff H0.out).1];exact Nat.le_trans HTL.out hrl
      have HJ:=Ac (fun (v':Value) (w':World) (h1:LN 54 9 w' w0.heap.size v' (p+1) (Bc (bs++[b]))) (h2:Tn (Value.slice Ab p cb).ownBlock (w4.alloc (.cells #[.slice b.A b.n b.c,.bool b.s,.slice b.B b.m b.d,.bool b.lo.g,.bool b.lo.s,.slice b.lo.B b.lo.m b.lo.d,.bool b.hi.g,.bool b.hi.s,.slice b.hi.B b.hi.m b.hi.d] 54)) w')=>Uo (k:=k+3*M) (M:=M) (wr:=wr) HROW.out HA2.out HA3.out (fun x hx=>⟨((HA4.out x hx).1.below HB4.out).below HY5.out,(HA4.out x hx).2⟩) ((HA5.out.next HB4.out).next HY5.out) HPL.out a6 HRQ.out H0.out ((HBR.out.below HY5.out).mono (by have:=HTL.out;omega)) HBD.out hsl h1 h2)
      clear hsl;go_wp2_with (at_builtin;refine CW rfl _ _ rfl rfl w0.heap.size _ _ bs rfl HROW.out ⟨w4.heap.size,0,none⟩ 1 1 rfl [b] rfl (fun jj u hu=>by rw[addr_add,Nat.zero_add];exact HNW.out.cell jj u (by simpa[Bc,BV.cells] using hu)) (by omega) (by omega) HBS.out ?_;intro v' w' h1 h2;have HE:=Ac (HJ.out v' w' h1 h2);clear h1 h2);go_roundw
      case rel=>exact ⟨q+1,_,by omega,by go_num,rfl,HE.out⟩
      case measure=>simp[intOf]<;>omega
    · rw[h0];have y3:=Af w2 (.cells #[.slice A2 n2 cc2,.bool s2,.slice B2 m2 d2,.bool (FG r.L r.K r.f)] 42);have HE:=Ac (SR HT.out HRQ.out h0 (HB2.out.next y3));clear y3 h0;go_wp2_with fail;go_roundw
      case rel=>exact ⟨q+1,_,by omega,by go_num,rfl,HE.out⟩
      case measure=>simp[intOf]<;>omega
    · rw[h0];have y3:=Af w2 (.cells #[.slice A2 n2 cc2,.bool s2,.slice B2 m2 d2,.bool (FG r.L r.K r.f)] 42);have HE:=Ac (show H4 (rs.map RV.rd) (k+3*M+1+3*M) M w0 (.returned (.tuple #[.slice none 0 0,.bool false])) (w2.alloc (.cells #[.slice A2 n2 cc2,.bool s2,.slice B2 m2 d2,.bool (FG r.L r.K r.f)] 42)) from ⟨none,.inl ⟨r.rd,List.mem_map.2 ⟨r,List.mem_of_getElem? HRQ.out,rfl⟩,h0⟩,(HA5.out.next HB2.out).next y3,rfl⟩);clear y3 h0;go_wp2_with fail;go_ret2
      exact HE.out
  · have e0:q=n:=(by omega);subst e0;have g1:¬(q:Int)<(q:Int):=(by omega);obtain ⟨bs,a1,a2,a3,a4,a5,a6⟩:=HT.out;have hnn:rs.length=q:=HR.out.1.1;rw[List.take_of_length_le (by omega)]at a2 a3;obtain ⟨Ab,cb,hbv,hbc,hbc2,-⟩:=a1.lrow.len;subst hbv;have hJ:=ON w0.heap.size Ab bs.length cb (k+3*M) bs wr a1 (by omega) (fun b hb=>⟨(a4 b hb).1,Nat.le_trans (a4 b hb).2.1 (by omega),(a4 b hb).2.2⟩) (by omega);have HA1:=Ac a1;have HA2B:=Ac a2;have HA3B:=Ac a3;have HA2:=Ac a2
    have HA3:=Ac a3;have HA4:=Ac a4;have HA5:=Ac a5;clear a1 a2 a3 a4 a5 HT;go_wp2_with fail;refine hJ.mono ?_;rintro e w3 ⟨qs,js,jv,rfl,hp,hsb,hjd,hjl,hjr,hkt,hg⟩;have HB3:=Ac (HA1.out.lrow.old HA5.out hg (Nat.le_refl _) (Nat.le_refl _));have HOK:=Ac (show ∀j∈js,Nv j.bd/\j.S.length<=M from by
      have h1:=Gq (bs:=qs.map BV.bd) (fun c=>Nv c/\c.S.length<=M) (fun x y hx hy _=>⟨Kj hx.1 hy.1,hx.2⟩) (fun c hc=>by
        obtain ⟨b,hb,rfl⟩:=List.mem_map.1 hc;have hb':=hp.mem_iff.1 hb;exact ⟨(Gs _ _ (HA2.out▸List.mem_map.2 ⟨b,hb',rfl⟩)).1,(HA4.out b hb').2.1⟩)
      intro j hj;exact h1 j.bd (hjd▸List.mem_map.2 ⟨j,hj,rfl⟩))
    have HP:=Ac hp;have HSB:=Ac hsb;have HJD:=Ac hjd;have HJL:=Ac hjl;have HJR:=Ac hjr;have hjn:js.length<=1000:=by
      have h1:=congrArg List.length hjd;rw[List.length_map]at h1;rw[h1];have h2:=Q4 (qs.map BV.bd) (fun b hb=>by
        obtain ⟨b',hb',rfl⟩:=List.mem_map.1 hb;exact (Gs _ _ (HA2.out▸List.mem_map.2 ⟨b',hp.mem_iff.1 hb',rfl⟩)).2)
      have h3:(Ci (qs.map BV.bd)).length<=Kk (Ci (qs.map BV.bd)):=by
        generalize Ci (qs.map BV.bd)=l;induction l with
        |nil=>exact Nat.le_refl _
        |cons x l ih=>have:=S6 x;simp only[Kk,List.map_cons,List.sum_cons,List.length_cons]at *;omega
      rw[List.length_map,hp.length_eq]at h2;omega
    obtain ⟨Aj,cj,hjv,hjc,hjc2,-⟩:=hjl.lrow.len;subst hjv;clear hJ hp hsb hjd hjl hjr hkt hg HA1 HA2 HA3 HA4 HA5;go_wp2_with fail;go_loopw [9,39] (fun tv i wz=>∃(p:Nat) (tl:Value),p<=js.length/\i=.int .i64 p/\tl=tv/\Hid (P8 w3 js (k+3*M+1+3*M) M p tl wz)) (fun _ i _=>js.length-(intOf i).toNat)
    case atStart=>exact ⟨0,_,Nat.zero_le _,rfl,rfl,[],BR.nil _ _ _ _ _,rfl,(fun r hr=>by cases hr),(fun r hr=>by cases hr),Below.refl _ _,Nat.le_refl _⟩
    case round=>
      obtain ⟨p,tl,hp,rfl,rfl,HT2⟩:=hrel;by_cases hpj:p<js.length
      · have g1:(p:Int)<(js.length:Int):=(by omega);obtain ⟨j,hj⟩:∃j,js[p]?=some j:=⟨_,List.getElem?_eq_getElem hpj⟩;obtain ⟨ps,a1,a2,a3,a4,a5,a6⟩:=HT2.out;obtain ⟨gj,hgj,-,hlt,hc⟩:=HJL.out.lrow.cell (by omega);subst hgj;have z0:wr.cell? ⟨gj,p*9+0,none⟩=some (.slice j.A j.n j.c):=(Below.cell a5 (p:=⟨gj,p*9+0,none⟩) hlt).trans (hc (p*9+0) _ (Bj js p j hj 0 _ rfl)).1
        have z1:wr.cell? ⟨gj,p*9+1,none⟩=some (.bool j.s):=(Below.cell a5 (p:=⟨gj,p*9+1,none⟩) hlt).trans (hc (p*9+1) _ (Bj js p j hj 1 _ rfl)).1;have z2:wr.cell? ⟨gj,p*9+2,none⟩=some (.slice j.B j.m j.d):=(Below.cell a5 (p:=⟨gj,p*9+2,none⟩) hlt).trans (hc (p*9+2) _ (Bj js p j hj 2 _ rfl)).1;have z3:wr.cell? ⟨gj,p*9+3,none⟩=some (.bool j.lo.g):=(Below.cell a5 (p:=⟨gj,p*9+3,none⟩) hlt).trans (hc (p*9+3) _ (Bj js p j hj 3 _ rfl)).1
        have z4:wr.cell? ⟨gj,p*9+4,none⟩=some (.bool j.lo.s):=(Below.cell a5 (p:=⟨gj,p*9+4,none⟩) hlt).trans (hc (p*9+4) _ (Bj js p j hj 4 _ rfl)).1;have z5:wr.cell? ⟨gj,p*9+5,none⟩=some (.slice j.lo.B j.lo.m j.lo.d):=(Below.cell a5 (p:=⟨gj,p*9+5,none⟩) hlt).trans (hc (p*9+5) _ (Bj js p j hj 5 _ rfl)).1;have z6:wr.cell? ⟨gj,p*9+6,none⟩=some (.bool j.hi.g):=(Below.cell a5 (p:=⟨gj,p*9+6,none⟩) hlt).trans (hc (p*9+6) _ (Bj js p j hj 6 _ rfl)).1
        have z7:wr.cell? ⟨gj,p*9+7,none⟩=some (.bool j.hi.s):=(Below.cell a5 (p:=⟨gj,p*9+7,none⟩) hlt).trans (hc (p*9+7) _ (Bj js p j hj 7 _ rfl)).1;have z8:wr.cell? ⟨gj,p*9+8,none⟩=some (.slice j.hi.B j.hi.m j.hi.d):=(Below.cell a5 (p:=⟨gj,p*9+8,none⟩) hlt).trans (hc (p*9+8) _ (Bj js p j hj 8 _ rfl)).1;simp only[Nat.add_zero]at z0;obtain ⟨At,ct,htv,-,-,-⟩:=a1.lrow.len;subst htv;generalize hpl:ps.length=pn at *;have HPN:=Ac hpl;have hjm:=List.mem_of_getElem? hj
        have HJ:=Ac hj;have HA1:=Ac a1;have HA2:=Ac a2;have HA3:=Ac a3;have HA4:=Ac a4;have HA5:=Ac a5;have x11:=AK.new 54 wr #[.slice j.A j.n j.c,.bool j.s,.slice j.B j.m j.d,.bool j.lo.g,.bool j.lo.s,.slice j.lo.B j.lo.m j.lo.d,.bool j.hi.g,.bool j.hi.s,.slice j.hi.B j.hi.m j.hi.d];have y1:=Af wr (.cells #[.slice j.A j.n j.c,.bool j.s,.slice j.B j.m j.d,.bool j.lo.g,.bool j.lo.s,.slice j.lo.B j.lo.m j.lo.d,.bool j.hi.g,.bool j.hi.s,.slice j.hi.B j.hi.m j.hi.d] 54)
        have hok:=HOK.out j hjm;have hre:=KV j (k+3*M) _ (((HJR.out j hjm).below a5).below y1) (by omega) hok.1.1 (by omega);have HOKJ:=Ac hok;have HJM:=Ac hjm;have HY1:=Ac y1;have q0:=x11.cell 0 _ rfl;have q1:=x11.cell 1 _ rfl;have q2:=x11.cell 2 _ rfl;have q3:=x11.cell 3 _ rfl;have q4:=x11.cell 4 _ rfl;have q5:=x11.cell 5 _ rfl;have q6:=x11.cell 6 _ rfl;have q7:=x11.cell 7 _ rfl;have q8:=x11.cell 8 _ rfl;unfold EP BV.agg at hre
        clear hpl hj hjm a1 a2 a3 a4 a5 x11 y1 hok hc hlt;cases hds:BN j.bd with
        |none=>
         rw[hds]at hre;have HDS:=Ac hds;clear hds;go_wp2_with fail;refine hre.mono ?_;rintro e w5 ⟨rfl,b5⟩;have HE:=Ac (show H4 (rs.map RV.rd) (k+3*M+1+3*M) M w0 (.returned (.tuple #[.slice none 0 0,.bool false])) w5 from ⟨none,.inr ⟨qs.map BV.bd,by rw[<-HA2B.out];exact HP.out.map _,HSB.out,j.bd,by rw[<-HJD.out];exact List.mem_map.2 ⟨j,HJM.out,rfl⟩,HDS.out⟩,((HB3.out.trans (HA5.out.mono HB3.out.size)).next HY1.out).next b5,rfl⟩)
         clear hre b5 z0 z1 z2 z3 z4 z5 z6 z7 z8 q0 q1 q2 q3 q4 q5 q6 q7 q8;go_wp2_with fail;go_ret2
         exact HE.out
        |some ds=>
         rw[hds]at hre;have HDS:=Ac hds;clear hds;go_wp2_with fail;refine hre.mono ?_;rintro e w5 ⟨Ax,cx,xs,rfl,hx,hxd,hxc,hxc2,b5⟩;have hdp:=La HDS.out HOKJ.out.1;have HDL:=Ac (show ∀x∈xs,x.L.length<=M from fun x hm=>OP HDS.out HOKJ.out.1.1 HOKJ.out.2 x.rd (by rw[<-hxd];exact List.mem_map.2 ⟨x,hm,rfl⟩));have hdn:ds.length<=2:=(by have:=Pv j.bd;unfold TY at this;rw[HDS.out]at this;exact this);have HXD:=Ac hxd;have hxl:xs.length=ds.length:=(by rw[<-hxd,List.length_map])
         generalize hdl:ds.length=dn at *;have HDN:=Ac hdl;obtain ⟨bx,ox,hAx,hxcell⟩:=hx.1.2 hdp;subst hAx;have HXC:=Ac (show ∀jj u,(AL xs)[jj]?=some u->w5.cell? ((⟨bx,ox,none⟩:Addr).add jj)=some u from fun jj u hu=>by rw[addr_add];exact hxcell jj u hu);have HB5:=Ac (HY1.out.trans (b5.mono (by simp)));have HROW:=Ac (HA1.out.below HB5.out);have HBS:=Ac (show w3.heap.size<=w5.heap.size from Nat.le_trans HA5.out.size HB5.out.size);have HXR:=Ac hx.2
         have HJJ:=Ac (fun (v':Value) (w':World) (h1:LN 42 4 w' w3.heap.size v' (pn+dn) (AL (ps++xs))) (h2:Tn (Value.slice At pn ct).ownBlock w5 w')=>SS (k:=k+3*M+1+3*M) (M:=M) HROW.out HA2.out HA3.out (fun x hm=>⟨(HA4.out x hm).1.below HB5.out,(HA4.out x hm).2⟩) (HA5.out.next HB5.out) HPN.out a6 HJ.out HDS.out HDN.out HXD.out (fun x hm=>⟨(HXR.out x hm).mono (by have:=HOKJ.out.2;omega),HDL.out x hm⟩) h1 h2)
         clear hre b5 z0 z1 z2 z3 z4 z5 z6 z7 z8 q0 q1 q2 q3 q4 q5 q6 q7 q8 hx hxd hxcell hdl;go_wp2_with (at_builtin;refine Bm rfl _ _ rfl rfl w3.heap.size _ _ ps rfl HROW.out ⟨bx,ox,none⟩ dn cx rfl xs hxl HXC.out (by omega) (by omega) HBS.out ?_;intro v' w' h1 h2;have HE:=Ac (HJJ.out v' w' h1 h2);clear h1 h2);go_roundw
         case rel=>exact ⟨p+1,_,by omega,by go_num,rfl,HE.out⟩
         case measure=>simp[intOf]<;>omega
      · have e0:p=js.length:=(by omega);subst e0;have g1:¬(js.length:Int)<(js.length:Int):=(by omega);obtain ⟨ps,a1,a2,a3,a4,a5,a6⟩:=HT2.out;rw[List.take_of_length_le (Nat.le_refl _)]at a2 a3;obtain ⟨At,ct,htv,htc,htc2,-⟩:=a1.lrow.len;subst htv;have hso:=Mv w3.heap.size At ps.length ct (k+3*M+1+3*M) ps wr a1 (by omega) (fun r hr=>⟨(a4 r hr).1,by have:=(a4 r hr).2;omega⟩) (by omega);have hbb:=HB3.out.trans (a5.mono HB3.out.size);generalize hpl:ps.length=pn at *
        have HPN:=Ac hpl;have HA1:=Ac a1;have HA2:=Ac a2;have HA3:=Ac a3;have HA4:=Ac a4;have HA5:=Ac a5;have HBB:=Ac hbb;clear hpl a1 a2 a3 a4 a5 hbb;go_wp2_with fail;refine hso.mono ?_;rintro e w6 ⟨rfl,zs,hz,hzl,hzs,hzk,hzg⟩;have hzn:zs.length=pn:=(by rw[hz.length_eq];exact HPN.out);have hbz:=HA1.out.lrow.old HBB.out hzg (HB3.out.size) (Nat.le_refl _)
        have HE:=Ac (show H4 (rs.map RV.rd) (k+3*M+1+3*M) M w0 (.returned (.tuple #[.slice At pn ct,.bool true])) w6 from ⟨some (zs.map RV.rd),⟨fun r hr=>by
          obtain ⟨x,hx,rfl⟩:=List.mem_map.1 hr;exact HA3B.out x hx,qs.map BV.bd,by rw[<-HA2B.out];exact HP.out.map _,HSB.out,fun b hb=>by
          rw[<-HJD.out]at hb;obtain ⟨x,hx,rfl⟩:=List.mem_map.1 hb;exact HA3.out x hx,by rw[<-HJD.out,<-HA2.out];exact hz.map _,by rw[List.pairwise_map];exact hzs⟩,hbz,At,ct,zs,by rw[List.length_map,hzn],⟨by rw[List.length_map];rw[hzn];exact hzl.rels hzn,fun x hx=>hzk.2 _ _ _ _ (HA4.out x (hz.mem_iff.1 hx)).1⟩,rfl,by rw[List.length_map,hzn];exact htc,htc2,fun x hx=>(HA4.out x (hz.mem_iff.1 hx)).2⟩)
        clear hso hz hzl hzs hzk hzg hbz;go_wp2_with fail;go_ret2
        exact HE.out
end
section
open Go.RowKit
open Tm
def NE (w0:World) (rs:List RV) (k M q:Nat) (tv:Value) (wr:World):Prop:=
 ∃ts:List RV,LN 42 4 wr w0.heap.size tv ts.length (AL ts)/\ts.map RV.rd=Cs ((rs.take q).map RV.rd)/\(∀r∈rs.take q,tk r.rd≠-1)/\(∀t∈ts,Aw wr t.trm t.L t.K k/\t.L.length<=M)/\Below w0.heap.size w0 wr/\ts.length<=q
theorem K4 {rs:List RV} {q:Nat} {r x:RV} (hr:rs[q]?=some r) (hx:x∈rs.take (q+1)):x∈rs.take q\/x=r:=by
 rw[List.take_add_one,hr]at hx;rcases List.mem_append.1 hx with hx|hx
 · exact .inl hx
 · exact .inr (by simpa using hx)
theorem Uq {w0 wr w':World} {rs:List RV} {k M q:Nat} {tv:Value} {r:RV} (h:NE w0 rs k M q tv wr) (hr:rs[q]?=some r) (h1:tk r.rd=1) (hb:Below wr.heap.size wr w'):NE w0 rs k M (q+1) tv w':=by
 obtain ⟨ts,a1,a2,a3,a4,a5,a6⟩:=h;refine ⟨ts,a1.below hb,?_,fun x hx=>?_,fun t hm=>⟨(a4 t hm).1.below hb,(a4 t hm).2⟩,a5.next hb,by omega⟩
 · rw[Da hr,IB,if_neg (by omega),a2]
 · rcases K4 hr hx with hx|hx
   · exact a3 x hx
   · rw[hx];omega
theorem Vo {w0 W w':World} {rs ts:List RV} {k M q p:Nat} {tv v':Value} {r t:RV} (hl:LN 42 4 W w0.heap.size tv p (AL ts)) (a2:ts.map RV.rd=Cs ((rs.take q).map RV.rd)) (a3:∀r∈rs.take q,tk r.rd≠-1) (a4:∀t∈ts,Aw W t.trm t.L t.K k/\t.L.length<=M) (a5:Below w0.heap.size w0 W) (hp:ts.length=p) (a6:p<=q)
   (hr:rs[q]?=some r) (h1:tk r.rd=0) (ht:Aw W t.trm t.L t.K k) (htd:t.rd=tt r.rd) (htl:t.L.length<=M) (h2:LN 42 4 w' w0.heap.size v' (p+1) (AL (ts++[t]))) (h3:Tn tv.ownBlock W w'):NE w0 rs k M (q+1) v' w':=by
 subst hp;refine ⟨ts++[t],by rw[List.length_append];exact h2,?_,fun x hx=>?_,fun x hm=>?_,hl.lrow.old a5 h3.1 (Nat.le_refl _) (Nat.le_refl _),by simp;omega⟩
 · rw[Da hr,IB,if_pos h1,List.map_append,a2,<-htd];rfl
 · rcases K4 hr hx with hx|hx
   · exact a3 x hx
   · rw[hx];omega
 · rcases List.mem_append.1 hm with hm|hm
   · exact ⟨h3.2.2 _ _ _ _ (a4 x hm).1,(a4 x hm).2⟩
   · rw[List.mem_singleton]at hm;rw[hm];exact ⟨h3.2.2 _ _ _ _ ht,htl⟩
def IE (w3:World) (ts:List RV) (k M i:Nat) (ov:Value) (wz:World):Prop:=
 ∃(os:List RV) (A:Option Addr) (c:Nat),ov=.slice A os.length c/\BD wz A os.length os k/\Cr (ts.map RV.rd) i=some (os.map RV.rd)/\(∀p∈os,p.L.length<=M)/\Below w3.heap.size w3 wz/\os.length<=2*i
def Jk (rs:List R3) (k M:Nat) (w:World) (e:Ending) (w':World):Prop:=
 Below w.heap.size w w'/\((e=.returned (.tuple #[.slice none 0 0,.bool false])/\((∃r∈rs,tk r=-1)\/((∀r∈rs,tk r≠-1)/\Cr (Cs rs) (Cs rs).length=none))) \/
  ∃out A c ps,(∀r∈rs,tk r≠-1)/\Cr (Cs rs) (Cs rs).length=some out/\e=.returned (.tuple #[.slice A out.length c,.bool true])/\BD w' A out.length ps k/\ps.map RV.rd=out/\∀p∈ps,p.L.length<=M)
end
end Go.Proofs.YtmedjkhmadfjlaaGreat
