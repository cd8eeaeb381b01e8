/- Texts of one seat, put together: R4TidyB TidyT RSub R4TidyC. -/
import Derived.Test.YtmedjkhmadfjlaaGreatR42
import Derived.Test.YtmedjkhmadfjlaaGreatR40
import Derived.Test.YtmedjkhmadfjlaaGreatR28
import Derived.Test.YtmedjkhmadfjlaaGreatR37
import Derived.Test.YtmedjkhmadfjlaaGreatR27
set_option linter.unusedVariables false
set_option linter.unusedSimpArgs false
set_option maxRecDepth 100000
set_option maxHeartbeats 16000000
namespace Go.Proofs.YtmedjkhmadfjlaaGreat
section
open Go.RowKit
open Tm
def Jl (w5:World) (gl gh k:Nat) (lo hi:Option Int) (W:World):Prop:=
 ∃s A n c t B m d,AH W gl #[.bool s,.slice A n c]/\AH W gh #[.bool t,.slice B m d]/\(∀x,lo=some x->Au W (.agg #[.bool s,.slice A n c]) x k)/\(∀x,hi=some x->Au W (.agg #[.bool t,.slice B m d]) x k)/\Below w5.heap.size w5 W
section
variable {w5 W W':World} {gl gh gt k:Nat} {lo hi:Option Int}
theorem Jl.next (h:Jl w5 gl gh k lo hi W) (hb:Below W.heap.size W W'):Jl w5 gl gh k lo hi W':=by obtain ⟨s,A,n,c,t,B,m,d,h1,h2,h3,h4,h5⟩:=h;exact ⟨s,A,n,c,t,B,m,d,h1.next hb,h2.next hb,fun x hx=>(h3 x hx).below hb,fun x hx=>(h4 x hx).below hb,h5.next hb⟩
theorem Jl.old (h:Jl w5 gl gh k lo hi W):Below w5.heap.size w5 W:=by obtain ⟨s,A,n,c,t,B,m,d,h1,h2,h3,h4,h5⟩:=h;exact h5
theorem Jl.third {s9:Bool} {A9:Option Addr} {n9 c9:Nat} (h:Jl w5 gl gh k lo hi W) (hl:gl≠gt) (hh:gh≠gt) (h5:w5.heap.size<=gt) (hb:AH W gt #[.bool s9,.slice A9 n9 c9]) (ho:AA gt W W'):Jl w5 gl gh k lo hi W':=by obtain ⟨s,A,n,c,t,B,m,d,h1,h2,h3,h4,h6⟩:=h;exact ⟨s,A,n,c,t,B,m,d,h1.other ho hl,h2.other ho hh,fun x hx=>(h3 x hx).only hb ho,fun x hx=>(h4 x hx).only hb ho,AE h6 h5 ho⟩
theorem Jl.low {s9:Bool} {A9:Option Addr} {n9 c9:Nat} {x9:Int} (h:Jl w5 gl gh k lo hi W) (hne:gl≠gh) (h5:w5.heap.size<=gl) (hz:Au W (.agg #[.bool s9,.slice A9 n9 c9]) x9 k) (hb:AH W' gl #[.bool s9,.slice A9 n9 c9]) (ho:AA gl W W'):Jl w5 gl gh k (some x9) hi W':=by obtain ⟨s,A,n,c,t,B,m,d,h1,h2,h3,h4,h6⟩:=h;exact ⟨s9,A9,n9,c9,t,B,m,d,hb,h2.other ho (Ne.symm hne),fun x hx=>by injection hx with hx;exact hx▸hz.only h1 ho,fun x hx=>(h4 x hx).only h1 ho,AE h6 h5 ho⟩
theorem Jl.high {s9:Bool} {A9:Option Addr} {n9 c9:Nat} {x9:Int} (h:Jl w5 gl gh k lo hi W) (hne:gl≠gh) (h5:w5.heap.size<=gh) (hz:Au W (.agg #[.bool s9,.slice A9 n9 c9]) x9 k) (hb:AH W' gh #[.bool s9,.slice A9 n9 c9]) (ho:AA gh W W'):Jl w5 gl gh k lo (some x9) W':=by obtain ⟨s,A,n,c,t,B,m,d,h1,h2,h3,h4,h6⟩:=h;exact ⟨s,A,n,c,s9,A9,n9,c9,h1.other ho hne,hb,fun x hx=>(h3 x hx).only h2 ho,fun x hx=>by injection hx with hx;exact hx▸hz.only h2 ho,AE h6 h5 ho⟩
end
theorem Jl.lts {w5 W:World} {gl gh k:Nat} {lo hi:Option Int} (h:Jl w5 gl gh k lo hi W):gl<W.heap.size/\gh<W.heap.size:=by obtain ⟨s,A,n,c,t,B,m,d,h1,h2,-⟩:=h;exact ⟨h1.lt,h2.lt⟩
theorem Aw.knum {w:World} {A B:Option Addr} {n c m d k:Nat} {s:Bool} {L:List (Int×Int)} {K:Int} (h:Aw w (.agg #[.slice A n c,.bool s,.slice B m d]) L K k):Au w (.agg #[.bool s,.slice B m d]) K k:=by
 obtain ⟨A',n',c',s',B',m',d',e,h1,h2,h3,h4⟩:=h;injection e with e
 injection e with e
 simp only[List.cons.injEq,Value.slice.injEq,Value.bool.injEq,and_true]at e;obtain ⟨-,rfl,⟨rfl,rfl,rfl⟩⟩:=e;exact h4
theorem Ck (x y:Int):(BC x y=1/\y<x)\/(BC x y=0/\x=y)\/(BC x y=-1/\x<y):=by
 unfold BC;by_cases h1:x<y
 · right;right;exact ⟨by rw[if_pos h1],h1⟩
 · by_cases h2:y<x
   · left;exact ⟨by rw[if_neg h1,if_pos h2],h2⟩
   · right;left;exact ⟨by rw[if_neg h1,if_neg h2],by omega⟩
def H7 (gt k:Nat) (x:Int) (W:World):Prop:=∃s A n c,AH W gt #[.bool s,.slice A n c]/\Au W (.agg #[.bool s,.slice A n c]) x k
theorem H7.next {W W':World} {gt k:Nat} {x:Int} (h:H7 gt k x W) (hb:Below W.heap.size W W'):H7 gt k x W':=by obtain ⟨s,A,n,c,h1,h2⟩:=h;exact ⟨s,A,n,c,h1.next hb,h2.below hb⟩
theorem H7.other {W W':World} {gt g k n9 c9:Nat} {s9:Bool} {A9:Option Addr} {x:Int} (h:H7 gt k x W) (hne:gt≠g) (hb:AH W g #[.bool s9,.slice A9 n9 c9]) (ho:AA g W W'):H7 gt k x W':=by obtain ⟨s,A,n,c,h1,h2⟩:=h;exact ⟨s,A,n,c,h1.other ho hne,h2.only hb ho⟩
def G9 (w5:World) (ts:List RV) (a:RV) (gl gh k i q:Nat) (fst fr tb:Bool) (W:World):Prop:=
 fst=Dz ((ts.map RV.rd).take (min q i)) a.rd/\fr=(Cb ((ts.map RV.rd).take q) a.rd).lo.isSome/\tb=(Cb ((ts.map RV.rd).take q) a.rd).hi.isSome/\Jl w5 gl gh k (Cb ((ts.map RV.rd).take q) a.rd).lo (Cb ((ts.map RV.rd).take q) a.rd).hi W
theorem G9.step {w5 W:World} {ts:List RV} {a b:RV} {gl gh k i q:Nat} {fst fr tb fr2 to2:Bool} {W2:World} (h:G9 w5 ts a gl gh k i q fst fr tb W) (hb:ts[q]?=some b) (hs:E6 b.L a.L≠0) (h1:fr2=(GV a.rd b.rd (Cb ((ts.map RV.rd).take q) a.rd).lo).isSome) (h2:to2=(Cu a.rd b.rd (Cb ((ts.map RV.rd).take q) a.rd).hi).isSome)
  (h3:Jl w5 gl gh k (GV a.rd b.rd (Cb ((ts.map RV.rd).take q) a.rd).lo) (Cu a.rd b.rd (Cb ((ts.map RV.rd).take q) a.rd).hi) W2):G9 w5 ts a gl gh k i (q+1) (if q<i then false else fst) fr2 to2 W2:=by
 have hbd:(ts.map RV.rd)[q]?=some b.rd:=by rw[List.getElem?_map,hb];rfl
 have hsp:E6 b.rd.1 a.rd.1≠0:=hs;obtain ⟨e1,-,-,-⟩:=h;unfold G9;rw[Gb hbd,NB hbd,Ul hsp,Um hsp];refine ⟨?_,h1,h2,h3⟩;rw[decide_eq_false hsp,Bool.and_false,e1]
theorem G9.skip {w5 W W2:World} {ts:List RV} {a b:RV} {gl gh k i q:Nat} {fst fr tb:Bool} (h:G9 w5 ts a gl gh k i q fst fr tb W) (hb:ts[q]?=some b) (hs:E6 b.L a.L=0) (hw:Below W.heap.size W W2):G9 w5 ts a gl gh k i (q+1) fst fr tb W2:=by
 have hbd:(ts.map RV.rd)[q]?=some b.rd:=by rw[List.getElem?_map,hb];rfl
 have hsp:E6 b.rd.1 a.rd.1=0:=hs;obtain ⟨e1,e2,e3,e4⟩:=h;unfold G9;rw[Gb hbd,NB hbd,step_skip hsp,decide_eq_true hsp,Bool.and_true];refine ⟨?_,e2,e3,e4.next hw⟩;rw[e1];split<;>rfl
end
section
open Tm
theorem OQ {ts:List R3} {a:R3} (h:a∈ts):∃l,(Cb ts a).lo=some l:=by
 cases e:(Cb ts a).lo with
 |some l=>exact ⟨l,rfl⟩
 |none=>
  exfalso;have hs:E6 a.1 a.1=1:=if_pos rfl;have h1:=(SA ts a (CG a a-1) ⟨a.1,none,none⟩).1 (fun x hx=>by
   have e2:(ts.foldl (EK a) ⟨a.1,none,none⟩).lo=none:=e;rw[e2]at hx;cases hx)
  have h2:=h1.2 a h (by rw[hs];decide) (CG a a) (if_pos (.inl (by rw[hs];decide)));omega
theorem SU {x:Bd} {l:Int} (hl:x.lo=some l) (hh:x.hi=none):DT x=some [(x.S,-l,false)]:=by unfold DT;rw[hl,hh]
theorem SV {x:Bd} {l h:Int} (hl:x.lo=some l) (hh:x.hi=some h) (hlt:h<l):DT x=none:=by unfold DT;rw[hl,hh];dsimp only;rw[if_pos hlt]
theorem Ur {x:Bd} {l h:Int} (hl:x.lo=some l) (hh:x.hi=some h) (he:l=h):DT x=some [tt (x.S,-l,true)]:=by unfold DT;rw[hl,hh];dsimp only;rw[if_neg (by omega),if_pos he]
theorem Us {x:Bd} {l h:Int} (hl:x.lo=some l) (hh:x.hi=some h) (hlt:l<h):DT x=some [(x.S,-l,false),(AZ x.S,h,false)]:=by unfold DT;rw[hl,hh];dsimp only;rw[if_neg (by omega),if_neg (by omega)]
theorem Mz {L:List (Int×Int)} (h:norm L=L):norm (L++([]:List (Int×Int)).map fun p=>(p.1,-1*p.2))=L:=by rw[List.map_nil,List.append_nil,h]
theorem SX (L:List (Int×Int)):norm ([]++L.map fun p=>(p.1,-1*p.2))=AZ L:=by rw[List.nil_append];rfl
end
section
open Go.RowKit
open Tm
theorem Gv (v u:Value) (L M:List (Int×Int)) (K KM:Int) (k:Nat) (w0:World) (hv:D9 w0 v L K k) (hu:D9 w0 u M KM k) (hl:L.length<=500000) (hm:M.length<=500000) (hk:k<=10995116) :
   Calls Tryz.prog 31 #[v,u] w0 (BG (norm (L++M.map fun p=>(p.1,-1*p.2))) (K-KM) (k+2+M.length+1+(L.length+M.length)) w0):=by
 have hv0:=hv;have hu0:=hu;obtain ⟨A,n,c,s,B,m,d,rfl,-⟩:=hv;obtain ⟨A2,n2,c2,s2,B2,m2,d2,rfl,-⟩:=hu;obtain ⟨z0,z1,z2,z3,z4⟩:=Cc 40 40 40 w0 #[.slice A n c,.bool s,.slice B m d] #[.slice A2 n2 c2,.bool s2,.slice B2 m2 d2] #[.slice none 0 0,.bool false,.slice none 0 0];go_enter Tryz.func31,Tryz.ntmps31;go_wp2_with fail
 generalize hW0:(((w0.alloc (.cells #[.slice A n c,.bool s,.slice B m d] 40)).alloc (.cells #[.slice A2 n2 c2,.bool s2,.slice B2 m2 d2] 40)).alloc (.cells #[.slice none 0 0,.bool false,.slice none 0 0] 40))=W0 at *;clear hW0;have HB:=Ac (hu0.below z3);have HA:=Ac (hv0.below z3);have R0:=Ac z2;have T0:=Ac z3
 have HAD:=Ac (fun W v (h:Aw W v (norm (M.map fun p=>(p.1,p.2*-1))) (KM*-1) (k+2+M.length)) (hb:Below W0.heap.size W0 W)=>(show Calls Tryz.prog 51 #[.agg #[.slice A n c,.bool s,.slice B m d],v] W (BG (norm (L++(norm (M.map fun p=>(p.1,p.2*-1))))) (K+KM*-1) (k+2+M.length+1+(L.length+M.length)) W) from by have hq:=Bz (M.map fun p=>(p.1,p.2*-1));rw[List.length_map]at hq;exact (Qv _ v L _ K (KM*-1) (k+2+M.length) W ((HA.out.below hb).mono (by omega)) h.in_ hl (by omega) (by omega)).mono (fun e w' h=>h.mono (by omega))))
 unfold BG at HAD
 have SOF:=Ac (show ∀W,Below W0.heap.size W0 W->(W.cell? ⟨w0.heap.size,0,none⟩=some (.slice A n c)/\W.cell? ⟨w0.heap.size,1,none⟩=some (.bool s)/\W.cell? ⟨w0.heap.size,2,none⟩=some (.slice B m d)/\W.cell? ⟨w0.heap.size+1,0,none⟩=some (.slice A2 n2 c2)/\W.cell? ⟨w0.heap.size+1,1,none⟩=some (.bool s2)/\W.cell? ⟨w0.heap.size+1,2,none⟩=some (.slice B2 m2 d2)) from fun W h=>⟨(z0.next h).c0,(z0.next h).c1,(z0.next h).c2,(z1.next h).c0,(z1.next h).c1,(z1.next h).c2⟩)
 clear z0 z1 z2 z3 z4 hv0 hu0
 refine AW (by kernel_rfl) (by kernel_rfl) (by kernel_rfl) (by kernel_rfl) (fun w w'=>Below w.heap.size w w') (fun j v w=>match j with|0=>v=.agg #[.slice A n c,.bool s,.slice B m d]|1=>v=.agg #[.slice A2 n2 c2,.bool s2,.slice B2 m2 d2]|2=>Au w v (-1) 2|3=>Aw w v (norm (M.map fun p=>(p.1,p.2*-1))) (KM*-1) (k+2+M.length)|4=>Aw w v (norm (L++(norm (M.map fun p=>(p.1,p.2*-1))))) (K+KM*-1) (k+2+M.length+1+(L.length+M.length))|_=>True) (fun _ _ w=>Below W0.heap.size W0 w) ?_ (fun _=>Ap W0 1) ?_ ?_
 · intro j v w w' hT h;match j,h with
   |0,h=>exact h
   |1,h=>exact h
   |2,h=>exact h.below hT
   |3,h=>exact h.below hT
   |4,h=>exact h.below hT
   |j+5,h=>trivial
 · refine ⟨?_,?_,?_,?_,?_,trivial⟩
   · intro l9 σ w a hin hout hl hla hs hc hp hG hF;refine Ad.none rfl ?_;have e2:a.tmps.getD 2 undef=.pointer (some ⟨w0.heap.size,0,none⟩):=hout 2 (Ae (by kernel_rfl));have CC:=SOF.out w hG;obtain ⟨C0,C1,C2,D0,D1,D2⟩:=CC;refine Does.val (.agg #[.slice A n c,.bool s,.slice B m d]) (w':=w) ?_ ⟨Below.refl _ _,rfl,hG⟩;go_simp
   · intro l9 σ w a hin hout hl hla hs hc hp hG hF;refine Ad.none rfl ?_;have e3:a.tmps.getD 3 undef=.pointer (some ⟨w0.heap.size+1,0,none⟩):=hout 3 (Ae (by kernel_rfl));have CC:=SOF.out w hG;obtain ⟨C0,C1,C2,D0,D1,D2⟩:=CC;refine Does.val (.agg #[.slice A2 n2 c2,.bool s2,.slice B2 m2 d2]) (w':=w) ?_ ⟨Below.refl _ _,rfl,hG⟩;go_simp
   · intro l9 σ w a hin hout hl hla hs hc hp hG hF;refine Ad.none rfl ?_;refine Does.call ?_ (JK (-1) w (by omega) (by omega)) ?_
     · go_simp
     · rintro e w' ⟨v,rfl,z,hb⟩;exact ⟨_,rfl,hb,z,hG.next hb⟩
   · intro l9 σ w a hin hout hl hla hs hc hp hG hF;refine Ad.none rfl ?_;have e6:a.tmps.getD 6 undef=.agg #[.slice A2 n2 c2,.bool s2,.slice B2 m2 d2]:=Am (hin 1 6) rfl (hp ⟨1,.data⟩ (by simp) rfl) (hF 1);have e7:=hin 2 7 rfl (hp ⟨2,.data⟩ (by simp) rfl);have z2:=hF 2 (hp ⟨2,.data⟩ (by simp) rfl);refine Does.call ?_ (EI _ _ M KM (-1) k 2 w (HB.out.below hG) z2.in_ (by omega) (by omega) (by omega)) ?_
     · go_simp
     · rintro e w' ⟨v,rfl,z,hb⟩;exact ⟨_,rfl,hb,z,hG.next hb⟩
   · intro l9 σ w a hin hout hl hla hs hc hp hG hF;refine Ad.none rfl ?_;have e5:a.tmps.getD 5 undef=.agg #[.slice A n c,.bool s,.slice B m d]:=Am (hin 0 5) rfl (hp ⟨0,.data⟩ (by simp) rfl) (hF 0);have e8:=hin 3 8 rfl (hp ⟨3,.data⟩ (by simp) rfl);have z3:=hF 3 (hp ⟨3,.data⟩ (by simp) rfl);refine Does.call ?_ (HAD.out w _ z3 hG) ?_
     · go_simp
     · rintro e w' ⟨v,rfl,z,hb⟩;exact ⟨_,rfl,hb,z,hG.next hb⟩
 · intro o ho;injection ho with ho;subst ho
   intro l9 σ w a hall hin hout hG hF;refine Ad.none rfl ?_;have e4:a.tmps.getD 4 undef=.pointer (some ⟨w0.heap.size+1+1,0,none⟩):=hout 4 (KH (by kernel_rfl));have e9:=hin 4 9 rfl (by decide);have z4:=hF 4 (by decide);have z4:=hF 4 (by decide);obtain ⟨A8,n8,c8,s8,B8,m8,d8,ev8⟩:=Aw.form z4;rw[ev8]at e9 z4;have HR8:=Ac (R0.out.next hG);have HT8:=Ac (T0.out.next hG)
   refine Does.store_box (T:=40) (cells:=#[.slice A8 n8 c8,.bool s8,.slice B8 m8 d8]) rfl e4 e9 HR8.out (by kernel_rfl) rfl (by simp[Value.oneCell']) (fun w2 x9 o9=>?_);rw[show fin _ σ undef _=(Act.put (Act.put (Act.put (Act.put (Act.put (Act.put _ (some 5) (σ 0)) (some 6) (σ 1)) (some 7) (σ 2)) (some 8) (σ 3)) (some 9) (σ 4)) none undef) from (Bt hall).trans rfl];simp only[Act.put,List.setIfInBounds_toArray,List.set_cons_zero,List.set_cons_succ]
   have HZ8:=Ac (z4.only HR8.out o9);have HO:=Ac o9;generalize σ 0=tt0 at *;generalize σ 1=tt1 at *;generalize σ 2=tt2 at *;generalize σ 3=tt3 at *;generalize σ 4=tt4 at *;clear hF hG hall hin hout SOF z4 o9 e4 e9 ev8;go_wp2_with fail;refine BJ rfl rfl x9 rfl ?_;exact BG.eq ⟨_,rfl,HZ8.out,AE HT8.out (by omega) HO.out⟩ (ED (fun _=>rfl) (fun x=>by rw[DJ];simp)) (by omega)
end
section
open Go.RowKit
open Tm
theorem KB.rel {g m c d n:Nat} {B C:Option Addr} {s f:Bool} {w w':World} (hb:AK 42 w g #[.slice B m c,.bool s,.slice C n d,.bool f]) (ho:AA g w w'):KB w w':=
 ⟨hb.kp (Wg _ _ _ _ _ _ _ _) ho,fun _ _ _ _ x=>x.keep ho (hb.kp (Wg _ _ _ _ _ _ _ _) ho) (FE.offRel ⟨_,x,rfl⟩ hb)⟩
theorem LA {ts:List R3}:∀{i:Nat} {out:List R3},Cr ts i=some out->out.length<=2*i
 |0,out,h=>by
  injection h with h
  subst h;exact Nat.le_refl _
 |i+1,out,h=>by
  have hs:Cr ts i=none\/∃o,Cr ts i=some o:=by cases Cr ts i<;>simp
  rcases hs with hs|⟨o,hs⟩
  · rw[IA hs (i+1) (by omega)]at h;cases h
  · have hl:=LA hs;cases ha:ts[i]? with
    |none=>
     have e:Cr ts (i+1)=some o:=(by unfold Cr;rw[hs,ha]);rw[e]at h;injection h with h
     subst h;omega
    |some a=>
     cases hd:DT (Cb ts a) with
     |none=>
      rw[Kx hs ha hd]at h;cases h
     |some ds=>
      have h2:=SP hd;cases hf:Dz (ts.take i) a with
      |true=>
       rw[EQ hs ha hd hf]at h;injection h with h
       subst h;rw[QO];omega
      |false=>
       rw[ER hs ha hd hf]at h;injection h with h
       subst h;omega
end
end Go.Proofs.YtmedjkhmadfjlaaGreat
