/- Texts of one seat, put together: ExprW1 ExprW2 LexV LexTwo LexW LexX LexAny. -/
import Derived.Test.YtgohmojcopajoaaGreatDoorH05
import Derived.Test.YtgohmojcopajoaaGreatDoorH26
import Derived.Test.YtgohmojcopajoaaGreatDoorH03
import Derived.Test.YtgohmojcopajoaaGreatDoorH25
import Derived.Test.YtgohmojcopajoaaGreatDoorH21
import Derived.Test.YtgohmojcopajoaaGreatDoorH06
import Derived.Deep.DeepCutAuto
import Derived.Test.YtgohmojcopajoaaGreatDoorH04
import Derived.Laws.IdiomStrings
import Derived.BigRegion
import Derived.StillTailTactics
import Derived.Deep.CutBlock
set_option linter.unusedVariables false
set_option linter.unusedSimpArgs false
set_option maxRecDepth 100000
set_option maxHeartbeats 16000000
namespace Go.Proofs.YtgohmojcopajoaaGreatDoor
section
open Go.RowKit
open Lx Ex
theorem NC (p:Nat->Bool) (f:Nat->Nat) {n:Nat}:∀(m i:Nat),n-i=m->i<=n->∀q,i<=q->q<stop p f n i->p (f q)=true:=by
 intro m;induction m with
 |zero=>
  intro i hm hi q h1 h2;obtain rfl:i=n:=by omega
  rw[Hf]at h2;omega
 |succ m ih=>
  intro i hm hi q h1 h2;rw[CY p f (by omega)]at h2;by_cases hp:p (f i)=true
  · rw[if_pos hp]at h2;by_cases hq:q=i
    · rw[hq];exact hp
    · exact ih (i+1) (by omega) (by omega) q (by omega) h2
  · rw[if_neg hp]at h2;omega
theorem Pn (p:Nat->Bool) (s:ByteArray):∀(m k:Nat),k+m=s.size->(∀q,k<=q->q<s.size->p (Ad s q)=true)->Bn p s k=true:=by
 intro m;induction m with
 |zero=>
   intro k hk _;obtain rfl:k=s.size:=by omega
   exact FO p s
 |succ m ih=> intro k hk h;rw[Ed (p:=p) (k:=k) (by omega),h k (Nat.le_refl _) (by omega),ih (k+1) (by omega) (fun q h1 h2=>h q (by omega) h2)];rfl
theorem Uy {s:ByteArray} {t:Tok} (h:Lx.Good (Ad s) s.size t) (h3:t.1=3):Ea (s.extract t.2.1 t.2.2)=true:=by
 obtain ⟨h1,h2,h4,h5⟩:=h;obtain ⟨k,i,E⟩:=t;dsimp only at h1 h2 h4 h5 h3 ⊢
 subst h3;have hl:CU (Ad s i)=false:=by
   cases hh:CU (Ad s i) with
   |false=>rfl
   |true=>rw[AY,if_pos hh]at h5;cases h5
 have hd:Bq (Ad s i)=true:=by
   rw[AY,if_neg (by rw[hl];decide)]at h5;cases hh:Bq (Ad s i) with
   |true=>rfl
   |false=> rw[if_neg (by rw[hh];decide)]at h5;split at h5<;>cases h5
 have hE:E=stop Bq (Ad s) s.size i:=by rw[h4,Dg,if_neg (by rw[hl];decide),if_pos hd]
 have hge:=Fi Bq (Ad s) (n:=s.size) (i:=i) (by omega);have hgt:=Ii (Ad s) h1;rw[<-h4]at hgt;unfold Cl at h2;rw[if_neg (by rw[hl];decide),if_pos hd,<-hE]at h2;have hz:(s.extract i E).size=E-i:=ext_size s i E (by omega) (by omega);have hb:∀q,q<E-i->Ad (s.extract i E) q=Ad s (i+q):=fun q hq=>by
   have:=Di s i E q (by omega) (by omega);exact this
 have h60:¬60<E-i:=fun hh=>by rw[if_pos hh]at h2;cases h2
 rw[if_neg h60]at h2;have h48:¬(1<E-i/\Ad s i=48):=fun hh=>by rw[if_pos hh]at h2;cases h2
 unfold Ea;rw[hz];have hall:Bn SA (s.extract i E) 0=true:=by refine Pn _ _ (E-i) 0 (by rw[hz];omega) (fun q _ hq=>?_);rw[hz]at hq;rw[PL (Dy _ _),hb q hq];exact NC (n:=s.size) Bq (Ad s) _ i rfl (by omega) (i+q) (by omega) (by rw[<-hE];omega)
 rw[hall,Bool.and_true];have e0:Ad (s.extract i E) 0=Ad s i:=by rw[hb 0 (by omega)];rfl
 rw[e0];simp;refine ⟨⟨by omega,by omega⟩,?_⟩;rcases Nat.lt_or_ge 1 (E-i) with h9|h9
 · exact Or.inr (fun hh=>h48 ⟨h9,hh⟩)
 · exact Or.inl (by omega)
def Ah (s:ByteArray):List TK:=(Aw (Ad s) s.size).toks.map (tk s)
theorem L9 (s:ByteArray):(Ah s).length<=s.size+1:=by
 unfold Ah;rw[List.length_map];by_cases h:(Aw (Ad s) s.size).code=0
 · obtain ⟨hn,ts,h1,-,h3⟩:=EF h;have:=h3.lens ts 0 (Nat.zero_le _);rw[h1,List.length_append,List.length_cons,List.length_nil];omega
 · rw[Gi h];exact Nat.zero_le _
theorem LA {s:ByteArray} (h:(Aw (Ad s) s.size).code=0):0<(Ah s).length:=by unfold Ah;obtain ⟨hn,ts,h1,-,h3⟩:=EF h;rw[List.length_map,h1];simp
theorem JU (s:ByteArray):Jp (Ah s):=by
 intro t ht;unfold Ah at ht;by_cases hc:(Aw (Ad s) s.size).code=0
 · obtain ⟨hn,ts,h1,-,-⟩:=EF hc;rw[h1]at ht;simp at ht;rw[<-ht];rfl
 · rw[Gi hc]at ht;simp at ht
theorem El {s:ByteArray} {t:TK} (h:t∈Ah s):(t.kind=3->Ea t.text=true)/\t.kind<10/\t.text.size<=s.size:=by
 unfold Ah at h;obtain ⟨u,hu,rfl⟩:=List.mem_map.1 h;by_cases hc:(Aw (Ad s) s.size).code=0
 · obtain ⟨hn,ts,h1,h2,-⟩:=EF hc;rw[h1]at hu;rcases List.mem_append.1 hu with hu|hu
   · have hg:=h2 u hu;refine ⟨fun h3=>Uy hg h3,?_,?_⟩
     · show u.1<10;rw[hg.2.2.2];have:=Jm (Ad s u.2.1);omega
     · show (s.extract u.2.1 u.2.2).size<=s.size;rw[ByteArray.size_extract];omega
   · simp at hu;subst hu;refine ⟨(fun h3=>by cases h3),(by show 5<10;decide),?_⟩;show (s.extract s.size s.size).size<=s.size;rw[ByteArray.size_extract];omega
 · rw[Gi hc]at hu;cases hu
end
section
open Go.RowKit
open Lx Ex
end
section
open Go.RowKit
open Lx
theorem IC (w:World) (o:Obj):(w.alloc o).heap.size=w.heap.size+1:=by show (w.heap.push o).size=_;simp
theorem V7 (s:ByteArray) (n:Nat):s.extract n n=⟨#[]⟩:=by
 apply ByteArray.ext;apply Array.ext
 · simp
 · intro j h1 h2;simp at h2
theorem Ak.low {T:TypeId} {sz:Nat} {w:World} {base B:Nat} {v:Value} {n:Nat} {xs:List Value} (h:Ak T sz w base v n xs) (hB:B<=base):Ak T sz w B v n xs:=by refine ⟨h.1,h.2.imp id ?_⟩;rintro ⟨g,cap,cur,h1,h2,h3⟩;exact ⟨g,cap,cur,h1,Nat.le_trans hB h2,h3⟩
theorem IE.grown {w w':World} {g:Nat} {x y:Value} {T:TypeId} {sz base:Nat} {v:Value} {n:Nat} {xs:List Value} (h:IE w g x y) (hl:Ak T sz w base v n xs) (hgb:g<base) (hg:w.grownBy w' v.ownBlock):w'.heap[g]?=some (.cells #[x,y] 25 (0,0)):=
 (hg.block g (Array.getElem?_eq_some_iff.1 h).1 (fun e=>by have:=(hl.lt g e.symm).1;omega)).trans h
theorem NM (c:Nat):AY c<10:=by
 unfold AY;split
 · omega
 · split
   · omega
   · split<;>omega
def WX:Value->Nat
 |.string s=>s.size
 |_=>0
theorem Rw (s:ByteArray) (w:World) (hl:s.size<=16384):Calls Tryz.prog 50 #[.string s] w (E7 s w):=by
 have HEQ:=Aa (show Aw (Ad s) s.size=EP (Ad s) s.size (s.size+1) 0 [] from if_neg (by omega));go_enter Tryz.func50,Tryz.ntmps50;go_wp2_with fail
 go_loopw [0,5,6] (fun a b c wr=>∃(i m:Nat) (acc:List Tok),i<=s.size/\s.size<i+m/\a=.string (s.extract i s.size)/\b=cx (AD (Ad s) i)/\acc.length<=i/\Hid (Ak 113 4 wr (w.heap.size+1) c acc.length (Bu (acc.map (tk s))))/\Hid (Aw (Ad s) s.size=EP (Ad s) s.size m i acc)/\Hid (IE wr w.heap.size (.int .i64 0) (.int .i64 0))/\Hid (Below w.heap.size w wr)) (fun a _ _ _=>WX a)
 case atStart=>exact ⟨0,s.size+1,[],Nat.zero_le _,by omega,by simp,by unfold cx AD;simp only[show FL ((1:Nat):Int)=4607182418800017408 from Ji],Nat.le_refl _,Aa (Ak.nil _ _ _ _),HEQ,Aa (heap_alloc_new w _),Aa (Ae w _)⟩
 case round=>
  obtain ⟨i,m,acc,hi,him,rfl,rfl,hacc,HL,HE,HX,HB⟩:=hrel;obtain ⟨cA,cC,rfl,-,-,-⟩:=HL.out.len;have hz:=ext_size s i s.size hi (Nat.le_refl _);have hb:=Qu (s.extract i s.size) wr (by omega);have hsk:=Sv s i hi;have hge:=PD (Ad s) false hi;obtain ⟨d,hd⟩:∃d,skip (Ad (s.extract i s.size)) (s.extract i s.size).size 0 false=d:=⟨_,rfl⟩;rw[hd]at hb hsk;go_wp2_with fail;refine hb.mono ?_;rintro e w1 ⟨rfl,hw1⟩
  have B1:=Aa (show Below wr.heap.size wr w1 by obtain ⟨k1,rfl⟩:=hw1;exact Ao _ _);clear hw1 hb hd;have hid:i+d<=s.size:=by omega
  have HSK:=Aa hsk;clear hsk hge;have HAF:=Aa (show ∀W,Calls Tryz.prog 96 #[cx (AD (Ad s) i),.string ((s.extract i s.size).extract 0 d)] W (fun e w'=>e=.returned (cx (AD (Ad s) (i+d)))/\Below W.heap.size W w') from by
    intro W;have hq:=Hg (Ad s) i;have hx:(s.extract i s.size).extract 0 d=s.extract i (i+d):=by
      apply ByteArray.ext;apply Array.ext
      · (simp<;>omega)
      · intro j h1 h2;simp
    have hz2:=ext_size s i (i+d) (by omega) hid;have ha:=KI (s.extract i (i+d)) (AD (Ad s) i) W (by omega) hq.1 hq.2.2.1 (by omega) (by omega);rw[hz2,show i+d-i=d by omega,KP s i d hid]at ha;rw[hx];refine ha.mono ?_;rintro e w' ⟨rfl,k,rfl⟩;exact ⟨rfl,Ao _ _⟩)
  have HN:=Aa (show (s.extract i s.size).extract d (s.extract i s.size).size=s.extract (i+d) s.size by rw[hz];exact PI s i s.size d (Nat.le_refl _) hid);unfold cx at HAF;unfold cx;have hdr:d<=(s.extract i s.size).size:=by omega
  generalize FL ((AD (Ad s) i).1:Int)=A at *;generalize FL ((AD (Ad s) i).2:Int)=B at *;obtain ⟨A2,hA2⟩:∃x,x=FL ((AD (Ad s) (i+d)).1:Int):=⟨_,rfl⟩;obtain ⟨B2,hB2⟩:∃x,x=FL ((AD (Ad s) (i+d)).2:Int):=⟨_,rfl⟩;rw[<-hA2,<-hB2]at HAF;have HA2:=Aa hA2;have HB2:=Aa hB2;clear hA2 hB2;generalize hr:s.extract i s.size=r at *;clear hr;go_upto_region 6 with fail
  refine BJ (by kernel_rfl) (by kernel_rfl) (by kernel_rfl) (fun w w'=>Below w.heap.size w w') (fun j v w=>match j with|0=>v=.complex .f64 A B|1=>v=.string r|2=>v=.int .i64 (d:Int)|3=>v=.string (r.extract 0 d)|4=>v=.complex .f64 A2 B2|5=>v=.string r|6=>v=.int .i64 (d:Int)|7=>v=.string (r.extract d r.size)|8=>v=.complex .f64 A2 B2|9=>v=.string (r.extract d r.size)|_=>True) (fun _ _ w=>Below w1.heap.size w1 w) ?_ (fun _=>Ao w1 1) ?_ ?_
  · intro j v w w' hT h;match j,h with
    |0,h=>exact h
    |1,h=>exact h
    |2,h=>exact h
    |3,h=>exact h
    |4,h=>exact h
    |5,h=>exact h
    |6,h=>exact h
    |7,h=>exact h
    |8,h=>exact h
    |9,h=>exact h
    |j+10,h=>trivial
  · refine ⟨?_,?_,?_,?_,?_,?_,?_,?_,?_,?_,trivial⟩
    · intro listed σ w a hin hout hl hc hp hG hF;refine Ac.none rfl ?_;have e5:a.tmps.getD 5 undef=.complex .f64 A B:=hout 5 (D6 (j:=8) (by kernel_rfl) (Cd (k:=8) hc hl (by kernel_rfl)));refine Does.val (.complex .f64 A B) (w':=w) ?_ ⟨Below.refl _ _,rfl,hG⟩;simp only[Array.getD_eq_getD_getElem?]at e5;go_simp
    · intro listed σ w a hin hout hl hc hp hG hF;refine Ac.none rfl ?_;have e0:a.tmps.getD 0 undef=.string r:=hout 0 (D6 (j:=9) (by kernel_rfl) (Cd (k:=9) hc hl (by kernel_rfl)));refine Does.val (.string r) (w':=w) ?_ ⟨Below.refl _ _,rfl,hG⟩;simp only[Array.getD_eq_getD_getElem?]at e0;go_simp
    · intro listed σ w a hin hout hl hc hp hG hF;refine Ac.none rfl ?_;have e7:a.tmps.getD 7 undef=.int .i64 (d:Int):=hout 7 (Ag (by kernel_rfl));refine Does.val (.int .i64 (d:Int)) (w':=w) ?_ ⟨Below.refl _ _,rfl,hG⟩;simp only[Array.getD_eq_getD_getElem?]at e7;go_simp
    · intro listed σ w a hin hout hl hc hp hG hF;refine Ac.none rfl ?_;have e20:a.tmps.getD 20 undef=.string r:=(hin 1 20 rfl (hp ⟨1,.data⟩ (by simp) rfl)).trans (hF 1 (hp ⟨1,.data⟩ (by simp) rfl));have e21:a.tmps.getD 21 undef=.int .i64 (d:Int):=(hin 2 21 rfl (hp ⟨2,.data⟩ (by simp) rfl)).trans (hF 2 (hp ⟨2,.data⟩ (by simp) rfl));refine Does.val (.string (r.extract 0 d)) (w':=w) ?_ ⟨Below.refl _ _,rfl,hG⟩;simp only[Array.getD_eq_getD_getElem?]at e20 e21;go_simp
      (try (intro hh;exfalso;omega))
    · intro listed σ w a hin hout hl hc hp hG hF;refine Ac.none rfl ?_;have e19:a.tmps.getD 19 undef=.complex .f64 A B:=(hin 0 19 rfl (hp ⟨0,.data⟩ (by simp) rfl)).trans (hF 0 (hp ⟨0,.data⟩ (by simp) rfl));have e22:a.tmps.getD 22 undef=.string (r.extract 0 d):=(hin 3 22 rfl (hp ⟨3,.data⟩ (by simp) rfl)).trans (hF 3 (hp ⟨3,.data⟩ (by simp) rfl));refine Does.call ?_ (HAF.out w) ?_
      · go_simp
      · rintro e w' ⟨rfl,hb⟩;exact ⟨_,rfl,hb,rfl,hG.next hb⟩
    · intro listed σ w a hin hout hl hc hp hG hF;refine Ac.none rfl ?_;have e0:a.tmps.getD 0 undef=.string r:=hout 0 (D6 (j:=9) (by kernel_rfl) (Cd (k:=9) hc hl (by kernel_rfl)));refine Does.val (.string r) (w':=w) ?_ ⟨Below.refl _ _,rfl,hG⟩;simp only[Array.getD_eq_getD_getElem?]at e0;go_simp
    · intro listed σ w a hin hout hl hc hp hG hF;refine Ac.none rfl ?_;have e7:a.tmps.getD 7 undef=.int .i64 (d:Int):=hout 7 (Ag (by kernel_rfl));refine Does.val (.int .i64 (d:Int)) (w':=w) ?_ ⟨Below.refl _ _,rfl,hG⟩;simp only[Array.getD_eq_getD_getElem?]at e7;go_simp
    · intro listed σ w a hin hout hl hc hp hG hF;refine Ac.none rfl ?_;have e24:a.tmps.getD 24 undef=.string r:=(hin 5 24 rfl (hp ⟨5,.data⟩ (by simp) rfl)).trans (hF 5 (hp ⟨5,.data⟩ (by simp) rfl));have e25:a.tmps.getD 25 undef=.int .i64 (d:Int):=(hin 6 25 rfl (hp ⟨6,.data⟩ (by simp) rfl)).trans (hF 6 (hp ⟨6,.data⟩ (by simp) rfl));refine Does.val (.string (r.extract d r.size)) (w':=w) ?_ ⟨Below.refl _ _,rfl,hG⟩;simp only[Array.getD_eq_getD_getElem?]at e24 e25;go_simp
      (try (intro hh;exfalso;omega))
    · intro listed σ w a hin hout hl hc hp hG hF;refine Ac.none rfl ?_;have e23:a.tmps.getD 23 undef=.complex .f64 A2 B2:=(hin 4 23 rfl (hp ⟨4,.data⟩ (by simp) rfl)).trans (hF 4 (hp ⟨4,.data⟩ (by simp) rfl));refine Does.val (.complex .f64 A2 B2) (w':=w) ?_ ⟨Below.refl _ _,rfl,hG⟩;simp only[Array.getD_eq_getD_getElem?]at e23;go_simp
    · intro listed σ w a hin hout hl hc hp hG hF;refine Ac.none rfl ?_;have e26:a.tmps.getD 26 undef=.string (r.extract d r.size):=(hin 7 26 rfl (hp ⟨7,.data⟩ (by simp) rfl)).trans (hF 7 (hp ⟨7,.data⟩ (by simp) rfl));refine Does.val (.string (r.extract d r.size)) (w':=w) ?_ ⟨Below.refl _ _,rfl,hG⟩;simp only[Array.getD_eq_getD_getElem?]at e26;go_simp
  · intro listed σ W9 hall hG hF;rw[show mid _ σ listed _=(Act.put (Act.put (Act.put (Act.put (Act.put (Act.put (Act.put (Act.put (Act.put (Act.put _ (some 19) (σ 0)) (some 20) (σ 1)) (some 21) (σ 2)) (some 22) (σ 3)) (some 23) (σ 4)) (some 24) (σ 5)) (some 25) (σ 6)) (some 26) (σ 7)) (some 5) (σ 8)) (some 0) (σ 9)) from (Ca hall).trans rfl];generalize σ 0=tt0;generalize σ 1=tt1;generalize σ 2=tt2;generalize σ 3=tt3;generalize σ 4=tt4;generalize σ 5=tt5;generalize σ 6=tt6
    generalize σ 7=tt7;rw[show σ 8=.complex .f64 A2 B2 from hF 8 (by decide)];rw[show σ 9=.string (r.extract d r.size) from hF 9 (by decide)];simp only[Act.put,List.setIfInBounds_toArray,List.set_cons_zero,List.set_cons_succ];have TG:=hG;clear hF hG hall;clear σ;have HB2':=Aa (HB.out.next (B1.out.next TG));have HX2:=Aa ((HX.out.next B1.out).next TG);have HL2:=Aa ((HL.out.below B1.out).below TG);clear HAF TG;rw[HN.out]
    have HPS:=Aa (fun W=>PF (AD (Ad s) (i+d)) W (by have:=Hg (Ad s) (i+d);omega) (by have:=Hg (Ad s) (i+d);omega));unfold cx at HPS;rw[<-HA2.out,<-HB2.out]at HPS;have HPL:=Aa (show BP s=BP s from rfl);have hz3:=ext_size s (i+d) s.size hid (Nat.le_refl _);have he:=Dh (s.extract (i+d) s.size);have hne:((s.extract (i+d) s.size).toList==[])=decide ((s.extract (i+d) s.size).size=0):=(by rw[<-he];cases (s.extract (i+d) s.size).toList<;>rfl);rw[hz3]at he hne
    by_cases hend:i+d=s.size
    · have b1:decide (s.size-(i+d)=0)=true:=(by rw[decide_eq_true];omega);rw[b1]at he hne;have HR:=Aa (show Aw (Ad s) s.size=⟨acc++[(5,s.size,s.size)],0,0⟩ by
        obtain ⟨k,rfl⟩:∃k,m=k+1:=⟨m-1,by omega⟩;rw[HE.out,EP,<-HSK.out,if_pos hend])
      have HPQ:=Aa (show ∀v w',Ak 113 4 w' (w.heap.size+1) v (acc.map (tk s)++[(TK.mk 5 ⟨#[]⟩ (AD (Ad s) (i+d)).1 (AD (Ad s) (i+d)).2)]).length (Bu (acc.map (tk s)++[(TK.mk 5 ⟨#[]⟩ (AD (Ad s) (i+d)).1 (AD (Ad s) (i+d)).2)]))->Below w.heap.size w w' ->
          E7 s w (.returned (.tuple #[v,.agg #[.int .i64 0,.int .i64 0],.int .i64 0])) w' from by
        intro v w' h1 h2;have e5:(acc++[(5,s.size,s.size)]).map (tk s)=acc.map (tk s)++[(TK.mk 5 ⟨#[]⟩ (AD (Ad s) (i+d)).1 (AD (Ad s) (i+d)).2)]:=by rw[List.map_append,hend];simp only[List.map_cons,List.map_nil,tk];rw[V7]
        refine ⟨v,?_,h2,?_⟩
        · unfold BP;rw[HR.out];rfl
        · rw[HR.out];show Ak _ 4 w' w.heap.size v (acc++[(5,s.size,s.size)]).length _;have e6:(acc++[(5,s.size,s.size)]).length=(acc.map (tk s)++[TK.mk 5 ⟨#[]⟩ (AD (Ad s) (i+d)).1 (AD (Ad s) (i+d)).2]).length:=(by simp);rw[e5,e6];exact h1.low (Nat.le_succ _))
      clear hz3 b1 hend hid HE HSK;go_wp2_with fail;refine (HPS.out _).mono ?_;rintro e w3 ⟨rfl,b3⟩;clear he hne;have hx3:IE w3 w.heap.size (.int .i64 0) (.int .i64 0):=HX2.out.next b3;have hl3:=(HL2.out.below b3).below (Ae w3 (.cells (TK.cells (TK.mk 5 ⟨#[]⟩ (AD (Ad s) (i+d)).1 (AD (Ad s) (i+d)).2)).toArray 113));have hb3:=HB2'.out.next b3;have hz3:=hb3.size
      have X3:=Aa (hx3.next (Ae w3 (.cells (TK.cells (TK.mk 5 ⟨#[]⟩ (AD (Ad s) (i+d)).1 (AD (Ad s) (i+d)).2)).toArray 113)));have L3:=Aa hl3;have B3:=Aa (hb3.next (Ae w3 (.cells (TK.cells (TK.mk 5 ⟨#[]⟩ (AD (Ad s) (i+d)).1 (AD (Ad s) (i+d)).2)).toArray 113)));clear hx3 hl3 hb3 b3;go_wp2_with (first
        |(at_builtin;refine E6 rfl _ _ rfl (w.heap.size+1) _ (acc.map (tk s)) rfl (by rw[List.length_map];exact L3.out) w3.heap.size (TK.mk 5 ⟨#[]⟩ (AD (Ad s) (i+d)).1 (AD (Ad s) (i+d)).2) rfl (heap_alloc_new _ _) (by rw[List.length_map];omega) (by rw[IC];omega) ?_;intro v' w4 l4 g4;have x4:=X3.out.grown L3.out (Nat.lt_succ_self _) g4;have L4:=Aa l4;have B4:=Aa (L3.out.old B3.out g4 (Nat.le_succ _) (Nat.le_refl _));clear l4 g4)
        |(with_reducible refine wpList_store_row rfl 25 _ _ rfl w.heap.size #[.int .i64 0,.int .i64 0] rfl rfl 25 #[.int .i64 0,.int .i64 0] x4 (by kernel_rfl) rfl (by simp[Value.oneCell']) ?_))
      refine BX (g:=w.heap.size) (x:=.int .i64 0) (y:=.int .i64 0) rfl rfl rfl rfl (setRow_heap _ _ _ _ _ _ x4) rfl ?_;exact HPQ.out _ _ (L4.out.other (Ec _ _ _) (Or.inl (Nat.lt_succ_self _))) (B4.out.trans ((Ec _ _ _).below B4.out.size (Nat.le_refl _)))
    · have hj:i+d<s.size:=(by omega);have b1:decide (s.size-(i+d)=0)=false:=decide_eq_false (by omega);rw[b1]at he hne;clear b1 hend hid;generalize hjj:i+d=j at *;have hij:i<=j:=(by omega);clear hjj;have hzle:=Jk (Ad s) hj;have hgt:=Ii (Ad s) hj;have hfst:=fun W=>KN (s.extract j s.size) W (by rw[hz3];omega) (by rw[hz3];omega)
      rw[Kh s j hj,M7 s j hj]at hfst;have hck:=fun W=>KO (AY (Ad s j)) ((s.extract j s.size).extract 0 (AZ (Ad s) s.size j)) W (NM _) (by simp;omega)
      rw[UK s j hj]at hck;have herr:=I5 (Ad s) hj;have hx:(s.extract j s.size).extract 0 (AZ (Ad s) s.size j)=s.extract j (j+AZ (Ad s) s.size j):=by
        apply ByteArray.ext;apply Array.ext
        · (simp<;>omega)
        · intro j h1 h2;simp
      have HAF:=Aa (show ∀W,Calls Tryz.prog 96 #[cx (AD (Ad s) j),.string ((s.extract j s.size).extract 0 (AZ (Ad s) s.size j))] W (fun e w'=>e=.returned (cx (AD (Ad s) (j+AZ (Ad s) s.size j)))/\Below W.heap.size W w') from by intro W;have hq:=Hg (Ad s) j;have hz4:=ext_size s j (j+AZ (Ad s) s.size j) (by omega) hzle;have ha:=KI (s.extract j (j+AZ (Ad s) s.size j)) (AD (Ad s) j) W (by omega) hq.1 hq.2.2.1 (by omega) (by omega);rw[hz4,show j+AZ (Ad s) s.size j-j=AZ (Ad s) s.size j by omega,KP s j _ hzle]at ha;rw[hx];refine ha.mono ?_;rintro e w' ⟨rfl,k,rfl⟩;exact ⟨rfl,Ao _ _⟩)
      have HN:=Aa (show (s.extract j s.size).extract (AZ (Ad s) s.size j) (s.extract j s.size).size=s.extract (j+AZ (Ad s) s.size j) s.size by rw[hz3];exact PI s j s.size _ (Nat.le_refl _) hzle);have HX1:=Aa hx;have HEE:=Aa (show Aw (Ad s) s.size=if Cl (Ad s) s.size j≠0 then ⟨[],Cl (Ad s) s.size j,j⟩ else EP (Ad s) s.size (m-1) (Dg (Ad s) s.size j) (acc++[(AY (Ad s j),j,Dg (Ad s) s.size j)]) by obtain ⟨k,rfl⟩:∃k,m=k+1:=⟨m-1,by omega⟩;rw[HE.out,EP,<-HSK.out,if_neg (by omega)];rfl)
      have hdr:AZ (Ad s) s.size j<=(s.extract j s.size).size:=(by omega);have htm:s.size<j+m:=(by omega);clear hx HE HSK hz hdr;unfold cx at HAF;rw[<-HA2.out,<-HB2.out]at HAF;generalize hzz:AZ (Ad s) s.size j=z at *;generalize hkk:AY (Ad s j)=kk at *;generalize hxx:(s.extract j s.size).extract 0 z=tx at *;have hdr:z<=(s.extract j s.size).size:=(by omega);have HXX:=Aa hxx;clear hxx;have HFST:=Aa hfst;have HCK:=Aa hck;clear hfst hck;by_cases herz:Cl (Ad s) s.size j=0
      · have hen:j+z=Dg (Ad s) s.size j:=herr.2 (by omega);have hE2:=HEE.out.trans (if_neg (fun h=>h herz));rw[<-hen]at hE2;have hz0:0<z:=(by omega);have hiz:i<j+z:=(by omega);have HE2:=Aa hE2;have HTK:=Aa (show acc.map (tk s)++[TK.mk kk tx (AD (Ad s) j).1 (AD (Ad s) j).2]=(acc++[(kk,j,j+z)]).map (tk s) by
          rw[List.map_append,HX1.out];rfl)
        rw[herz]at HCK;have HM:=Aa hiz;have HAL:=Aa (show (acc++[(kk,j,j+z)]).length<=j+z by rw[List.length_append];simp only[List.length_cons,List.length_nil];omega);obtain ⟨A3,hA3⟩:∃x,x=FL ((AD (Ad s) (j+z)).1:Int):=⟨_,rfl⟩;obtain ⟨B3,hB3⟩:∃x,x=FL ((AD (Ad s) (j+z)).2:Int):=⟨_,rfl⟩;rw[<-hA3,<-hB3]at HAF;have HA3:=Aa hA3;have HB3:=Aa hB3;have hacc2:acc.length<16384+1:=(by omega);clear herr hE2 HEE herz hz3 hgt HX1 hij him hi hacc hen hA3 hB3 hiz
        generalize hr2:s.extract j s.size=r2 at *;clear hr2;go_wp2_with fail;refine (HFST.out _).mono ?_;rintro e w3 ⟨rfl,b3⟩;clear he hne;have X3:=Aa (HX2.out.next b3);have B3':=Aa (HB2'.out.next b3);have L3:=Aa (HL2.out.below b3);clear b3;go_wp2_with fail;rw[HXX.out];refine (HCK.out _).mono ?_;rintro e w4 ⟨rfl,k4,rfl⟩;have X4:=Aa (X3.out.next (Ao _ k4));have B4:=Aa (B3'.out.next (Ao _ k4));have L4:=Aa (L3.out.below (Ao _ k4));go_wp2_with fail
        refine (HPS.out _).mono ?_;rintro e w5 ⟨rfl,b5⟩;have hb5:=B4.out.next b5;have hz5:=hb5.size;have X5:=Aa ((X4.out.next b5).next (Ae w5 (.cells (TK.cells (TK.mk kk tx (AD (Ad s) j).1 (AD (Ad s) j).2)).toArray 113)));have L5:=Aa ((L4.out.below b5).below (Ae w5 (.cells (TK.cells (TK.mk kk tx (AD (Ad s) j).1 (AD (Ad s) j).2)).toArray 113)));have B5:=Aa (hb5.next (Ae w5 (.cells (TK.cells (TK.mk kk tx (AD (Ad s) j).1 (AD (Ad s) j).2)).toArray 113)));clear b5 hb5
        go_upto_region 15 with (at_builtin;refine E6 rfl _ _ rfl (w.heap.size+1) _ (acc.map (tk s)) rfl (by rw[List.length_map];exact L5.out) w5.heap.size (TK.mk kk tx (AD (Ad s) j).1 (AD (Ad s) j).2) rfl (heap_alloc_new _ _) (by rw[List.length_map];omega) (by rw[IC];omega) ?_;intro v' w6 l6 g6);have X6:=Aa (show IE w6 w.heap.size (.int .i64 0) (.int .i64 0) from X5.out.grown L5.out (Nat.lt_succ_self _) g6)
        have B6:=Aa (L5.out.old B5.out g6 (Nat.le_succ _) (Nat.le_refl _));rw[HTK.out,List.length_map]at l6;have L6:=Aa l6;clear l6 g6 HTK HFST HCK HPS L5 B5 X5 L4 B4 X4 L3 B3' X3 HB2' HX2 HL2 hz5
        refine BJ (by kernel_rfl) (by kernel_rfl) (by kernel_rfl) (fun w w'=>Below w.heap.size w w') (fun j v w=>match j with|0=>v=.complex .f64 A2 B2|1=>v=.string tx|2=>v=.complex .f64 A3 B3|3=>v=.string r2|4=>v=.int .i64 (z:Int)|5=>v=.string (r2.extract z r2.size)|6=>v=.complex .f64 A3 B3|7=>v=.string (r2.extract z r2.size)|_=>True) (fun _ _ w=>Below w6.heap.size w6 w) ?_ (fun _=>Ao w6 1) ?_ ?_
        · intro j v w w' hT h;match j,h with
          |0,h=>exact h
          |1,h=>exact h
          |2,h=>exact h
          |3,h=>exact h
          |4,h=>exact h
          |5,h=>exact h
          |6,h=>exact h
          |7,h=>exact h
          |j+8,h=>trivial
        · refine ⟨?_,?_,?_,?_,?_,?_,?_,?_,trivial⟩
          · intro listed σ w a hin hout hl hc hp hG hF;refine Ac.none rfl ?_;have e5:a.tmps.getD 5 undef=.complex .f64 A2 B2:=hout 5 (D6 (j:=6) (by kernel_rfl) (Cd (k:=6) hc hl (by kernel_rfl)));refine Does.val (.complex .f64 A2 B2) (w':=w) ?_ ⟨Below.refl _ _,rfl,hG⟩;simp only[Array.getD_eq_getD_getElem?]at e5;go_simp
          · intro listed σ w a hin hout hl hc hp hG hF;refine Ac.none rfl ?_;have e10:a.tmps.getD 10 undef=.string tx:=hout 10 (Ag (by kernel_rfl));refine Does.val (.string tx) (w':=w) ?_ ⟨Below.refl _ _,rfl,hG⟩;simp only[Array.getD_eq_getD_getElem?]at e10;go_simp
          · intro listed σ w a hin hout hl hc hp hG hF;refine Ac.none rfl ?_;have e60:a.tmps.getD 60 undef=.complex .f64 A2 B2:=(hin 0 60 rfl (hp ⟨0,.data⟩ (by simp) rfl)).trans (hF 0 (hp ⟨0,.data⟩ (by simp) rfl));have e61:a.tmps.getD 61 undef=.string tx:=(hin 1 61 rfl (hp ⟨1,.data⟩ (by simp) rfl)).trans (hF 1 (hp ⟨1,.data⟩ (by simp) rfl));refine Does.call ?_ (HAF.out w) ?_
            · go_simp
            · rintro e w' ⟨rfl,hb⟩;exact ⟨_,rfl,hb,rfl,hG.next hb⟩
          · intro listed σ w a hin hout hl hc hp hG hF;refine Ac.none rfl ?_;have e0:a.tmps.getD 0 undef=.string r2:=hout 0 (D6 (j:=7) (by kernel_rfl) (Cd (k:=7) hc hl (by kernel_rfl)));refine Does.val (.string r2) (w':=w) ?_ ⟨Below.refl _ _,rfl,hG⟩;simp only[Array.getD_eq_getD_getElem?]at e0;go_simp
          · intro listed σ w a hin hout hl hc hp hG hF;refine Ac.none rfl ?_;have e9:a.tmps.getD 9 undef=.int .i64 (z:Int):=hout 9 (Ag (by kernel_rfl));refine Does.val (.int .i64 (z:Int)) (w':=w) ?_ ⟨Below.refl _ _,rfl,hG⟩;simp only[Array.getD_eq_getD_getElem?]at e9;go_simp
          · intro listed σ w a hin hout hl hc hp hG hF;refine Ac.none rfl ?_;have e63:a.tmps.getD 63 undef=.string r2:=(hin 3 63 rfl (hp ⟨3,.data⟩ (by simp) rfl)).trans (hF 3 (hp ⟨3,.data⟩ (by simp) rfl));have e64:a.tmps.getD 64 undef=.int .i64 (z:Int):=(hin 4 64 rfl (hp ⟨4,.data⟩ (by simp) rfl)).trans (hF 4 (hp ⟨4,.data⟩ (by simp) rfl));refine Does.val (.string (r2.extract z r2.size)) (w':=w) ?_ ⟨Below.refl _ _,rfl,hG⟩
            simp only[Array.getD_eq_getD_getElem?]at e63 e64;go_simp;(try (intro hh;exfalso;omega))
          · intro listed σ w a hin hout hl hc hp hG hF;refine Ac.none rfl ?_;have e62:a.tmps.getD 62 undef=.complex .f64 A3 B3:=(hin 2 62 rfl (hp ⟨2,.data⟩ (by simp) rfl)).trans (hF 2 (hp ⟨2,.data⟩ (by simp) rfl));refine Does.val (.complex .f64 A3 B3) (w':=w) ?_ ⟨Below.refl _ _,rfl,hG⟩;simp only[Array.getD_eq_getD_getElem?]at e62;go_simp
          · intro listed σ w a hin hout hl hc hp hG hF;refine Ac.none rfl ?_;have e65:a.tmps.getD 65 undef=.string (r2.extract z r2.size):=(hin 5 65 rfl (hp ⟨5,.data⟩ (by simp) rfl)).trans (hF 5 (hp ⟨5,.data⟩ (by simp) rfl));refine Does.val (.string (r2.extract z r2.size)) (w':=w) ?_ ⟨Below.refl _ _,rfl,hG⟩;simp only[Array.getD_eq_getD_getElem?]at e65;go_simp
        · intro listed σ W9 hall hG hF;rw[show mid _ σ listed _=(Act.put (Act.put (Act.put (Act.put (Act.put (Act.put (Act.put (Act.put _ (some 60) (σ 0)) (some 61) (σ 1)) (some 62) (σ 2)) (some 63) (σ 3)) (some 64) (σ 4)) (some 65) (σ 5)) (some 5) (σ 6)) (some 0) (σ 7)) from (Ca hall).trans rfl];generalize σ 0=tt0;generalize σ 1=tt1;generalize σ 2=tt2;generalize σ 3=tt3;generalize σ 4=tt4;generalize σ 5=tt5;rw[show σ 6=.complex .f64 A3 B3 from hF 6 (by decide)]
          rw[show σ 7=.string (r2.extract z r2.size) from hF 7 (by decide)];simp only[Act.put,List.setIfInBounds_toArray,List.set_cons_zero,List.set_cons_succ];have TG:=hG;clear hF hG hall;clear σ;have B7:=Aa (B6.out.next TG);have X7:=Aa (X6.out.next TG);have L7:=Aa (L6.out.below TG);clear HAF TG;rw[HN.out];go_wp2_with fail;go_roundw
          case rel=>exact ⟨j+z,m-1,acc++[(kk,j,j+z)],hzle,by omega,rfl,by unfold cx;rw[HA3.out,HB3.out],HAL.out,L7,HE2,X7,B7⟩
          case measure=>
            show (s.extract (j+z) s.size).size<(s.extract i s.size).size;have h1:=HM.out;rw[ext_size s _ _ hzle (Nat.le_refl _),ext_size s i s.size (by omega) (Nat.le_refl _)];omega
      · have HER:=Aa (HEE.out.trans (if_pos herz));have HPQ:=Aa (show ∀w',Below w.heap.size w w'->E7 s w (.returned (.tuple #[.slice none 0 0,.agg #[.int .i64 ((AD (Ad s) j).1:Nat),.int .i64 ((AD (Ad s) j).2:Nat)],.int .i64 (Cl (Ad s) s.size j:Nat)])) w' from by
          intro w' h2;refine ⟨.slice none 0 0,?_,h2,?_⟩
          · unfold BP;rw[HER.out];dsimp only;rw[if_neg herz]
          · rw[HER.out];exact Ak.nil _ _ _ _)
        have hern:(((Cl (Ad s) s.size j:Nat):Int) != 0)=true:=(by simpa using herz);generalize Cl (Ad s) s.size j=er at *;clear HER HEE herr herz hz3 hzle hgt htm HX1 HAF HN hij him hi hacc;go_wp2_with fail;refine (HFST.out _).mono ?_;rintro e w3 ⟨rfl,b3⟩;clear he hne;have X3:=Aa (HX2.out.next b3);have B3:=Aa (HB2'.out.next b3);clear b3;go_wp2_with fail;rw[HXX.out];refine (HCK.out _).mono ?_;rintro e w4 ⟨rfl,k4,rfl⟩;have X4:=Aa (X3.out.next (Ao _ k4))
        have B4:=Aa (B3.out.next (Ao _ k4));go_wp2_with fail;refine (HPS.out _).mono ?_;rintro e w5 ⟨rfl,b5⟩;have x5:w5.heap[w.heap.size]?=some (.cells #[.int .i64 0,.int .i64 0] 25 (0,0)):=X4.out.next b5;have B5:=Aa (B4.out.next b5);clear b5
        go_wp2_with (with_reducible refine wpList_store_row rfl 25 _ _ rfl w.heap.size #[.int .i64 ((AD (Ad s) j).1:Nat),.int .i64 ((AD (Ad s) j).2:Nat)] rfl rfl 25 #[.int .i64 0,.int .i64 0] x5 (by kernel_rfl) rfl (by simp[Value.oneCell']) ?_);refine BX (g:=w.heap.size) (x:=.int .i64 ((AD (Ad s) j).1:Nat)) (y:=.int .i64 ((AD (Ad s) j).2:Nat)) rfl rfl rfl rfl (setRow_heap _ _ _ _ _ _ x5) rfl ?_
        exact HPQ.out _ (B5.out.trans ((Ec _ _ _).below B5.out.size (Nat.le_refl _)))
end
section
open Go.RowKit
open Lx
end
section
open Go.RowKit
open Lx
def ZY (s:ByteArray) (w wr:World) (c:Value) (acc:List Tok):Prop:=
 Ak 118 4 wr (w.heap.size+1) c acc.length (Bu (acc.map (tk s)))/\IE wr w.heap.size (.int .i64 0) (.int .i64 0)/\Below w.heap.size w wr
def XV (s:ByteArray) (w:World) (e:Ending) (w':World):Prop:=
 ∃v,e=.returned (.tuple #[v,.agg #[.int .i64 ((BP s (Aw (Ad s) s.size)).1:Nat),.int .i64 ((BP s (Aw (Ad s) s.size)).2:Nat)],.int .i64 ((Aw (Ad s) s.size).code:Nat)])/\Below w.heap.size w w' /\
  Ak 118 4 w' w.heap.size v (Aw (Ad s) s.size).toks.length (Bu ((Aw (Ad s) s.size).toks.map (tk s)))
end
section
open Go.RowKit
open Lx
end
section
open Go.RowKit
open Lx
theorem Mr (s:ByteArray) (w:World) (hs:s.size<=9223372036854775807):Calls Tryz.prog 50 #[.string s] w (E7 s w):=by
 by_cases h:s.size<=16384
 · exact Rw s w h
 · exact Sy s w hs (by omega)
end
end Go.Proofs.YtgohmojcopajoaaGreatDoor
