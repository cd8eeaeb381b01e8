/- Texts of one seat, put together: ExprP ExprQ ExprD ExprTb ShelfB KeepP. -/
import Derived.Test.YtgohmojcopajoaaGreatDoorT20
import Derived.Test.YtgohmojcopajoaaGreatDoorT26
import Derived.Shelf.Strings.Builder1
import Derived.Shelf.Strconv.Itoa3
import Derived.Test.YtgohmojcopajoaaGreatDoorT01
import Derived.Test.YtgohmojcopajoaaGreatDoorT17
set_option linter.unusedVariables false
set_option linter.unusedSimpArgs false
set_option maxRecDepth 100000
set_option maxHeartbeats 16000000
namespace Go.Proofs.YtgohmojcopajoaaGreatDoor.Ex
section
open Lx
theorem IR (s:ByteArray):s.extract 0 s.size=s:=by
 apply MQ;rw[G9 s 0 0 s.size (Nat.zero_le _) (Nat.le_refl _),DG];apply List.ext_getElem
 · rw[IQ,Dp];rfl
 · intro j h1 h2;simp only[Dv,List.getElem_map,List.getElem_range',Nat.one_mul,Nat.zero_add];unfold gL;rw[List.getD_eq_getElem?_getD,List.getElem?_eq_getElem h2];rfl
theorem LP {k:Nat} {s:ByteArray} (h:Qr k s=true):CI k (Dt s):=by
 unfold Qr at h;simp only[Bool.and_eq_true,decide_eq_true_eq]at h;obtain ⟨⟨⟨h1,h2⟩,h3⟩,h4⟩:=h;have h0:0<s.size:=by omega
 have f1:=GQ s 0 h0;rw[IR,h3]at f1;have f2:=Qq s 0 h0;rw[<-f1,IR,IR,h2,h4]at f2;have f3:=Gm (Ab s) h0;rw[<-f2,<-f1,Nat.zero_add]at f3;refine ⟨fun e=>?_,?_,?_,?_⟩
 · have:=Dp s;rw[e]at this;simp at this;omega
 · rw[<-DG,Dp];exact f2.symm
 · rw[<-DG,Dp];exact (f3.2 (by decide)).symm
 · rw[<-DG];exact h2
theorem FV {s:ByteArray} (h:BL s=true):CI 1 (Dt s):=by rw[<-Mw,Bool.and_eq_true]at h;exact LP h.1
theorem LQ {s:ByteArray} (h:Da s=true):CI 3 (Dt s):=by rw[<-number_eq]at h;exact LP h
def bp (p:PT):Nat×List Nat:=(p.1,Dt p.2)
def mk (s0:List Nat) (p:PT):Piece:=(s0,bp p)
def start (c:Nat):Bool:=Ci c || AV c || c==45 || c==33 || c==40
def JB (d:Nat):Bool:=!Ds d&&!AV d&&d != 62&&d != 61&&d != 46
theorem Hu (c k:Nat) {d:Nat} (h:JB d=true):Fi c k d=true:=by
 unfold JB at h;simp only[Bool.and_eq_true,Bool.not_eq_true',bne_iff_ne]at h;obtain ⟨⟨⟨⟨h1,h2⟩,h3⟩,h4⟩,h5⟩:=h;unfold Fi;rw[h1,h2];split
 · rfl
 · split
   · rfl
   · split
     · rfl
     · have:Gf c d=false:=by
        unfold Gf;simp only[show (d==62)=false from beq_eq_false_iff_ne.2 h3,show (d==61)=false from beq_eq_false_iff_ne.2 h4,show (d==46)=false from beq_eq_false_iff_ne.2 h5,Bool.and_false,Bool.or_self]
       rw[this];exact Bool.or_true _
theorem Um {d:Nat} (h:start d=true):d≠62/\d≠61/\d≠46:=by unfold start Ci AV at h;simp only[Bool.or_eq_true,Bool.and_eq_true,decide_eq_true_eq,beq_iff_eq]at h;omega
theorem MR (c:UInt8) (hc:Ci c.toNat=false/\AV c.toNat=false/\DV c.toNat=false) {d:Nat} (h:start d=true):Fi c.toNat 1 d=true:=by
 obtain ⟨h3,h4,h5⟩:=Um h;unfold Fi;rw[hc.1,hc.2.1,hc.2.2];simp only[Bool.false_eq_true,if_false];have:Gf c.toNat d=false:=by unfold Gf;simp only[show (d==62)=false from beq_eq_false_iff_ne.2 h3,show (d==61)=false from beq_eq_false_iff_ne.2 h4,show (d==46)=false from beq_eq_false_iff_ne.2 h5,Bool.and_false,Bool.or_self]
 rw[this];rfl
def OD (r:List Nat):Prop:=∀c cs,r=c::cs->JB c=true
theorem JC:OD []:=fun _ _ h=>by cases h
theorem Oo {c:Nat} {cs:List Nat} (h:JB c=true):OD (c::cs):=fun d ds e=>by
 injection e with e1 e2
 rw[<-e1];exact h
def CQ (m:Mn) (s0:List Nat):List Piece:=if m.num=eS then [mk s0 (1,m.var)] else if m.var=eS then [mk s0 (3,m.num)] else [mk s0 (3,m.num),mk [] (sg 42),mk [] (1,m.var)]
def Bu (l:List Mn):List Piece:=(l.map fun m=>mk [32] (sg (if m.neg then 45 else 43))::CQ m [32]).flatten
def Er:List Mn->List Nat->List Piece
 |[],_=>[]
 |m::l,s0=>(if m.neg then mk s0 (sg 45)::CQ m [] else CQ m s0)++Bu l
def Dq (c:Bool) (g:List Nat->List Piece) (s0:List Nat):List Piece:=if c then mk s0 (sg 40)::(g []++[mk [] (sg 41)]) else g s0
def CM:Tr->List Nat->List Piece
 |.leaf true,s0=>[mk s0 (1,⟨#[116,114,117,101]⟩)]
 |.leaf false,s0=>[mk s0 (1,⟨#[102,97,108,115,101]⟩)]
 |.cmp l op r,s0=>Er l s0++mk [32] (2,EA op)::Er r [32]
 |.deny t,s0=>mk s0 (sg 33)::Dq (AD t || Au t) (CM t) []
 |.both a b,s0=>Dq (Au a) (CM a) s0++mk [32] (sg 38)::Dq (AD b || Au b) (CM b) [32]
 |.any a b,s0=>CM a s0++mk [32] (sg 124)::Dq (Au b) (CM b) [32]
theorem P8 (m:Mn) (s0:List Nat):(CQ m s0).map (fun x=>x.2)=(Kt m).map bp:=by
 unfold CQ Kt;split
 · rfl
 · split<;>rfl
theorem Un (l:List Mn):(Bu l).map (fun x=>x.2)=(Cx l).map bp:=by
 induction l with
 |nil=>rfl
 |cons m l ih=>
  have e1:Bu (m::l)=mk [32] (sg (if m.neg then 45 else 43))::(CQ m [32]++Bu l):=by simp[Bu]
  have e2:Cx (m::l)=sg (if m.neg then 45 else 43)::(Kt m++Cx l):=by simp[Cx]
  rw[e1,e2,List.map_cons,List.map_cons,List.map_append,List.map_append,ih,P8];rfl
theorem QI (l:List Mn) (s0:List Nat):(Er l s0).map (fun x=>x.2)=(FQ l).map bp:=by
 cases l with
 |nil=>rfl
 |cons m l=>
  show ((if m.neg then mk s0 (sg 45)::CQ m [] else CQ m s0)++Bu l).map (fun x=>x.2)=((if m.neg then [sg 45] else [])++(Kt m++Cx l)).map bp;rw[List.map_append,List.map_append,List.map_append,Un];by_cases hn:m.neg=true
  · rw[if_pos hn,if_pos hn,List.map_cons,P8];rfl
  · rw[if_neg hn,if_neg hn,P8];rfl
theorem JD (c:Bool) (g:List Nat->List Piece) (l:List PT) (h:∀s0,(g s0).map (fun x=>x.2)=l.map bp) (s0:List Nat):(Dq c g s0).map (fun x=>x.2)=(KP c l).map bp:=by
 unfold Dq KP;cases c with
 |true=>simp only[if_true,List.map_cons,List.map_append,h,List.map_nil];rfl
 |false=>simp only[Bool.false_eq_true,if_false,h]
theorem Xh (t:Tr):∀s0,(CM t s0).map (fun x=>x.2)=(pr t).map bp:=by
 induction t with
 |leaf b=>intro s0;cases b<;>rfl
 |cmp l op x=>intro s0;simp only[CM,pr,List.map_append,List.map_cons,QI];rfl
 |deny t ih=>intro s0;simp only[CM,pr,List.map_cons,JD _ _ _ ih];rfl
 |both a b iha ihb=>intro s0;simp only[CM,pr,List.map_append,List.map_cons,JD _ _ _ iha,JD _ _ _ ihb];rfl
 |any a b iha ihb=>intro s0;simp only[CM,pr,List.map_append,List.map_cons,iha,JD _ _ _ ihb];rfl
def Ei (g:List Nat->List Piece):Prop:=∃k c cs ps,(∀s0,g s0=(s0,k,c::cs)::ps)/\start c=true
theorem Ei.head {g:List Nat->List Piece} (h:Ei g) (s0 last:List Nat):∃c cs,AF (g s0)++last=s0++c::cs/\start c=true:=by obtain ⟨k,c,cs,ps,h1,h2⟩:=h;refine ⟨c,cs++(AF ps++last),?_,h2⟩;rw[h1 s0,DF];simp
theorem Iz {x:List Nat} (h:CI 1 x):∃c cs,x=c::cs/\start c=true:=by
 obtain ⟨h1,h2,h3,h4⟩:=h;cases x with
 |nil=>exact absurd rfl h1
 |cons c cs=>
  refine ⟨c,cs,rfl,?_⟩;have h5:AL c=1:=h4;unfold AL at h5;unfold start;split at h5
  · rename_i hc;rw[hc];rfl
  · split at h5
    · cases h5
    · split at h5<;>cases h5
theorem MS {x:List Nat} (h:CI 3 x):∃c cs,x=c::cs/\start c=true:=by
 obtain ⟨h1,h2,h3,h4⟩:=h;cases x with
 |nil=>exact absurd rfl h1
 |cons c cs=>
  refine ⟨c,cs,rfl,?_⟩;have h5:AL c=3:=h4;unfold AL at h5;unfold start;split at h5
  · cases h5
  · split at h5
    · rename_i hc;rw[hc];simp
    · split at h5<;>cases h5
theorem IU (m:Mn) (h:Hr m):Ei (CQ m):=by
 obtain ⟨h1,h2,h3⟩:=h;by_cases hn:m.num=eS
 · have hv:m.var≠eS:=fun e=>h1 ⟨hn,e⟩
   obtain ⟨c,cs,e,hs⟩:=Iz (FV (h3.resolve_left hv));refine ⟨1,c,cs,[],fun s0=>?_,hs⟩;unfold CQ;rw[if_pos hn,<-e];rfl
 · obtain ⟨c,cs,e,hs⟩:=MS (LQ (h2.resolve_left hn));by_cases hv:m.var=eS
   · refine ⟨3,c,cs,[],fun s0=>?_,hs⟩;unfold CQ;rw[if_neg hn,if_pos hv,<-e];rfl
   · refine ⟨3,c,cs,[mk [] (sg 42),mk [] (1,m.var)],fun s0=>?_,hs⟩;unfold CQ;rw[if_neg hn,if_neg hv,<-e];rfl
theorem K0 (l:List Mn) (h:Dd l):Ei (Er l):=by
 obtain ⟨h1,h2,h3⟩:=h;cases l with
 |nil=>simp at h1
 |cons m l=>
  cases hn:m.neg with
  |true=>
   refine ⟨2,45,[],CQ m []++Bu l,fun s0=>?_,rfl⟩;show (if m.neg then mk s0 (sg 45)::CQ m [] else CQ m s0)++Bu l=_;rw[if_pos hn];rfl
  |false=> obtain ⟨k,c,cs,ps,e,hs⟩:=IU m (h3 m (List.mem_cons_self ..));refine ⟨k,c,cs,ps++Bu l,fun s0=>?_,hs⟩;show (if m.neg then mk s0 (sg 45)::CQ m [] else CQ m s0)++Bu l=_;rw[if_neg (by rw[hn];decide),e s0];rfl
theorem FW (c:Bool) (g:List Nat->List Piece) (h:Ei g):Ei (Dq c g):=by
 cases c with
 |true=>exact ⟨2,40,[],g []++[mk [] (sg 41)],fun s0=>rfl,rfl⟩
 |false=> obtain ⟨k,c,cs,ps,e,hs⟩:=h;exact ⟨k,c,cs,ps,fun s0=>e s0,hs⟩
theorem Hv {g:List Nat->List Piece} (h:Ei g) (qs:List Piece):Ei (fun s0=>g s0++qs):=by obtain ⟨k,c,cs,ps,e,hs⟩:=h;exact ⟨k,c,cs,ps++qs,fun s0=>(congrArg (·++qs) (e s0):g s0++qs=_),hs⟩
theorem DI (t:Tr):∀lv,right lv t->Ei (CM t):=by
 induction t with
 |leaf b=>intro lv _;cases b<;>exact ⟨1,_,_,[],fun s0=>rfl,by decide +kernel⟩
 |cmp l op x=>intro lv h;exact Hv (K0 l h.1) _
 |deny t ih=>intro lv _;exact ⟨2,33,[],Dq (AD t || Au t) (CM t) [],fun s0=>rfl,rfl⟩
 |both a b iha ihb=>
  intro lv h;obtain ⟨h1,-⟩:=h;refine Hv (FW _ _ ?_) _;split at h1
  · exact iha _ h1.2
  · exact iha _ h1
 |any a b iha ihb=>intro lv h;exact Hv (iha _ h.1) _
end
section
open Lx
def K1 (x:Piece):Prop:=CI x.2.1 x.2.2/\pass x.1 false=true
theorem Fj:pass [32] false=true:=rfl
theorem Ee (c:UInt8) (h:Bz (gL [c.toNat]) 1 0=0/\Ct (gL [c.toNat]) 1 0=1/\AL (gL [c.toNat] 0)=2):CI 2 (Dt ⟨#[c]⟩):=by
 have e:Dt ⟨#[c]⟩=[c.toNat]:=by simp[Dt]
 rw[e];exact ⟨List.cons_ne_nil _ _,h.1,h.2.1,h.2.2⟩
theorem LS:CI 2 (Dt ⟨#[45]⟩):=Ee 45 ⟨by decide +kernel,by decide +kernel,by decide +kernel⟩
theorem Se:CI 2 (Dt ⟨#[43]⟩):=Ee 43 ⟨by decide +kernel,by decide +kernel,by decide +kernel⟩
theorem Sf:CI 2 (Dt ⟨#[42]⟩):=Ee 42 ⟨by decide +kernel,by decide +kernel,by decide +kernel⟩
theorem LU:CI 2 (Dt ⟨#[33]⟩):=Ee 33 ⟨by decide +kernel,by decide +kernel,by decide +kernel⟩
theorem Sg:CI 2 (Dt ⟨#[38]⟩):=Ee 38 ⟨by decide +kernel,by decide +kernel,by decide +kernel⟩
theorem P9:CI 2 (Dt ⟨#[124]⟩):=Ee 124 ⟨by decide +kernel,by decide +kernel,by decide +kernel⟩
theorem LV:CI 2 (Dt ⟨#[40]⟩):=Ee 40 ⟨by decide +kernel,by decide +kernel,by decide +kernel⟩
theorem LW:CI 2 (Dt ⟨#[41]⟩):=Ee 41 ⟨by decide +kernel,by decide +kernel,by decide +kernel⟩
theorem V2 (op:Nat) (h:op<6):CI 2 (Dt (EA op)):=by
 have h6:op=0\/op=1\/op=2\/op=3\/op=4\/op=5:=by omega
 rcases h6 with rfl|rfl|rfl|rfl|rfl|rfl<;>exact ⟨by decide +kernel,by decide +kernel,by decide +kernel,by decide +kernel⟩
theorem LX:CI 1 (Dt ⟨#[116,114,117,101]⟩):=⟨by decide +kernel,by decide +kernel,by decide +kernel,by decide +kernel⟩
theorem PC:CI 1 (Dt ⟨#[102,97,108,115,101]⟩):=⟨by decide +kernel,by decide +kernel,by decide +kernel,by decide +kernel⟩
theorem MU (m:Mn) (h:Hr m) (s0:List Nat) (hs:pass s0 false=true):∀x∈CQ m s0,K1 x:=by
 obtain ⟨h1,h2,h3⟩:=h;unfold CQ;split
 · rename_i hn
   have hv:m.var≠eS:=fun e=>h1 ⟨hn,e⟩
   intro x hx;have:x=mk s0 (1,m.var):=by simpa using hx
   subst this;exact ⟨FV (h3.resolve_left hv),hs⟩
 · rename_i hn
   have gn:=LQ (h2.resolve_left hn);split
   · intro x hx;have:x=mk s0 (3,m.num):=by simpa using hx
     subst this;exact ⟨gn,hs⟩
   · rename_i hv
     intro x hx;simp only[List.mem_cons,List.not_mem_nil,or_false]at hx;rcases hx with rfl|rfl|rfl
     · exact ⟨gn,hs⟩
     · exact ⟨Sf,rfl⟩
     · exact ⟨FV (h3.resolve_left hv),rfl⟩
theorem Si (l:List Mn) (h:∀m∈l,Hr m):∀x∈Bu l,K1 x:=by
 induction l with
 |nil=>intro x hx;cases hx
 |cons m l ih=>
  intro x hx;have e1:Bu (m::l)=mk [32] (sg (if m.neg then 45 else 43))::(CQ m [32]++Bu l):=by simp[Bu]
  rw[e1]at hx;rcases List.mem_cons.1 hx with rfl|hx
  · refine ⟨?_,Fj⟩;cases m.neg
    · exact Se
    · exact LS
  · rcases List.mem_append.1 hx with hx|hx
    · exact MU m (h m (List.mem_cons_self ..)) [32] Fj x hx
    · exact ih (fun y hy=>h y (List.mem_cons_of_mem _ hy)) x hx
theorem K8 (l:List Mn) (h:Dd l) (s0:List Nat) (hs:pass s0 false=true):∀x∈Er l s0,K1 x:=by
 obtain ⟨h1,h2,h3⟩:=h;cases l with
 |nil=>simp at h1
 |cons m l=>
  intro x hx;have hx':x∈(if m.neg then mk s0 (sg 45)::CQ m [] else CQ m s0)++Bu l:=hx;rcases List.mem_append.1 hx' with hx|hx
  · split at hx
    · rcases List.mem_cons.1 hx with rfl|hx
      · exact ⟨LS,hs⟩
      · exact MU m (h3 m (List.mem_cons_self ..)) [] rfl x hx
    · exact MU m (h3 m (List.mem_cons_self ..)) s0 hs x hx
  · exact Si l (fun y hy=>h3 y (List.mem_cons_of_mem _ hy)) x hx
theorem I0 (c:Bool) (g:List Nat->List Piece) (h:∀s0,pass s0 false=true->∀x∈g s0,K1 x) (s0:List Nat) (hs:pass s0 false=true):∀x∈Dq c g s0,K1 x:=by
 cases c with
 |true=>
  intro x hx;have hx':x∈mk s0 (sg 40)::(g []++[mk [] (sg 41)]):=hx;rcases List.mem_cons.1 hx' with rfl|hx
  · exact ⟨LV,hs⟩
  · rcases List.mem_append.1 hx with hx|hx
    · exact h [] rfl x hx
    · have:x=mk [] (sg 41):=by simpa using hx
      subst this;exact ⟨LW,rfl⟩
 |false=>exact h s0 hs
theorem DJ {lv:Nat} {c:Bool} {t:Tr} (h:if c=true then 1<=lv/\right (lv-1) t else right lv t):∃l2,right l2 t:=by
 split at h
 · exact ⟨_,h.2⟩
 · exact ⟨_,h⟩
theorem V3 (t:Tr):∀lv,right lv t->∀s0,pass s0 false=true->∀x∈CM t s0,K1 x:=by
 induction t with
 |leaf b=>
  intro lv _ s0 hs x hx;cases b with
  |true=>
    have:x=mk s0 (1,⟨#[116,114,117,101]⟩):=by simpa[CM] using hx
    subst this;exact ⟨LX,hs⟩
  |false=>
    have:x=mk s0 (1,⟨#[102,97,108,115,101]⟩):=by simpa[CM] using hx
    subst this;exact ⟨PC,hs⟩
 |cmp l op y=>
  intro lv h s0 hs x hx;obtain ⟨h1,h2,h3⟩:=h;have hx':x∈Er l s0++mk [32] (2,EA op)::Er y [32]:=hx;rcases List.mem_append.1 hx' with hx|hx
  · exact K8 l h1 s0 hs x hx
  · rcases List.mem_cons.1 hx with rfl|hx
    · exact ⟨V2 op h2,Fj⟩
    · exact K8 y h3 [32] Fj x hx
 |deny t ih=>
  intro lv h s0 hs x hx;obtain ⟨l2,h2⟩:∃l2,right l2 t:=by
    unfold right at h;split at h
    · exact ⟨_,h.2⟩
    · exact ⟨_,h.2⟩
  have hx':x∈mk s0 (sg 33)::Dq (AD t || Au t) (CM t) []:=hx;rcases List.mem_cons.1 hx' with rfl|hx
  · exact ⟨LU,hs⟩
  · exact I0 _ _ (ih l2 h2) [] rfl x hx
 |both a b iha ihb=>
  intro lv h s0 hs x hx;obtain ⟨l1,h1⟩:=DJ h.1;obtain ⟨l2,h2⟩:=DJ h.2;have hx':x∈Dq (Au a) (CM a) s0++mk [32] (sg 38)::Dq (AD b || Au b) (CM b) [32]:=hx;rcases List.mem_append.1 hx' with hx|hx
  · exact I0 _ _ (iha l1 h1) s0 hs x hx
  · rcases List.mem_cons.1 hx with rfl|hx
    · exact ⟨Sg,Fj⟩
    · exact I0 _ _ (ihb l2 h2) [32] Fj x hx
 |any a b iha ihb=>
  intro lv h s0 hs x hx;obtain ⟨l2,h2⟩:=DJ h.2;have hx':x∈CM a s0++mk [32] (sg 124)::Dq (Au b) (CM b) [32]:=hx;rcases List.mem_append.1 hx' with hx|hx
  · exact iha lv h.1 s0 hs x hx
  · rcases List.mem_cons.1 hx with rfl|hx
    · exact ⟨P9,Fj⟩
    · exact I0 _ _ (ihb l2 h2) [32] Fj x hx
theorem Xi (r:List Nat):OD (32::r):=Oo (by decide)
theorem Xj (r:List Nat):OD (41::r):=Oo (by decide)
theorem GL (p:PT) (ps:List Piece) (r:List Nat):OD (AF (mk [32] p::ps)++r):=by rw[DF];exact Xi _
theorem K9 (r:List Nat):OD (AF [mk [] (sg 41)]++r):=by
 have e:AF [mk [] (sg 41)]++r=41::r:=by simp[AF,mk,bp,sg,Dt]
 rw[e];exact Xj _
theorem EP (x:Piece) (r:List Nat) (h:OD r):Fits [x] r:=⟨fun c cs e=>Hu _ _ (h c cs (by simpa[AF] using e)),trivial⟩
theorem MV (m:Mn) (h:Hr m) (s0:List Nat) (r:List Nat) (hr:OD r):Fits (CQ m s0) r:=by
 unfold CQ;split
 · exact EP _ r hr
 · split
   · exact EP _ r hr
   · rename_i hv
     obtain ⟨c0,cs0,e0,hs0⟩:=Iz (FV (h.2.2.resolve_left hv));refine ⟨fun c cs e=>?_,fun c cs e=>?_,EP _ r hr⟩
     · have e1:c=42:=by
        rw[DF]at e;simp[mk,bp,sg,Dt]at e;exact e.1.symm
       subst e1;exact Hu _ _ (by decide)
     · have e1:c=c0:=by
        rw[DF]at e;simp only[mk,bp,e0,List.nil_append,List.cons_append]at e;injection e with e _
        exact e.symm
       subst e1;exact MR 42 ⟨by decide,by decide,by decide⟩ hs0
theorem KA (l:List Mn) (r:List Nat) (hr:OD r):OD (AF (Bu l)++r):=by
 cases l with
 |nil=>exact hr
 |cons m l=>
  have e1:Bu (m::l)=mk [32] (sg (if m.neg then 45 else 43))::(CQ m [32]++Bu l):=by simp[Bu]
  rw[e1];exact GL _ _ _
theorem I1 (x:Piece) (g:List Nat->List Piece) (hg:Ei g) (r:List Nat) (h:Fits (g [32]) r):Fits (x::g [32]) r:=by
 refine ⟨fun c cs e=>?_,h⟩;obtain ⟨c1,cs1,e1,-⟩:=hg.head [32] r;rw[e1]at e;injection e with e _
 subst e;exact Hu _ _ (by decide)
theorem MW (s0:List Nat) (s:UInt8) (hc:Ci s.toNat=false/\AV s.toNat=false/\DV s.toNat=false) (g:List Nat->List Piece) (hg:Ei g) (qs:List Piece) (r:List Nat) (h:Fits (g []++qs) r):Fits (mk s0 (sg s)::(g []++qs)) r:=by
 refine ⟨fun c cs e=>?_,h⟩;obtain ⟨c1,cs1,e1,hs⟩:=hg.head [] (AF qs++r);rw[BF,List.append_assoc,e1]at e;injection e with e _
 subst e;have e2:(mk s0 (sg s)).2.2=[s.toNat]:=by simp[mk,bp,sg,Dt]
 rw[e2];exact MR s hc hs
theorem Sj (l:List Mn) (h:∀m∈l,Hr m) (r:List Nat) (hr:OD r):Fits (Bu l) r:=by
 induction l with
 |nil=>trivial
 |cons m l ih=>
  have e1:Bu (m::l)=(mk [32] (sg (if m.neg then 45 else 43))::CQ m [32])++Bu l:=by simp[Bu]
  rw[e1];refine Fits.append ?_ (ih (fun y hy=>h y (List.mem_cons_of_mem _ hy)));exact I1 _ (CQ m) (IU m (h m (List.mem_cons_self ..))) _ (MV m (h m (List.mem_cons_self ..)) [32] _ (KA l r hr))
theorem KB (l:List Mn) (h:Dd l) (s0:List Nat) (r:List Nat) (hr:OD r):Fits (Er l s0) r:=by
 obtain ⟨h1,h2,h3⟩:=h;cases l with
 |nil=>simp at h1
 |cons m l=>
  have hm:=h3 m (List.mem_cons_self ..);have hrest:=Sj l (fun y hy=>h3 y (List.mem_cons_of_mem _ hy)) r hr;show Fits ((if m.neg then mk s0 (sg 45)::CQ m [] else CQ m s0)++Bu l) r;refine Fits.append ?_ hrest;split
  · have:=MW s0 45 ⟨by decide,by decide,by decide⟩ (CQ m) (IU m hm) [] (AF (Bu l)++r) (by rw[List.append_nil];exact MV m hm [] _ (KA l r hr));rwa [List.append_nil]at this
  · exact MV m hm s0 _ (KA l r hr)
theorem I2 (c:Bool) (g:List Nat->List Piece) (hg:Ei g) (h:∀s0 r,OD r->Fits (g s0) r) (s0:List Nat) (r:List Nat) (hr:OD r):Fits (Dq c g s0) r:=by
 cases c with
 |true=>
  show Fits (mk s0 (sg 40)::(g []++[mk [] (sg 41)])) r;exact MW s0 40 ⟨by decide,by decide,by decide⟩ g hg _ r (Fits.append (h [] _ (K9 r)) (EP _ r hr))
 |false=>exact h s0 r hr
theorem V4 (t:Tr):∀lv,right lv t->∀s0 r,OD r->Fits (CM t s0) r:=by
 induction t with
 |leaf b=>intro lv _ s0 r hr;cases b<;>exact EP _ r hr
 |cmp l op y=>
  intro lv h s0 r hr;obtain ⟨h1,h2,h3⟩:=h;show Fits (Er l s0++mk [32] (2,EA op)::Er y [32]) r;refine Fits.append (KB l h1 s0 _ (GL _ _ _)) ?_;exact I1 _ (Er y) (K0 y h3) r (KB y h3 [32] r hr)
 |deny t ih=>
  intro lv h s0 r hr;obtain ⟨l2,h2⟩:∃l2,right l2 t:=by
   unfold right at h;split at h
   · exact ⟨_,h.2⟩
   · exact ⟨_,h.2⟩
  have hp:=FW (AD t || Au t) _ (DI t l2 h2);have hf:=I2 (AD t || Au t) _ (DI t l2 h2) (ih l2 h2) [] r hr;have:=MW s0 33 ⟨by decide,by decide,by decide⟩ _ hp [] r (by rw[List.append_nil];exact hf);rw[List.append_nil]at this;exact this
 |both a b iha ihb=>
  intro lv h s0 r hr;obtain ⟨l1,h1⟩:=DJ h.1;obtain ⟨l2,h2⟩:=DJ h.2;show Fits (Dq (Au a) (CM a) s0++mk [32] (sg 38)::Dq (AD b || Au b) (CM b) [32]) r;refine Fits.append (I2 _ _ (DI a l1 h1) (iha l1 h1) s0 _ (GL _ _ _)) ?_;exact I1 _ _ (FW _ _ (DI b l2 h2)) r (I2 _ _ (DI b l2 h2) (ihb l2 h2) [32] r hr)
 |any a b iha ihb=> intro lv h s0 r hr;obtain ⟨l2,h2⟩:=DJ h.2;show Fits (CM a s0++mk [32] (sg 124)::Dq (Au b) (CM b) [32]) r;refine Fits.append (iha lv h.1 s0 _ (GL _ _ _)) ?_;exact I1 _ _ (FW _ _ (DI b l2 h2)) r (I2 _ _ (DI b l2 h2) (ihb l2 h2) [32] r hr)
end
section
open Lx
def Bv:List Bool->List PT
 |[]=>[(1,⟨#[116,114,117,101]⟩)]
 |false::bs=>sg 40::(Bv bs++[sg 41])
 |true::bs=>sg 33::Bv bs
def ER:List Bool->Tr
 |[]=>.leaf true
 |false::bs=>ER bs
 |true::bs=>.deny (ER bs)
def DK:Nat->List Bool->List PT
 |0,_=>[]
 |_+1,[]=>[]
 |k+1,false::bs=>DK k bs++[sg 41]
 |k+1,true::bs=>DK k bs
theorem PD (bs:List Bool):AD (ER bs)=false/\Au (ER bs)=false:=by
 induction bs with
 |nil=>exact ⟨rfl,rfl⟩
 |cons b bs ih=>
  cases b with
  |true=>exact ⟨rfl,rfl⟩
  |false=>exact ih
theorem Oq (bs:List Bool):∀lv,bs.length<=lv->right lv (ER bs):=by
 induction bs with
 |nil=>intro lv _;trivial
 |cons b bs ih=>
  intro lv h;rw[List.length_cons]at h;cases b with
  |true=>
   have hf:=PD bs;show right lv (.deny (ER bs));unfold right;rw[hf.1,hf.2,if_neg (by decide)];exact ⟨by omega,ih _ (by omega)⟩
  |false=>exact ih lv (by omega)
theorem Jq {kn:ByteArray->Bool} {lv:Nat} {r r1:List PT} {t:Tr} (h:Am kn .one lv r=.ok t r1) (h1:AK ⟨#[38]⟩ r1=false) (h2:AK ⟨#[124]⟩ r1=false):Am kn .cond lv r=.ok t r1:=by rw[EB,Dy,h];show bind (Am kn (.bothGo t) lv r1) _=_;rw[F7 kn lv t r1 h1];exact IL kn lv t r1 h2
theorem Gd {kn:ByteArray->Bool} {lv c:Nat} {r r1:List PT} (h:Am kn .one lv r=.err c r1):Am kn .cond lv r=.err c r1:=by rw[EB,Dy,h];rfl
theorem V6 (kn:ByteArray->Bool) (bs:List Bool):∀lv,bs.length<=lv->∀r,Am kn .one lv (Bv bs++r)=.ok (ER bs) r:=by
 induction bs with
 |nil=>
  intro lv _ r;show Am kn .one lv ((1,⟨#[116,114,117,101]⟩)::r)=_;rw[BS,if_neg (fun hh=>by rw[CX _ _ (by decide),CX _ _ (by decide)]at hh;rcases hh.2 with h|h<;>cases h),if_neg (by rw[CX _ _ (by decide)];decide),if_neg (by rw[CX _ _ (by decide)];decide),if_pos (MJ _ _)]
  rfl
 |cons b bs ih=>
  intro lv h r;rw[List.length_cons]at h;cases b with
  |true=>
   show Am kn .one lv (sg 33::(Bv bs++r))=_;rw[BS,if_neg (fun hh=>by omega),if_pos (Do 33 _),List.tail_cons,ih (lv-1) (by omega) r];rfl
  |false=> have e:Bv (false::bs)++r=KP true (Bv bs)++r:=(by simp[Bv,KP]);rw[e];exact LH kn lv (Bv bs) r (ER bs) (by omega) (Jq (ih (lv-1) (by omega) (sg 41::r)) (Cy 41 _ (by decide) r) (Cy 41 _ (by decide) r))
theorem Uo (kn:ByteArray->Bool) (lv:Nat):∀(bs:List Bool),lv<bs.length->∀r,Am kn .one lv (Bv bs++r)=.err 102 (Bv (bs.drop lv)++(DK lv bs++r)):=by
 induction lv with
 |zero=>
  intro bs h r;cases bs with
  |nil=>simp at h
  |cons b bs=>
   cases b with
   |true=>
    show Am kn .one 0 (sg 33::(Bv bs++r))=.err 102 (sg 33::(Bv bs++r));rw[BS,if_pos ⟨rfl,Or.inl (Do 33 _)⟩]
   |false=>
    have e:Bv (false::bs)++r=sg 40::(Bv bs++sg 41::r):=(by simp[Bv]);show Am kn .one 0 (Bv (false::bs)++r)=.err 102 (Bv (false::bs)++r);rw[e,BS,if_pos ⟨rfl,Or.inr (Do 40 _)⟩]
 |succ lv ih=>
  intro bs h r;cases bs with
  |nil=>simp at h
  |cons b bs=>
   rw[List.length_cons]at h;cases b with
   |true=>
    show Am kn .one (lv+1) (sg 33::(Bv bs++r))=_;rw[BS,if_neg (fun hh=>by omega),if_pos (Do 33 _),List.tail_cons,show lv+1-1=lv by omega,ih bs (by omega) r];rfl
   |false=> have e:Bv (false::bs)++r=sg 40::(Bv bs++sg 41::r):=(by simp[Bv]);rw[e,BS,if_neg (fun hh=>by omega),if_neg (by rw[Cy 40 _ (by decide)];decide),if_pos (Do 40 _),List.tail_cons,show lv+1-1=lv by omega,Gd (ih bs (by omega) (sg 41::r))];show Out.err 102 (Bv (bs.drop lv)++(DK lv bs++sg 41::r))=.err 102 (Bv (bs.drop lv)++(DK lv bs++[sg 41]++r));rw[List.append_assoc];rfl
def V7 (o:ByteArray) (t:Tok):PT:=(t.1,o.extract t.2.1 t.2.2)
theorem Xk {p q:PT} (h:bp p=bp q):p=q:=by have h1:=(Prod.mk.inj h).1;have h2:=MQ (Prod.mk.inj h).2;exact Prod.ext h1 h2
theorem V8 (o:ByteArray) (ts:List Tok) (h:∀t∈ts,t.2.1<=t.2.2/\t.2.2<=o.size):(ts.map (V7 o)).map bp=ts.map (fun u=>(u.1,Dv (Ab o) u)):=by rw[List.map_map];refine List.map_congr_left (fun t ht=>?_);show (t.1,Dt (o.extract t.2.1 t.2.2))=_;rw[G9 o t.1 t.2.1 t.2.2 (h t ht).1 (h t ht).2]
theorem JE (o:ByteArray) (ps:List Piece) (l:List PT) (ho:Dt o=AF ps) (hg:∀x∈ps,CI x.2.1 x.2.2/\pass x.1 false=true) (hf:Fits ps []) (hl:ps.map (fun x=>x.2)=l.map bp) (hN:o.size<=16384) :
  (Aj (Ab o) o.size).code=0/\(Aj (Ab o) o.size).toks.map (V7 o)=l++[(5,eS)]/\(Aj (Ab o) o.size).toks.map (fun t=>t.2.1)=FU 0 ps++[o.size]:=by
 have hz:(AF ps).length=o.size:=by rw[<-ho,Dp]
 obtain ⟨ts',h1,h2,h3,h4⟩:=V1 ps [] rfl hg hf (by rw[List.append_nil,hz];exact hN);rw[List.append_nil,hz]at h1 h3;rw[List.append_nil]at h2;rw[<-ho,<-DG]at h1 h2;rw[h1];refine ⟨rfl,?_,by rw[List.map_append,h4];rfl⟩;rw[List.map_append];have e1:ts'.map (V7 o)=l:=(List.map_inj_right (f:=bp) (fun a b=>Xk)).1 (by rw[V8 o ts' h3,h2,hl]);rw[e1];congr 1
 show [(5,o.extract o.size o.size)]=_;have e5:o.extract o.size o.size=eS:=by apply MQ;rw[G9 o 5 o.size o.size (Nat.le_refl _) (Nat.le_refl _),Sd];rfl
 rw[e5]
theorem Sk (kn:ByteArray->Bool) (o:ByteArray) (t:Tr) (lv:Nat) (h:right lv t) (hk:knows kn t) (ho:Dt o=AF (CM t [])) (hN:o.size<=16384) :
  (Aj (Ab o) o.size).code=0/\Am kn .cond lv ((Aj (Ab o) o.size).toks.map (V7 o))=.ok t [(5,eS)]:=by
 obtain ⟨h1,h2,-⟩:=JE o (CM t []) (pr t) ho (V3 t lv h [] rfl) (V4 t lv h [] [] JC) (Xh t []) hN;exact ⟨h1,by rw[h2];exact Pl kn t lv h hk⟩
theorem Sl:Ep [((5,eS):PT)]:=by
 have hz:∀x:ByteArray,AK x [(5,eS)]=false:=fun x=>by simp[AK]
 exact ⟨hz _,hz _,hz _⟩
theorem Lf (kn:ByteArray->Bool) (o:ByteArray) (l:List Mn) (h:Dd l) (hk:Fh kn l) (ho:Dt o=AF (Er l [])) (hN:o.size<=16384) :
  (Aj (Ab o) o.size).code=0/\Be kn ((Aj (Ab o) o.size).toks.map (V7 o))=.ok l [(5,eS)]:=by
 obtain ⟨h1,h2,-⟩:=JE o (Er l []) (FQ l) ho (K8 l h [] rfl) (KB l h [] [] JC) (QI l []) hN;exact ⟨h1,by rw[h2];exact Kv kn l _ h hk Sl⟩
def AX:List Bool->List Piece
 |[]=>[mk [] (1,⟨#[116,114,117,101]⟩)]
 |false::bs=>mk [] (sg 40)::(AX bs++[mk [] (sg 41)])
 |true::bs=>mk [] (sg 33)::AX bs
theorem KC (bs:List Bool):(AX bs).map (fun x=>x.2)=(Bv bs).map bp:=by
 induction bs with
 |nil=>rfl
 |cons b bs ih=>
  cases b with
  |true=>simp only[AX,Bv,List.map_cons,ih];rfl
  |false=>simp only[AX,Bv,List.map_cons,List.map_append,ih,List.map_nil];rfl
theorem Jr (bs:List Bool):∀x∈AX bs,K1 x:=by
 induction bs with
 |nil=>
  intro x hx;have:x=mk [] (1,⟨#[116,114,117,101]⟩):=by simpa[AX] using hx
  subst this;exact ⟨LX,rfl⟩
 |cons b bs ih=>
  intro x hx;cases b with
  |true=>
   rcases List.mem_cons.1 (show x∈mk [] (sg 33)::AX bs from hx) with rfl|hx
   · exact ⟨LU,rfl⟩
   · exact ih x hx
  |false=>
   rcases List.mem_cons.1 (show x∈mk [] (sg 40)::(AX bs++[mk [] (sg 41)]) from hx) with rfl|hx
   · exact ⟨LV,rfl⟩
   · rcases List.mem_append.1 hx with hx|hx
     · exact ih x hx
     · have:x=mk [] (sg 41):=by simpa using hx
       subst this;exact ⟨LW,rfl⟩
theorem Ot (bs:List Bool) (last:List Nat):∃c cs,AF (AX bs)++last=c::cs/\start c=true:=by
 cases bs with
 |nil=>exact ⟨116,[114,117,101]++last,by simp[AX,AF,mk,bp,Dt],by decide⟩
 |cons b bs=>
  cases b with
  |true=>exact ⟨33,AF (AX bs)++last,by simp[AX,AF,mk,bp,Dt,sg],by decide⟩
  |false=>exact ⟨40,AF (AX bs++[mk [] (sg 41)])++last,by simp[AX,AF,mk,bp,Dt,sg],by decide⟩
theorem Js (bs:List Bool):∀r,OD r->Fits (AX bs) r:=by
 induction bs with
 |nil=>intro r hr;exact EP _ r hr
 |cons b bs ih=>
  intro r hr;have at1:∀(s:UInt8) (qs:List Piece),Ci s.toNat=false/\AV s.toNat=false/\DV s.toNat=false->Fits (AX bs++qs) r->Fits (mk [] (sg s)::(AX bs++qs)) r:=by
   intro s qs hc h;refine ⟨fun c cs e=>?_,h⟩;obtain ⟨c1,cs1,e1,hs⟩:=Ot bs (AF qs++r);rw[BF,List.append_assoc,e1]at e;injection e with e _
   subst e;have e2:(mk [] (sg s)).2.2=[s.toNat]:=(by simp[mk,bp,sg,Dt]);rw[e2];exact MR s hc hs
  cases b with
  |true=>
   have:=at1 33 [] ⟨by decide,by decide,by decide⟩ (by rw[List.append_nil];exact ih r hr);rw[List.append_nil]at this;exact this
  |false=>exact at1 40 [mk [] (sg 41)] ⟨by decide,by decide,by decide⟩ (Fits.append (ih _ (K9 r)) (EP _ r hr))
theorem LY (kn:ByteArray->Bool) (o:ByteArray) (bs:List Bool) (ho:Dt o=AF (AX bs)) (hN:o.size<=16384) :
   (Aj (Ab o) o.size).code=0/\(bs.length<=60->Am kn .cond 60 ((Aj (Ab o) o.size).toks.map (V7 o))=.ok (ER bs) [(5,eS)]/\right 60 (ER bs)) /\
    (60<bs.length->Am kn .cond 60 ((Aj (Ab o) o.size).toks.map (V7 o))=.err 102 (Bv (bs.drop 60)++(DK 60 bs++[(5,eS)]))):=by
 obtain ⟨h1,h2,-⟩:=JE o (AX bs) (Bv bs) ho (Jr bs) (Js bs [] JC) (KC bs) hN;have hz:∀x:ByteArray,AK x [((5,eS):PT)]=false:=fun x=>by simp[AK]
 refine ⟨h1,fun hl=>⟨?_,Oq bs 60 hl⟩,fun hl=>?_⟩
 · rw[h2];exact Jq (V6 kn bs 60 hl _) (hz _) (hz _)
 · rw[h2];exact Gd (Uo kn 60 bs hl _)
end
section
open Lx
def ub (s:ByteArray):List UInt8:=s.data.toList
def Ej (l:List UInt8):List Nat:=l.map UInt8.toNat
theorem Ef (a b:List UInt8):Ej (a++b)=Ej a++Ej b:=by simp[Ej]
theorem IW (s:ByteArray):Dt s=Ej (ub s):=rfl
theorem QJ (l:List UInt8):ub ⟨l.toArray⟩=l:=by simp[ub]
def Gi (m:Mn):List UInt8:=ub m.num++((if m.num≠eS/\m.var≠eS then [42] else [])++ub m.var)
def GW (first neg:Bool):List UInt8:=if first then (if neg then [45] else []) else (if neg then [32,45,32] else [32,43,32])
def AP:Bool->List Mn->List UInt8
 |_,[]=>[]
 |f,m::l=>GW f m.neg++(Gi m++AP false l)
def Cq (c:Bool) (l:List UInt8):List UInt8:=if c then 40::(l++[41]) else l
def Ai:Tr->List UInt8
 |.leaf true=>[116,114,117,101]
 |.leaf false=>[102,97,108,115,101]
 |.cmp l op r=>AP true l++(32::(ub (EA op)++32::AP true r))
 |.deny t=>33::Cq (AD t || Au t) (Ai t)
 |.both a b=>Cq (Au a) (Ai a)++([32,38,32]++Cq (AD b || Au b) (Ai b))
 |.any a b=>Ai a++([32,124,32]++Cq (Au b) (Ai b))
theorem Wl:ub eS=[]:=rfl
theorem Bh (s0:List Nat) (p:PT) (ps:List Piece):AF (mk s0 p::ps)=s0++(Ej (ub p.2)++AF ps):=by rw[DF];rfl
theorem E7:AF []=[]:=rfl
theorem MX (m:Mn) (s0:List Nat):AF (CQ m s0)=s0++Ej (Gi m):=by
 unfold CQ Gi;by_cases h1:m.num=eS
 · rw[if_pos h1,Bh,E7,if_neg (fun h=>h.1 h1),h1,Wl];simp
 · rw[if_neg h1];by_cases h2:m.var=eS
   · rw[if_pos h2,Bh,E7,if_neg (fun h=>h.2 h2),h2,Wl];simp
   · rw[if_neg h2,if_pos ⟨h1,h2⟩,Bh,Bh,Bh,E7];simp[Ef,sg,ub,Ej]
theorem Sm (l:List Mn):AF (Bu l)=Ej (AP false l):=by
 induction l with
 |nil=>rfl
 |cons m l ih=> rw[show Bu (m::l)=mk [32] (sg (if m.neg then 45 else 43))::(CQ m [32]++Bu l) from rfl,Bh,BF,MX,ih,AP];cases m.neg<;>simp[GW,Ef,sg,ub,Ej]
theorem KD (l:List Mn) (h:l≠[]) (s0:List Nat):AF (Er l s0)=s0++Ej (AP true l):=by
 cases l with
 |nil=>exact absurd rfl h
 |cons m l=>
  rw[Er,AP,BF,Sm];cases hm:m.neg
  · rw[if_neg (by simp),MX];simp[GW,Ef,Ej]
  · rw[if_pos rfl,Bh,MX];simp[GW,Ef,sg,ub,Ej]
theorem I3 (c:Bool) (g:List Nat->List Piece) (l:List UInt8) (h:∀s0,AF (g s0)=s0++Ej l) (s0:List Nat):AF (Dq c g s0)=s0++Ej (Cq c l):=by
 unfold Dq Cq;cases c
 · rw[if_neg (by simp),if_neg (by simp)];exact h s0
 · rw[if_pos rfl,if_pos rfl,Bh,BF,h,Bh,E7];simp[Ef,sg,ub,Ej]
theorem PE {l:List Mn} (h:Dd l):l≠[]:=fun e=>by have:=h.1;rw[e]at this;simp at this
theorem V9 (u:Tr):∀lv,right lv u->∀s0,AF (CM u s0)=s0++Ej (Ai u):=by
 induction u with
 |leaf b=>intro lv _ s0;cases b<;>(rw[CM,Bh,E7,Ai];simp[ub])
 |cmp l op r=>
  intro lv h s0;rw[CM,BF,KD l (PE h.1),Bh,KD r (PE h.2.2),Ai];simp[Ef,Ej]
 |deny t ih=>
  intro lv h s0;obtain ⟨l2,h2⟩:∃l2,right l2 t:=by
   rw[right]at h;split at h
   · exact ⟨_,h.2⟩
   · exact ⟨_,h.2⟩
  rw[CM,Bh,I3 _ _ _ (ih l2 h2),Ai];simp[sg,ub,Ej]
 |both a b iha ihb=>
  intro lv h s0;rw[right]at h;obtain ⟨la,ha⟩:∃l2,right l2 a:=by
   have:=h.1;split at this
   · exact ⟨_,this.2⟩
   · exact ⟨_,this⟩
  obtain ⟨lb,hb⟩:∃l2,right l2 b:=by
   have:=h.2;split at this
   · exact ⟨_,this.2⟩
   · exact ⟨_,this⟩
  rw[CM,BF,I3 _ _ _ (iha la ha),Bh,I3 _ _ _ (ihb lb hb),Ai];simp[Ef,sg,ub,Ej]
 |any a b iha ihb=>
  intro lv h s0;rw[right]at h;obtain ⟨lb,hb⟩:∃l2,right l2 b:=by
   have:=h.2;split at this
   · exact ⟨_,this.2⟩
   · exact ⟨_,this⟩
  rw[CM,BF,iha lv h.1,Bh,I3 _ _ _ (ihb lb hb),Ai];simp[Ef,sg,ub,Ej]
theorem Uq (u:Tr) (lv:Nat) (h:right lv u):Dt ⟨(Ai u).toArray⟩=AF (CM u []):=by rw[V9 u lv h,IW,QJ];rfl
theorem Ou (l:List Mn) (h:Dd l):Dt ⟨(AP true l).toArray⟩=AF (Er l []):=by rw[KD l (PE h),IW,QJ];rfl
end
end Go.Proofs.YtgohmojcopajoaaGreatDoor.Ex
namespace Go.Proofs.YtgohmojcopajoaaGreatDoor.Nu
section
open Go.Shelf
def Tryz.bString_ren:Go.Shelf.Ren:=⟨fun|169=>37|n=>n,fun|70=>89|9=>9|0=>0|72=>92|37=>90|127=>132|3=>3|5=>5|n=>n,fun|n=>n⟩
theorem Tryz.bString:Go.Proofs.Lays.n169 Tryz.prog Tryz.bString_ren:={
 mixed:=by kernel_rfl
 f169:=Tryz.func37.trans (congrArg some (by kernel_rfl))
 t0:=Tryz.underlying0
 a0:=Tryz.isAgg0
 z0:=Tryz.sizeOf0
 v0:=Tryz.zeroValue0
 t3:=Tryz.underlying3
 a3:=Tryz.isAgg3
 z3:=Tryz.sizeOf3
 v3:=Tryz.zeroValue3
 t9:=Tryz.underlying9
 a9:=Tryz.isAgg9
 z9:=Tryz.sizeOf9
 v9:=Tryz.zeroValue9
 t37:=Tryz.underlying90
 a37:=Tryz.isAgg90
 z37:=Tryz.sizeOf90
 v37:=Tryz.zeroValue90
 t70:=Tryz.underlying89
 a70:=Tryz.isAgg89
 z70:=Tryz.sizeOf89
 v70:=Tryz.zeroValue89
 t72:=Tryz.underlying92
 a72:=Tryz.isAgg92
 z72:=Tryz.sizeOf92
 v72:=Tryz.zeroValue92
 t127:=Tryz.underlying132
 a127:=Tryz.isAgg132
 z127:=Tryz.sizeOf132
 v127:=Tryz.zeroValue132 }
end
section
open Go.RowKit
theorem Ak.next {g:Nat} {a b c:World} (h:Ak g a b) (k:Below b.heap.size b c):Ak g a c:=h.trans ⟨k.os,k.tape,k.output,k.size,fun i hi _=>k.block i hi⟩
end
end Go.Proofs.YtgohmojcopajoaaGreatDoor.Nu
