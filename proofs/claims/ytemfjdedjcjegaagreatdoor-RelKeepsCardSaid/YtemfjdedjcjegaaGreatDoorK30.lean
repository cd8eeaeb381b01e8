/- Texts of one seat, put together: Sorts TidyB. -/
import Derived.Test.YtemfjdedjcjegaaGreatDoorK28
import Derived.Test.YtemfjdedjcjegaaGreatDoorK29
import Derived.Test.YtemfjdedjcjegaaGreatDoorK20
import Derived.Test.YtemfjdedjcjegaaGreatDoorK16
set_option linter.unusedVariables false
set_option linter.unusedSimpArgs false
set_option maxRecDepth 100000
set_option maxHeartbeats 16000000
namespace Go.Proofs.YtemfjdedjcjegaaGreatDoor
section
open Go.RowKit
open Tm
def AJ (bs:List BV):List Value:=(bs.map BV.cells).flatten
theorem Jn (b:BV) (bs:List BV):AJ (b::bs)=b.cells++AJ bs:=rfl
theorem EM (a b:List BV):AJ (a++b)=AJ a++AJ b:=by simp[AJ]
theorem BV.one (b:BV):∀v∈b.cells,v.oneCell'=true:=by intro v hv;simp[BV.cells]at hv;rcases hv with rfl|rfl|rfl|rfl|rfl|rfl|rfl|rfl|rfl<;>rfl
theorem RV.one (b:RV):∀v∈b.cells,v.oneCell'=true:=by intro v hv;simp[RV.cells]at hv;rcases hv with rfl|rfl|rfl|rfl<;>rfl
theorem JE (x y:BV) (k:Nat) (w0:World) (hx:An w0 x.trm x.S 0 k) (hy:An w0 y.trm y.S 0 k) (hl:x.S.length<=1099511) (hm:y.S.length<=1099511) (hk:k<=1099511627) (nx:norm x.S=x.S) (ny:norm y.S=y.S) :
  Calls Tryz.prog 62 #[.agg x.cells.toArray,.agg y.cells.toArray] w0 (fun e w'=>e=.returned (.int .i64 (cmpL x.S y.S))/\Below w0.heap.size w0 w'):=by
 have e1:∀b:BV,b.cells.toArray=#[.slice b.A b.n b.c,.bool b.s,.slice b.B b.m b.d,.bool b.lo.g,.bool b.lo.s,.slice b.lo.B b.lo.m b.lo.d,.bool b.hi.g,.bool b.hi.s,.slice b.hi.B b.hi.m b.hi.d]:=fun b=>rfl
 rw[e1 x,e1 y];obtain ⟨x1,x2,hb,-⟩:=Bf 72 72 w0 #[.slice x.A x.n x.c,.bool x.s,.slice x.B x.m x.d,.bool x.lo.g,.bool x.lo.s,.slice x.lo.B x.lo.m x.lo.d,.bool x.hi.g,.bool x.hi.s,.slice x.hi.B x.hi.m x.hi.d] #[.slice y.A y.n y.c,.bool y.s,.slice y.B y.m y.d,.bool y.lo.g,.bool y.lo.s,.slice y.lo.B y.lo.m y.lo.d,.bool y.hi.g,.bool y.hi.s,.slice y.hi.B y.hi.m y.hi.d];have hc:=IQ x.trm y.trm x.S y.S 0 0 k _ (hx.below hb).in_ (hy.below hb).in_ hl hm hk
 rw[show I6 x.S y.S 0 0=cmpL x.S y.S from by unfold I6 Ew;rw[nx,ny];split<;>simp_all [AF]]at hc
 unfold BV.trm at hc;have HB:=Ad hb;have a0:=x1.cell 0 _ rfl;have a1:=x1.cell 1 _ rfl;have a2:=x1.cell 2 _ rfl;have b0:=x2.cell 0 _ rfl;have b1:=x2.cell 1 _ rfl;have b2:=x2.cell 2 _ rfl;clear hx hy hb x1 x2 e1 nx ny;go_enter Tryz.func62,Tryz.ntmps62;go_wp2_with fail;refine hc.mono ?_;rintro e w3 ⟨rfl,b3⟩;have HT:=Ad (HB.out.next b3);clear b3 hc a0 a1 a2 b0 b1 b2;go_wp2_with fail;go_ret
 exact ⟨rfl,HT.out⟩
abbrev S4 (w:World) (k:Nat):={ b:BV // Ck w b k/\b.S.length<=1099511/\norm b.S=b.S }
abbrev S5 (w:World) (k:Nat):={ r:RV // An w r.trm r.L r.K k/\r.L.length<=1099511 }
instance (w:World) (k:Nat):Inhabited (S4 w k):=⟨⟨⟨none,0,0,false,none,0,0,⟨false,false,none,0,0,0⟩,⟨false,false,none,0,0,0⟩,[]⟩,⟨⟨none,0,0,false,none,0,0,rfl,Cw.nil _ _ _,Nat.le_refl _,by omega,Au.zero w k⟩,Au.zero w k,Au.zero w k⟩,by simp,rfl⟩⟩
instance (w:World) (k:Nat):Inhabited (S5 w k):=⟨⟨⟨none,0,0,false,none,0,0,false,[],0⟩,⟨none,0,0,false,none,0,0,rfl,Cw.nil _ _ _,Nat.le_refl _,by omega,Au.zero w k⟩,by simp⟩⟩
theorem O2 {α:Type} {P:α->Prop} (ps:List α) (h:∀p∈ps,P p):∃qs:List { a:α // P a },qs.map Subtype.val=ps:=by
 induction ps with
 |nil=>exact ⟨[],rfl⟩
 |cons p ps ih=> obtain ⟨qs,hq⟩:=ih (fun q hq=>h q (List.mem_cons_of_mem _ hq));exact ⟨⟨p,h p (List.mem_cons_self ..)⟩::qs,by rw[List.map_cons,hq]⟩
def PP (base:Nat) (A:Option Addr) (n c:Nat) (bs:List BV) (w:World) (e:Ending) (w':World):Prop:=
 e=.returned (.tuple #[])/\∃qs:List BV,qs.Perm bs/\LN 72 9 w' base (.slice A n c) n (AJ qs)/\Cq (qs.map BV.bd)/\Kt w w'/\w.grownBy w' (Value.slice A n c).ownBlock
def PQ (base:Nat) (A:Option Addr) (n c:Nat) (rs:List RV) (w:World) (e:Ending) (w':World):Prop:=
 e=.returned (.tuple #[])/\∃qs:List RV,qs.Perm rs/\LN 35 4 w' base (.slice A n c) n (AO qs)/\(qs.Pairwise fun a b=>EU a.rd b.rd<=0)/\Kt w w'/\w.grownBy w' (Value.slice A n c).ownBlock
theorem Jo (w:World) (row:Option Nat):w.grownBy w row:=⟨rfl,rfl,rfl,Nat.le_refl _,fun _ _ _=>rfl⟩
theorem JF (base:Nat) (A:Option Addr) (n c k:Nat) (bs:List BV) (w:World) (h:LN 72 9 w base (.slice A n c) n (AJ bs)) (hn:n<4611686018427387904) (hb:∀b∈bs,Ck w b k/\b.S.length<=1099511/\norm b.S=b.S) (hk:k<=1099511627) :
   Calls Tryz.prog 61 #[.slice A n c,.func (.func 62) #[] #[]] w (PP base A n c bs w):=by
 have h0:=h;rcases h.2 with ⟨hv,h1⟩|⟨g,cap,cur,hv,hbase,hh,-,-,-,-,-,-⟩
 · injection hv with e1 e2 e3
   subst e1 e2 e3;refine (Lg _ _ w).mono ?_;rintro e w' ⟨rfl,rfl⟩;refine ⟨rfl,bs,List.Perm.refl _,h,?_,Kt.refl _,Jo _ _⟩;have hl:=h.1;have:bs=[]:=by
     cases bs with
     |nil=>rfl
     |cons b bs=>rw[Jn]at hl;simp[BV.cells]at hl
   subst this;exact List.Pairwise.nil
 · injection hv with e1 e2 e3
   subst e1 e3;obtain ⟨ps,hps⟩:=O2 (P:=fun b=>Ck w b k/\b.S.length<=1099511/\norm b.S=b.S) bs hb;have eg:∀args W,(callFunc 62 args).run Tryz.prog W=.ok (.enter 62 args) W:=enters_of Tryz.func62 (by kernel_rfl) rfl;have hf:∀qs:List (S4 w k),(qs.map fun b=>b.1.cells).flatten=AJ (qs.map Subtype.val):=fun qs=>by unfold AJ;rw[List.map_map];rfl
   have hnb:=h.nib;refine Calls.mono (Kv Tryz.sortBand (α:=S4 w k) 72 9 (by decide) Tryz.isAgg72 Tryz.sizeOf72 (fun b=>b.1.cells) (fun _=>rfl) (fun b=>b.1.one) (fun b=>b.1.nis) (fun a b=>cmpL a.1.S b.1.S) (Dh.on fun a:S4 w k=>a.1.S) 62 #[] base g n c ps w eg ?_ (by rw[hf,hps];exact h) hn) ?_
   · intro W ho x y;have kt:=Kt.ni hnb ho;rw[show (#[Value.agg x.1.cells.toArray,Value.agg y.1.cells.toArray]++(#[]:Array Value))=#[Value.agg x.1.cells.toArray,Value.agg y.1.cells.toArray] from by simp];exact JE x.1 y.1 k W (kt.2 _ _ _ _ x.2.1.1) (kt.2 _ _ _ _ y.2.1.1) x.2.2.1 y.2.2.1 hk x.2.2.2 y.2.2.2
   · rintro e w' ⟨rfl,qs,hp,hr,hs,ho⟩;rw[hf]at hr;refine ⟨rfl,qs.map Subtype.val,?_,hr,?_,Kt.ni hnb ho,ho⟩
     · rw[<-hps];exact hp.map _
     · unfold Cq;rw[List.map_map,List.pairwise_map];exact hs
theorem Lk (base:Nat) (A:Option Addr) (n c k:Nat) (rs:List RV) (w:World) (h:LN 35 4 w base (.slice A n c) n (AO rs)) (hn:n<4611686018427387904) (hb:∀r∈rs,An w r.trm r.L r.K k/\r.L.length<=1099511) (hk:k<=1099511627) :
   Calls Tryz.prog 34 #[.slice A n c,.func (.func 12) #[] #[]] w (PQ base A n c rs w):=by
 have h0:=h;rcases h.2 with ⟨hv,h1⟩|⟨g,cap,cur,hv,hbase,hh,-,-,-,-,-,-⟩
 · injection hv with e1 e2 e3
   subst e1 e2 e3;refine (M1 _ _ w).mono ?_;rintro e w' ⟨rfl,rfl⟩;refine ⟨rfl,rs,List.Perm.refl _,h,?_,Kt.refl _,Jo _ _⟩;have hl:=h.1;have:rs=[]:=by
     cases rs with
     |nil=>rfl
     |cons b bs=>rw[FQ]at hl;simp[RV.cells]at hl
   subst this;exact List.Pairwise.nil
 · injection hv with e1 e2 e3
   subst e1 e3;obtain ⟨ps,hps⟩:=O2 (P:=fun r:RV=>An w r.trm r.L r.K k/\r.L.length<=1099511) rs hb;have eg:∀args W,(callFunc 12 args).run Tryz.prog W=.ok (.enter 12 args) W:=enters_of Tryz.func12 (by kernel_rfl) rfl;have hf:∀qs:List (S5 w k),(qs.map fun b=>b.1.cells).flatten=AO (qs.map Subtype.val):=fun qs=>by unfold AO;rw[List.map_map];rfl
   have hnb:=h.nib;refine Calls.mono (Kv Tryz.sortRel (α:=S5 w k) 35 4 (by decide) Tryz.isAgg35 Tryz.sizeOf35 (fun b=>b.1.cells) (fun _=>rfl) (fun b=>b.1.one) (fun b=>b.1.nis) (fun a b=>EU a.1.rd b.1.rd) (Le.on fun a:S5 w k=>a.1.rd) 12 #[] base g n c ps w eg ?_ (by rw[hf,hps];exact h) hn) ?_
   · intro W ho x y;have kt:=Kt.ni hnb ho;rw[show (#[Value.agg x.1.cells.toArray,Value.agg y.1.cells.toArray]++(#[]:Array Value))=#[Value.agg x.1.cells.toArray,Value.agg y.1.cells.toArray] from by simp];exact DV (.agg x.1.cells.toArray) (.agg y.1.cells.toArray) x.1.L y.1.L x.1.K y.1.K x.1.f y.1.f k W ⟨_,_,_,_,_,_,_,rfl,(kt.2 _ _ _ _ x.2.1).in_⟩ ⟨_,_,_,_,_,_,_,rfl,(kt.2 _ _ _ _ y.2.1).in_⟩ x.2.2 y.2.2 hk
   · rintro e w' ⟨rfl,qs,hp,hr,hs,ho⟩;rw[hf]at hr;refine ⟨rfl,qs.map Subtype.val,?_,hr,?_,Kt.ni hnb ho,ho⟩
     · rw[<-hps];exact hp.map _
     · rw[List.pairwise_map];exact hs
end
section
open Go.RowKit
open Tm
def O3 (f:Nat) (cf:Int->Int->Int):Prop:=∀(v u:Value) (Z Y:Int) (k:Nat) (w:World),BG w v Z k->BG w u Y k->k<=1099511627776->Calls Tryz.prog f #[v,u] w (CU (cf Z Y) k w)
theorem M6:O3 97 SN:=fun v u Z Y k w hv hu hk=>Ua v u Z Y k w hv hu hk
theorem M7:O3 98 SO:=fun v u Z Y k w hv hu hk=>TZ v u Z Y k w hv hu hk
theorem Ll (x y:EV) (k:Nat) (w0:World) (hx:Au w0 x.num x.Z k) (hy:Au w0 y.num y.Z k) (hk:k<=1099511627776) :
   Calls Tryz.prog 96 #[x.agg,y.agg,.func (.func 97) #[] #[]] w0 (O1 (strict SN x.opt y.opt) k w0):=by
 obtain ⟨xg,xs,xB,xm,xd,xZ⟩:=x;obtain ⟨yg,ys,yB,ym,yd,yZ⟩:=y;show Calls _ _ #[.agg #[.bool xg,.bool xs,.slice xB xm xd],.agg #[.bool yg,.bool ys,.slice yB ym yd],.func (.func 97) #[] #[]] w0 _;obtain ⟨x1,x2,x3,hb,-⟩:=BP 70 70 70 w0 #[.bool xg,.bool xs,.slice xB xm xd] #[.bool yg,.bool ys,.slice yB ym yd] #[.bool false,.bool false,.slice none 0 0];have HX:=Ad hx;have HY:=Ad hy;have HB:=Ad hb
 have eg:∀args W,(callFunc 97 args).run Tryz.prog W=.ok (.enter 97 args) W:=enters_of Tryz.func97 (by kernel_rfl) rfl;have hc:=M6 (.agg #[.bool xs,.slice xB xm xd]) (.agg #[.bool ys,.slice yB ym yd]) xZ yZ k _ (hx.below hb).in_ (hy.below hb).in_ hk;have a0:=x1.cell 0 _ rfl;have a1:=x1.cell 1 _ rfl;have a2:=x1.cell 2 _ rfl;have b0:=x2.cell 0 _ rfl;have b1:=x2.cell 1 _ rfl;have b2:=x2.cell 2 _ rfl;clear hx hy;cases xg
 · go_enter Tryz.func96,Tryz.ntmps96;go_wp2_with fail;obtain ⟨-,-,x4,hb4,-⟩:=BP 70 70 70 w0 #[.bool false,.bool xs,.slice xB xm xd] #[.bool yg,.bool ys,.slice yB ym yd] #[.bool yg,.bool ys,.slice yB ym yd];exact Cr rfl rfl x4 rfl rfl ⟨⟨yg,ys,yB,ym,yd,yZ⟩,rfl,HY.out.below hb4,rfl,hb4⟩
 · cases yg
   · go_enter Tryz.func96,Tryz.ntmps96;go_wp2_with fail;obtain ⟨-,-,x4,hb4,-⟩:=BP 70 70 70 w0 #[.bool true,.bool xs,.slice xB xm xd] #[.bool false,.bool ys,.slice yB ym yd] #[.bool true,.bool xs,.slice xB xm xd];exact Cr rfl rfl x4 rfl rfl ⟨⟨true,xs,xB,xm,xd,xZ⟩,rfl,HX.out.below hb4,rfl,hb4⟩
   · go_enter Tryz.func96,Tryz.ntmps96;go_wp2_with fail;refine hc.mono ?_;rintro e w3 ⟨v,rfl,r3,b3⟩;obtain ⟨sg,Ag,ng,cg,rfl⟩:=r3.form;have x3':=x3.next b3;clear a0 a1 a2 b0 b1 b2;go_wp2_with (with_reducible refine E6 rfl _ _ rfl (w0.heap.size+1+1) _ _ _ _ _ rfl rfl _ _ _ x3' ?_;intro w4 k4 ho4)
     exact Cr rfl rfl k4 rfl rfl ⟨⟨true,sg,Ag,ng,cg,SN xZ yZ⟩,rfl,(x3'.kt (EV.nis ⟨false,false,none,0,0,0⟩) ho4).z r3,rfl,(HB.out.next b3).trans (ho4.below (by have:=x3'.lt;omega) (by omega))⟩
theorem Lm (x y:EV) (k:Nat) (w0:World) (hx:Au w0 x.num x.Z k) (hy:Au w0 y.num y.Z k) (hk:k<=1099511627776) :
   Calls Tryz.prog 96 #[x.agg,y.agg,.func (.func 98) #[] #[]] w0 (O1 (strict SO x.opt y.opt) k w0):=by
 obtain ⟨xg,xs,xB,xm,xd,xZ⟩:=x;obtain ⟨yg,ys,yB,ym,yd,yZ⟩:=y;show Calls _ _ #[.agg #[.bool xg,.bool xs,.slice xB xm xd],.agg #[.bool yg,.bool ys,.slice yB ym yd],.func (.func 98) #[] #[]] w0 _;obtain ⟨x1,x2,x3,hb,-⟩:=BP 70 70 70 w0 #[.bool xg,.bool xs,.slice xB xm xd] #[.bool yg,.bool ys,.slice yB ym yd] #[.bool false,.bool false,.slice none 0 0];have HX:=Ad hx;have HY:=Ad hy;have HB:=Ad hb
 have eg:∀args W,(callFunc 98 args).run Tryz.prog W=.ok (.enter 98 args) W:=enters_of Tryz.func98 (by kernel_rfl) rfl;have hc:=M7 (.agg #[.bool xs,.slice xB xm xd]) (.agg #[.bool ys,.slice yB ym yd]) xZ yZ k _ (hx.below hb).in_ (hy.below hb).in_ hk;have a0:=x1.cell 0 _ rfl;have a1:=x1.cell 1 _ rfl;have a2:=x1.cell 2 _ rfl;have b0:=x2.cell 0 _ rfl;have b1:=x2.cell 1 _ rfl;have b2:=x2.cell 2 _ rfl;clear hx hy;cases xg
 · go_enter Tryz.func96,Tryz.ntmps96;go_wp2_with fail;obtain ⟨-,-,x4,hb4,-⟩:=BP 70 70 70 w0 #[.bool false,.bool xs,.slice xB xm xd] #[.bool yg,.bool ys,.slice yB ym yd] #[.bool yg,.bool ys,.slice yB ym yd];exact Cr rfl rfl x4 rfl rfl ⟨⟨yg,ys,yB,ym,yd,yZ⟩,rfl,HY.out.below hb4,rfl,hb4⟩
 · cases yg
   · go_enter Tryz.func96,Tryz.ntmps96;go_wp2_with fail;obtain ⟨-,-,x4,hb4,-⟩:=BP 70 70 70 w0 #[.bool true,.bool xs,.slice xB xm xd] #[.bool false,.bool ys,.slice yB ym yd] #[.bool true,.bool xs,.slice xB xm xd];exact Cr rfl rfl x4 rfl rfl ⟨⟨true,xs,xB,xm,xd,xZ⟩,rfl,HX.out.below hb4,rfl,hb4⟩
   · go_enter Tryz.func96,Tryz.ntmps96;go_wp2_with fail;refine hc.mono ?_;rintro e w3 ⟨v,rfl,r3,b3⟩;obtain ⟨sg,Ag,ng,cg,rfl⟩:=r3.form;have x3':=x3.next b3;clear a0 a1 a2 b0 b1 b2;go_wp2_with (with_reducible refine E6 rfl _ _ rfl (w0.heap.size+1+1) _ _ _ _ _ rfl rfl _ _ _ x3' ?_;intro w4 k4 ho4)
     exact Cr rfl rfl k4 rfl rfl ⟨⟨true,sg,Ag,ng,cg,SO xZ yZ⟩,rfl,(x3'.kt (EV.nis ⟨false,false,none,0,0,0⟩) ho4).z r3,rfl,(HB.out.next b3).trans (ho4.below (by have:=x3'.lt;omega) (by omega))⟩
end
end Go.Proofs.YtemfjdedjcjegaaGreatDoor
