/- Texts of one seat, put together: ExprWv ExprTe RelBox RCoef InsertP TVars TValue. -/
import Derived.Test.YtgohmojcopajoaaGreatDoorH27
import Derived.Test.YtgohmojcopajoaaGreatDoorH22
import Derived.Test.YtgohmojcopajoaaGreatDoorH16
import Derived.Test.YtgohmojcopajoaaGreatDoorH26
import Derived.Test.YtgohmojcopajoaaGreatDoorH20
set_option linter.unusedVariables false
set_option linter.unusedSimpArgs false
set_option maxRecDepth 100000
set_option maxHeartbeats 16000000
namespace Go.Proofs.YtgohmojcopajoaaGreatDoor
section
open Go.RowKit
open Lx Ex
theorem Du.low {S:Nat->Prop} {w:World} {A:Option Addr} {n:Nat} {l:List Mn} (h:Du S w A n l):Du (fun b=>b<w.heap.size) w A n l:=by refine ⟨h.1,fun hn=>?_⟩;obtain ⟨b,o,e,h1,hlt,hc⟩:=h.2 hn;exact ⟨b,o,e,hlt,hlt,hc⟩
theorem AW.low {S:Nat->Prop} {w:World} {t:GT} {vs:List Value} (h:AW S w t vs):AW (fun b=>b<w.heap.size) w t vs:=by
 induction h with
 |mk kd op l r p q kids Al Ar A nl cl nr cr n c b o cs h1 h2 h3 h4 h5 h6 h7 h8 h9 h10 h11 h12 ih=> exact AW.mk kd op l r p q kids Al Ar A nl cl nr cr n c b o cs h1.low h2.low h3 h4 h5 h6 h7 h8 h9 (fun hn=>⟨(h10 hn).1,(h10 hn).2.2,(h10 hn).2.2⟩) h11 ih
def Dt (s:List UInt8) (w:World) (e:Ending) (w':World):Prop:=e=.returned (.string ⟨s.toArray⟩)/\Below w.heap.size w w'
theorem NE (S:Nat->Prop) (A:Option Addr) (n c:Nat) (l:List Mn) (w0:World) (h:Du S w0 A n l) (hn9:n<=4611686018427387903) (hc:n<=c) (hc2:c<=9223372036854775807) (hz:JQ l) (hr:Bl l=true) (hT:(Cb true l).length<=140737488355328):Calls Tryz.prog 16 #[.slice A n c] w0 (Dt (Cb true l) w0):=by
 have HR:=Aa (Dq S A n c l w0 h hn9 hz);have HM:=Aa h.low;have HT:=Aa hT;rw[hr]at HR;clear h hz hr hT;go_enter Tryz.func16,Tryz.ntmps16;go_wp2_with fail;refine HR.out.mono ?_;rintro e w2 ⟨rfl,b2⟩;have HB:=Aa b2;have hs2:=b2.size;obtain ⟨x1,hb,hsz⟩:=Ap 92 w2 #[.pointer none,.slice none 0 0];have HBX:=Aa (HB.out.next hb)
 have HW:=Aa (FD w2.heap.size w2.heap.size [] A n c l _ ((HM.out.sub (fun k (hk:k<w0.heap.size)=>(⟨by omega,by omega⟩:Lw w2.heap.size w2.heap.size k))).keep (AJ.of_below HBX.out)) (Nu.Lv.fresh x1) (by omega) hc hc2 (by have:=HT.out;simpa using this));clear b2 hb;go_wp2_with fail;refine HW.out.mono ?_;rintro e w5 ⟨rfl,h5,v5⟩;have HV5:=Aa v5;have h5:Nu.Lv w5 w2.heap.size w2.heap.size (Lib.byteCells (Cb true l)):=h5;clear v5 x1;go_wp2_with fail
 refine (Nu.EG _ w0.heap.size _ _ _ h5 (by omega) (by omega) (by have:=HV5.out.size;omega)).mono ?_;rintro e w6 ⟨rfl,b6⟩;have HP:=Aa (show Dt (Cb true l) w0 (.returned (.string ⟨(Cb true l).toArray⟩)) w6 from ⟨rfl,(HBX.out.trans (HV5.out.below (by omega) (by omega) (by omega))).trans b6⟩);clear b6;generalize (Cb true l).toArray=oz at *;go_wp2_with fail;go_ret
 exact HP.out
theorem NF {S:Nat->Prop} {u:Tr} {kd:Int} {Al:Option Addr} {nl cl:Nat} {Ar:Option Addr} {nr cr:Nat} {op:Int} {p q:ByteArray} {A:Option Addr} {n c:Nat} (w0:World) (h:AW S w0 (gt u) [.int .i64 kd,.slice Al nl cl,.slice Ar nr cr,.int .i64 op,.string p,.string q,.slice A n c]) (hz:IK (gt u)) (hr:right 60 u) (ho:Bc w0) (hT:(AC u).length<=140737488355328):Calls Tryz.prog 19 #[.agg #[.int .i64 kd,.slice Al nl cl,.slice Ar nr cr,.int .i64 op,.string p,.string q,.slice A n c]] w0 (Dt (AC u) w0):=by
 obtain ⟨x0,hb0,hsz0⟩:=Ap 33 w0 #[.int .i64 kd,.slice Al nl cl,.slice Ar nr cr,.int .i64 op,.string p,.string q,.slice A n c];have HB:=Aa hb0;have X0:=Aa x0;have c0:=x0.cell 0 _ rfl;have c1:=x0.cell 1 _ rfl;have c2:=x0.cell 2 _ rfl;have c3:=x0.cell 3 _ rfl;have c4:=x0.cell 4 _ rfl;have c5:=x0.cell 5 _ rfl;have c6:=x0.cell 6 _ rfl;have HR:=Aa (Fb _ (h.keep (AJ.of_below hb0)) hz);rw[show AF (gt u) 60=true from (Fa u 60).2 hr]at HR;have HT:=Aa hT;have HU:=Aa hr;have HM:=Aa h.low
 have HO:=Aa ho;clear h hz hr hb0 x0 hT ho;go_enter Tryz.func19,Tryz.ntmps19;go_wp2_with fail;refine HR.out.mono ?_;rintro e w2 ⟨rfl,b2⟩;have hs2:w0.heap.size<w2.heap.size:=by have:=b2.size;omega
 have X2:=Aa (X0.out.next b2);have HB2:=Aa (HB.out.next b2);obtain ⟨x1,hb,hsz⟩:=Ap 92 w2 #[.pointer none,.slice none 0 0];have HBX:=Aa (HB2.out.next hb);have hgl:=World.block_lt_of_cell? _ _ (HO.out 0 (by omega))
 have HW:=Aa (Rp u 60 w2.heap.size w2.heap.size _ _ HU.out ((HM.out.sub (fun k (hk:k<w0.heap.size)=>(⟨by omega,by omega⟩:Lw w2.heap.size w2.heap.size k))).keep (AJ.of_below HBX.out)) (by omega) (HO.out.below HBX.out) (⟨by show 0<_;omega,by show 0≠_;omega⟩:Lw w2.heap.size w2.heap.size 0) [] _ (Nu.BW.refl _ _ _) (Nu.Lv.fresh x1) (by have:=HT.out;simpa using this));have X3:=Aa (X2.out.next hb);clear b2 hb c0 c1 c2 c3 c4 c5 c6 hgl;have c0:=X2.out.cell 0 _ rfl
 have c1:=X2.out.cell 1 _ rfl;have c2:=X2.out.cell 2 _ rfl;have c3:=X2.out.cell 3 _ rfl;have c4:=X2.out.cell 4 _ rfl;have c5:=X2.out.cell 5 _ rfl;have c6:=X2.out.cell 6 _ rfl;have d0:=X3.out.cell 0 _ rfl;have d1:=X3.out.cell 1 _ rfl;have d2:=X3.out.cell 2 _ rfl;have d3:=X3.out.cell 3 _ rfl;have d4:=X3.out.cell 4 _ rfl;have d5:=X3.out.cell 5 _ rfl;have d6:=X3.out.cell 6 _ rfl;go_wp2_with fail;refine HW.out.mono ?_;rintro e w5 ⟨rfl,h5,v5⟩;have HV5:=Aa v5
 have h5:Nu.Lv w5 w2.heap.size w2.heap.size (Lib.byteCells (AC u)):=h5;clear v5 x1 c0 d0 c1 d1 c2 d2 c3 d3 c4 d4 c5 d5 c6 d6;go_wp2_with fail;refine (Nu.EG _ w0.heap.size _ _ _ h5 (by omega) (by omega) (by have:=HV5.out.size;omega)).mono ?_;rintro e w6 ⟨rfl,b6⟩;have HP:=Aa (show Dt (AC u) w0 (.returned (.string ⟨(AC u).toArray⟩)) w6 from ⟨rfl,(HBX.out.trans (HV5.out.below (by omega) (by omega) (by omega))).trans b6⟩);clear b6;generalize (AC u).toArray=oz at *;go_wp2_with fail
 go_ret
 exact HP.out
theorem NG {S:Nat->Prop} {u:Tr} {kd:Int} {Al:Option Addr} {nl cl:Nat} {Ar:Option Addr} {nr cr:Nat} {op:Int} {p q:ByteArray} {A:Option Addr} {n c:Nat} (w0:World) (h:AW S w0 (gt u) [.int .i64 kd,.slice Al nl cl,.slice Ar nr cr,.int .i64 op,.string p,.string q,.slice A n c]) (hz:IK (gt u)) (h9:nl<=4611686018427387903) (h8:nr<=4611686018427387903) (hcm:Kw (gt u)=true) (hr:right 60 u) (ho:Bc w0) (hT:(AC u).length<=140737488355328):Calls Tryz.prog 27 #[.agg #[.int .i64 kd,.slice Al nl cl,.slice Ar nr cr,.int .i64 op,.string p,.string q,.slice A n c]] w0 (Dt (AC u) w0):=by
 obtain ⟨x1,hb,hsz⟩:=Ap 33 w0 #[.int .i64 kd,.slice Al nl cl,.slice Ar nr cr,.int .i64 op,.string p,.string q,.slice A n c];have HB:=Aa hb;have X1:=Aa x1;have c0:=x1.cell 0 _ rfl;have c1:=x1.cell 1 _ rfl;have c2:=x1.cell 2 _ rfl;have c3:=x1.cell 3 _ rfl;have c4:=x1.cell 4 _ rfl;have c5:=x1.cell 5 _ rfl;have c6:=x1.cell 6 _ rfl;have HR:=Aa (F9 S (gt u) kd Al nl cl Ar nr cr op p q A n c _ (h.keep (AJ.of_below hb)) hz h9 h8);rw[hcm]at HR
 have HT:=Aa (fun W (hW:Below w0.heap.size w0 W)=>NF W (h.keep (AJ.of_below hW)) hz hr (ho.below hW) hT);clear h hz hr x1 hb hT ho hcm;go_enter Tryz.func27,Tryz.ntmps27;go_wp2_with fail;refine HR.out.mono ?_;rintro e w2 ⟨rfl,b2⟩;have HB2:=Aa (HB.out.next b2);have X2:=Aa (X1.out.next b2);clear b2 c0 c1 c2 c3 c4 c5 c6;have c0:=X2.out.cell 0 _ rfl;have c1:=X2.out.cell 1 _ rfl;have c2:=X2.out.cell 2 _ rfl;have c3:=X2.out.cell 3 _ rfl;have c4:=X2.out.cell 4 _ rfl
 have c5:=X2.out.cell 5 _ rfl;have c6:=X2.out.cell 6 _ rfl;go_wp2_with fail;refine (HT.out _ HB2.out).mono ?_;rintro e w6 ⟨rfl,b6⟩;have HP:=Aa (show Dt (AC u) w0 (.returned (.string ⟨(AC u).toArray⟩)) w6 from ⟨rfl,HB2.out.next b6⟩);clear b6;generalize (AC u).toArray=oz at *;go_wp2_with fail;go_ret
 exact HP.out
end
section
open Go.RowKit
open Lx Ex
theorem Pf (m:Mn) (V:Option Addr) (mv dv:Nat) (vs:List ByteArray) (w0:World) (hS:EN w0 V mv vs) (hm:mv<=9223372036854775807) (hz:m.num.size<=4611686018427387904):Calls Tryz.prog 48 #[.agg #[.bool m.neg,.string m.num,.string m.var],.slice V mv dv] w0 (CK (UA m vs) (WM m) 600 (Xl m vs) w0):=by
 obtain ⟨num,var,neg⟩:=m;unfold UA WM Xl N6 TY;by_cases hn:num=eS<;>by_cases hv:var=eS<;>cases neg<;>simp only[hn,hv,if_true,if_false,if_pos,if_neg,decide_true,decide_false,Bool.true_or,Bool.false_or,Bool.false_eq_true,not_false_eq_true]
 · exact OL eS eS V mv dv vs w0 hS hm (by decide) rfl rfl
 · exact ON eS eS V mv dv vs w0 hS hm (by decide) rfl rfl
 · exact OM eS var V mv dv vs w0 hS hm (by decide) rfl hv
 · exact OO eS var V mv dv vs w0 hS hm (by decide) rfl hv
 · exact OP num eS V mv dv vs w0 hS hm hz hn rfl
 · exact OR num eS V mv dv vs w0 hS hm hz hn rfl
 · exact OQ num var V mv dv vs w0 hS hm hz hn hv
 · exact OS num var V mv dv vs w0 hS hm hz hn hv
def Ef (vs:List ByteArray):List Mn->List (Int×Int)×Int->Option (List (Int×Int)×Int)
 |[],s=>some s
 |m::l,s=>if Xl m vs=true then Ef vs l (Tm.norm (s.1++UA m vs),s.2+WM m) else none
def Pg (r:Option (List (Int×Int)×Int)) (w:World) (e:Ending) (w':World):Prop:=∃v,e=.returned (.tuple #[v,.bool r.isSome])/\Nu.AP w' v (r.getD ([],0)).1 (r.getD ([],0)).2 9000/\Below w.heap.size w w'
theorem JS (m:Mn) (vs:List ByteArray):(UA m vs).length<=1:=by
 unfold UA Ha;split
 · simp
 · have h1:=Nu.Bb ((Tm.norm [(Ci vs m.var 0,1)]).map fun p=>(p.1,N6 m*p.2));have h2:=Nu.Bb [(Ci vs m.var 0,(1:Int))];rw[List.length_map]at h1;simp at h2;omega
theorem Gv (w:World) (k:Nat):Nu.AP w (.agg #[.slice none 0 0,.bool false,.slice none 0 0]) [] 0 k:=⟨none,0,0,false,none,0,0,rfl,⟨[],⟨rfl,fun h=>absurd h (by omega),fun p h=>by cases h⟩,rfl,fun p h=>by cases h⟩,Nat.le_refl _,by omega,Nu.AL.zero w k⟩
theorem Gj (S:Nat->Prop) (A:Option Addr) (n c:Nat) (l:List Mn) (V:Option Addr) (mv dv:Nat) (vs:List ByteArray) (w0:World) (h:Du S w0 A n l) (hn9:n<=4611686018427387903) (hz:JQ l) (hS:EN w0 V mv vs) (hm:mv<=9223372036854775807):Calls Tryz.prog 24 #[.slice A n c,.slice V mv dv] w0 (Pg (if Bl l=true then Ef vs l ([],0) else none) w0):=by
 obtain ⟨x4,hb,hsz⟩:=Ap 56 w0 #[.slice none 0 0,.bool false,.slice none 0 0];have HB:=Aa hb;have X4:=Aa x4;have HR:=Aa (Dq S A n c l _ (h.keep (AJ.of_below hb)) hn9 hz);have HSV:=Aa hS;have HM:=Aa h.low;have HN:=Aa h.1;have HZ:=Aa hz;have hl64:Bl l=true->n<=64:=by intro hh;unfold Bl at hh;rw[h.1]at hh;simp at hh;omega
 cases hs:Bl l with
 |false=>
  rw[hs]at HR;have HP:=Aa (show ∀v w',Nu.AP w' v [] 0 9000->Below w0.heap.size w0 w'->Pg (if false=true then Ef vs l ([],0) else none) w0 (.returned (.tuple #[v,.bool false])) w' from fun v w' h1 h2=>⟨v,rfl,h1,h2⟩);clear h hz hS hb x4 hl64 hs;go_enter Tryz.func24,Tryz.ntmps24;go_wp2_with fail;refine HR.out.mono ?_;rintro e w2 ⟨rfl,b2⟩;have y4:=X4.out.next b2;have HB2:=Aa (HB.out.next b2);clear b2
  go_wp2_with (with_reducible refine Ab rfl 56 _ _ rfl w0.heap.size #[.slice none 0 0,.bool false,.slice none 0 0] rfl rfl _ y4 (by kernel_rfl) rfl (by simp[Value.oneCell']) ?_;intro w9 k9 o9);refine BA rfl rfl rfl k9 rfl ?_;exact HP.out _ _ (Gv _ _) (HB2.out.trans (o9.below HB2.out.size (by omega)))
 |true=>
  rw[hs]at HR;have h64:=hl64 hs;have HP:=Aa (show ∀r v b w',Ef vs l ([],0)=r->b=r.isSome->Nu.AP w' v (r.getD ([],0)).1 (r.getD ([],0)).2 9000->Below w0.heap.size w0 w'->Pg (if true=true then Ef vs l ([],0) else none) w0 (.returned (.tuple #[v,.bool b])) w' from fun r v b w' e hb h1 h2=>by rw[if_pos rfl,e,hb];exact ⟨v,rfl,h1,h2⟩);clear h hz hS hb x4 hl64 hs;go_enter Tryz.func24,Tryz.ntmps24;go_wp2_with fail;refine HR.out.mono ?_;rintro e w2 ⟨rfl,b2⟩
  have Y4:=Aa (X4.out.next b2);have HB2:=Aa (HB.out.next b2);have hs2:w0.heap.size<w2.heap.size:=by have:=b2.size;omega
  obtain ⟨x6,hb6,hsz6⟩:=Ap 56 w2 #[.slice none 0 0,.bool false,.slice none 0 0];have X6:=Aa x6;have HB6:=Aa (HB2.out.next hb6);have Y6:=Aa (Y4.out.next hb6);have hne:w0.heap.size≠w2.heap.size:=by omega
  have hne':w2.heap.size≠w0.heap.size:=by omega
  have HG0:=Aa (show Nu.AP (w2.alloc (.cells #[.slice none 0 0,.bool false,.slice none 0 0] 56)) (.agg #[.slice none 0 0,.bool false,.slice none 0 0]) [] 0 (600+70*0) from Gv _ _);clear b2 hb6 x6;go_wp2_with fail;generalize hW:w2.alloc (.cells #[.slice none 0 0,.bool false,.slice none 0 0] 56)=W2 at *;clear hW
  go_loopw [17] (fun i wr=>∃x:Nat,x<=n/\i=.int .i64 x/\Hid (∃L K A6 n6 c6 s6 B6 m6 d6,Am 56 wr w2.heap.size #[.slice A6 n6 c6,.bool s6,.slice B6 m6 d6]/\Nu.AP wr (.agg #[.slice A6 n6 c6,.bool s6,.slice B6 m6 d6]) L K (600+70*x)/\L.length<=x/\Ef vs l ([],0)=Ef vs (l.drop x) (L,K))/\Hid (Am 56 wr w0.heap.size #[.slice none 0 0,.bool false,.slice none 0 0])/\Hid (Below w0.heap.size w0 wr)/\w2.heap.size<wr.heap.size) (fun i _=>n-(intOf i).toNat)
  case atStart=>exact ⟨0,Nat.zero_le _,rfl,Aa ⟨[],0,_,_,_,_,_,_,_,X6.out,HG0.out,Nat.le_refl _,rfl⟩,Y6,HB6,by omega⟩
  case round=>
   obtain ⟨x,hx,rfl,HER,XR4,HR2,hwr⟩:=hrel;obtain ⟨L,K,A6,n6,c6,s6,B6,m6,d6,xb6,tr6,hll,he⟩:=HER.out;by_cases hxn:x<n
   · obtain ⟨bb,oo,m,hA,hlt,hmm,e0,e1,e2⟩:=(HM.out.keep (AJ.of_below HR2.out)).at_ hxn;subst hA;obtain ⟨neg,num,var,hme⟩:∃neg num var,m=⟨num,var,neg⟩:=⟨m.neg,m.num,m.var,by cases m;rfl⟩;subst hme;have e0:wr.cell? ⟨bb,oo+x*3,none⟩=some (.bool neg):=e0;have e1:wr.cell? ⟨bb,oo+x*3+1,none⟩=some (.string num):=e1;have e2:wr.cell? ⟨bb,oo+x*3+2,none⟩=some (.string var):=e2;have hd:l.drop x=⟨num,var,neg⟩::l.drop (x+1):=by
      have hl:x<l.length:=(by have:=HN.out;omega);rw[List.drop_eq_getElem_cons hl];congr 1
      rw[List.getElem?_eq_getElem hl]at hmm;injection hmm
     have hzz:=(HZ.out _ (List.mem_of_getElem? hmm)).1;have HTO:=Aa (fun W (hW:Below w0.heap.size w0 W)=>Pf ⟨num,var,neg⟩ V mv dv vs W (HSV.out.below hW) hm hzz);have HE:=Aa (show Ef vs l ([],0)=if Xl ⟨num,var,neg⟩ vs=true then Ef vs (l.drop (x+1)) (Tm.norm (L++UA ⟨num,var,neg⟩ vs),K+WM ⟨num,var,neg⟩) else none from by rw[he,hd,Ef]);have HML:=Aa (JS ⟨num,var,neg⟩ vs)
     have z1:Am 88 (wr.alloc (.cells #[.bool false,.string ⟨#[]⟩,.string ⟨#[]⟩] 88)) wr.heap.size #[.bool false,.string ⟨#[]⟩,.string ⟨#[]⟩]:=Am.new _ _ _;have X6r:=Aa xb6;have T6r:=Aa tr6;clear he hd hmm hzz HER xb6 tr6;generalize Xl ⟨num,var,neg⟩ vs=ok at *;generalize UA ⟨num,var,neg⟩ vs=ML at *;generalize WM ⟨num,var,neg⟩=MK at *
     go_wp2_with (with_reducible refine Ab rfl 88 _ _ rfl wr.heap.size #[.bool neg,.string num,.string var] rfl rfl _ z1 (by kernel_rfl) rfl (by simp[Value.oneCell']) ?_;intro wy ky oy;have HBy:=Aa (show Below wr.heap.size wr wy from (Ae wr _).trans (oy.below (Ae wr _).size (Nat.le_refl _)));have y0:=ky.cell 0 _ rfl;have y1:=ky.cell 1 _ rfl;have y2:=ky.cell 2 _ rfl;clear oy ky e0 e1 e2 z1);refine (HTO.out _ (HR2.out.next HBy.out)).mono ?_;rintro e w4 ⟨v4,rfl,r4,b4⟩
     obtain ⟨A7,n7,c7,s7,B7,m7,d7,rfl⟩:=r4.form;have HB4:=Aa (show Below wr.heap.size wr w4 from HBy.out.trans (b4.mono HBy.out.size));have HR4:=Aa (HR2.out.next HB4.out);have hs4:wr.heap.size<=w4.heap.size:=HB4.out.size;have z9:Am 56 (w4.alloc (.cells #[.slice none 0 0,.bool false,.slice none 0 0] 56)) w4.heap.size #[.slice none 0 0,.bool false,.slice none 0 0]:=Am.new _ _ _;have X44:=Aa (XR4.out.next HB4.out);have X64:=Aa (X6r.out.next HB4.out)
     have T64:=Aa (T6r.out.below HB4.out);have T74:=Aa r4;have HT7:=Aa (fun W (ho:Ai w4.heap.size (w4.alloc (.cells #[.slice none 0 0,.bool false,.slice none 0 0] 56)) W)=>(T74.out.below (Ae w4 _)).only z9 ho);have HT6:=Aa (fun W (ho:Ai w4.heap.size (w4.alloc (.cells #[.slice none 0 0,.bool false,.slice none 0 0] 56)) W)=>(T64.out.below (Ae w4 _)).only z9 ho);have hn40:w0.heap.size≠w4.heap.size:=(by omega);have hn42:w2.heap.size≠w4.heap.size:=(by omega)
     clear y0 y1 y2 b4 r4 HTO;cases ok with
     |false=>
      have HE:=Aa (show Ef vs l ([],0)=none from HE.out);go_wp2_with (first
       |(with_reducible refine Ab rfl 56 _ _ rfl w4.heap.size #[.slice A7 n7 c7,.bool s7,.slice B7 m7 d7] rfl rfl _ z9 (by kernel_rfl) rfl (by simp[Value.oneCell']) ?_;intro w5 k5 o5;have HB5:=Aa (show Below w4.heap.size w4 w5 from (Ae w4 _).trans (o5.below (Ae w4 _).size (Nat.le_refl _)));have TA:=Aa (HT7.out w5 o5);have TB:=Aa (HT6.out w5 o5);have XA:=Aa k5;have X65:=Aa (X64.out.next HB5.out);have x45:=X44.out.next HB5.out;have a0:=k5.cell 0 _ rfl;have a1:=k5.cell 1 _ rfl;have a2:=k5.cell 2 _ rfl;have b0:=X65.out.cell 0 _ rfl;have b1:=X65.out.cell 1 _ rfl;have b2:=X65.out.cell 2 _ rfl;clear o5 k5)
       |(with_reducible refine Ab rfl 56 _ _ rfl w0.heap.size #[.slice none 0 0,.bool false,.slice none 0 0] rfl rfl _ x45 (by kernel_rfl) rfl (by simp[Value.oneCell']) ?_;intro w9 k9 o9))
      refine BA rfl rfl rfl k9 rfl ?_;have HB9:=Aa (HR4.out.next HB5.out);exact HP.out none _ _ _ HE.out rfl (Gv _ _) (HB9.out.trans (o9.below HB9.out.size (by omega)))
     |true=>
      have HE:=Aa (show Ef vs l ([],0)=Ef vs (l.drop (x+1)) (Tm.norm (L++ML),K+MK) from HE.out)
      go_wp2_with (with_reducible refine Ab rfl 56 _ _ rfl w4.heap.size #[.slice A7 n7 c7,.bool s7,.slice B7 m7 d7] rfl rfl _ z9 (by kernel_rfl) rfl (by simp[Value.oneCell']) ?_;intro w5 k5 o5;have HB5:=Aa (show Below w4.heap.size w4 w5 from (Ae w4 _).trans (o5.below (Ae w4 _).size (Nat.le_refl _)));have TA:=Aa (HT7.out w5 o5);have TB:=Aa (HT6.out w5 o5);have XA:=Aa k5;have X65:=Aa (X64.out.next HB5.out);have x45:=X44.out.next HB5.out;have a0:=k5.cell 0 _ rfl;have a1:=k5.cell 1 _ rfl;have a2:=k5.cell 2 _ rfl;have b0:=X65.out.cell 0 _ rfl;have b1:=X65.out.cell 1 _ rfl;have b2:=X65.out.cell 2 _ rfl;clear o5 k5)
      refine (Nu.Nx _ _ L ML K MK (600+70*x) w5 TB.out.in_ (TA.out.in_.mono (by omega)) (by omega) (by have:=HML.out;omega) (by omega)).mono ?_;rintro e w6 ⟨v6,rfl,r6,b6⟩;obtain ⟨A8,n8,c8,s8,B8,m8,d8,rfl⟩:=r6.form;have HB7:=Aa ((HR4.out.next HB5.out).next b6);have x66:=X65.out.next b6;have X46:=Aa (x45.next b6);have hs6:w2.heap.size<w6.heap.size:=(by have:=b6.size;have:=HB5.out.size;omega)
      have HT8:=Aa (fun W (ho:Ai w2.heap.size w6 W)=>(r6.mono (j:=600+70*(x+1)) (by have:=HML.out;omega)).only x66 ho);have HLL:=Aa (show (Tm.norm (L++ML)).length<=x+1 from by have h1:=Nu.Bb (L++ML);rw[List.length_append]at h1;have:=HML.out;omega);clear r6 b6 a0 a1 a2 b0 b1 b2;go_wp2_with (with_reducible refine Ab rfl 56 _ _ rfl w2.heap.size #[.slice A8 n8 c8,.bool s8,.slice B8 m8 d8] rfl rfl _ x66 (by kernel_rfl) rfl (by simp[Value.oneCell']) ?_;intro w7 k7 o7)
      go_roundw
      case rel=>exact ⟨x+1,by omega,by go_num,Aa ⟨_,_,_,_,_,_,_,_,_,k7,HT8.out w7 o7,HLL.out,HE.out⟩,Aa (X46.out.other o7 hne),Aa (HB7.out.trans (o7.below HB7.out.size (by omega))),by have:=o7.size;omega⟩
      case measure=>simp[intOf];omega
   · obtain rfl:x=n:=(by omega);have HE:=Aa (show Ef vs l ([],0)=some (L,K) from by rw[he,List.drop_of_length_le (by have:=HN.out;omega),Ef]);have X6r:=Aa xb6;have T6r:=Aa (tr6.mono (j:=9000) (by omega));have b0:=xb6.cell 0 _ rfl;have b1:=xb6.cell 1 _ rfl;have b2:=xb6.cell 2 _ rfl;have x4r:=XR4.out;clear he xb6 tr6 HER
     go_wp2_with (with_reducible refine Ab rfl 56 _ _ rfl w0.heap.size #[.slice A6 n6 c6,.bool s6,.slice B6 m6 d6] rfl rfl _ x4r (by kernel_rfl) rfl (by simp[Value.oneCell']) ?_;intro w9 k9 o9);refine BA rfl rfl rfl k9 rfl ?_;exact HP.out (some (L,K)) _ _ _ HE.out rfl (T6r.out.only x4r o9) (HR2.out.trans (o9.below HR2.out.size (by omega)))
end
end Go.Proofs.YtgohmojcopajoaaGreatDoor
namespace Go.Proofs.YtgohmojcopajoaaGreatDoor.Nu
section
open Go.RowKit
section
variable {T:TypeId} {w w':World} {g k j:Nat} {x y z u v:Value} {L:List (Int×Int)} {K:Int} {e:Bool}
theorem Am.r0 (h:Am T w g #[x,y,z,u]):w.cell? ⟨g,0,none⟩=some x:=h.cell 0 x rfl
theorem Am.r1 (h:Am T w g #[x,y,z,u]):w.cell? ⟨g,1,none⟩=some y:=h.cell 1 y rfl
theorem Am.r2 (h:Am T w g #[x,y,z,u]):w.cell? ⟨g,2,none⟩=some z:=h.cell 2 z rfl
theorem Am.r3 (h:Am T w g #[x,y,z,u]):w.cell? ⟨g,3,none⟩=some u:=h.cell 3 u rfl
theorem ZK (hx:NL x) (hy:NL y) (hz:NL z) (hu:NL u):Cw (#[x,y,z,u]:Array Value).toList:=by intro t ht;simp at ht;rcases ht with rfl|rfl|rfl|rfl<;>assumption
theorem ZM (A B:Option Addr) (n c m d:Nat) (s e:Bool):Cw (#[.slice A n c,.bool s,.slice B m d,.bool e]:Array Value).toList:=ZK (NL.slice _ _ _) (NL.bool _) (NL.slice _ _ _) (NL.bool _)
theorem Gk {w:World} {ops:Array Oper} {rest:List Oper} {o:Oper} {a:Act} {Q:Exit->Act->World->Prop} (hgd:o.guard=none) (x y:Operand) (ho:o.op=.store 58 x y)
  (g:Nat) (s e:Bool) (A B:Option Addr) (n c m d:Nat) (hx:a.eval x=.pointer (some ⟨g,0,none⟩)) (hy:a.eval y=.agg #[.slice A n c,.bool s,.slice B m d,.bool e]) (u v z t:Value) (hb:Am 58 w g #[u,v,z,t])
  (h:∀w',Am 58 w' g #[.slice A n c,.bool s,.slice B m d,.bool e]->Ai g w w'->wpList Tryz.prog ops Q rest (a.put o.dst undef) w'):wpList Tryz.prog ops Q (o::rest) a w:=
 Ab hgd 58 x y ho g _ hx hy _ hb (by kernel_rfl) rfl (by simp[Value.oneCell']) h
theorem Hc {fn:Func} {R:Ending->World->Prop} {a:Act} {w:World} {g p:Nat} {x y z u:Value} (hres:fn.results=#[.cell p 58]) (hp:a.tmps.getD p undef=.pointer (some ⟨g,0,none⟩))
  (hb:Am 58 w g #[x,y,z,u]) (hd:a.defers=[]) (hR:R (.returned (.agg #[x,y,z,u])) w):bodyPost Tryz.prog fn R .ret a w:=
 bodyPost_ret (results_cell_row hres _ _ g _ #[x,y,z,u] _ _ hp hb Tryz.underlying58 rfl (by kernel_rfl)) hd hR
def Sj (w:World) (v:Value) (L:List (Int×Int)) (K:Int) (e:Bool) (k:Nat):Prop:=∃A n c s B m d,v=.agg #[.slice A n c,.bool s,.slice B m d,.bool e]/\AW w (.agg #[.slice A n c,.bool s,.slice B m d]) L K k
def Ph (w:World) (v:Value) (L:List (Int×Int)) (K:Int) (e:Bool) (k:Nat):Prop:=∃A n c s B m d,v=.agg #[.slice A n c,.bool s,.slice B m d,.bool e]/\AP w (.agg #[.slice A n c,.bool s,.slice B m d]) L K k
theorem Sj.below (h:Sj w v L K e k) (hb:Below w.heap.size w w'):Sj w' v L K e k:=by obtain ⟨A,n,c,s,B,m,d,rfl,h⟩:=h;exact ⟨A,n,c,s,B,m,d,rfl,h.below hb⟩
theorem Ph.below (h:Ph w v L K e k) (hb:Below w.heap.size w w'):Ph w' v L K e k:=by obtain ⟨A,n,c,s,B,m,d,rfl,h⟩:=h;exact ⟨A,n,c,s,B,m,d,rfl,h.below hb⟩
theorem Ph.in_ (h:Ph w v L K e k):Sj w v L K e k:=by obtain ⟨A,n,c,s,B,m,d,rfl,h⟩:=h;exact ⟨A,n,c,s,B,m,d,rfl,h.in_⟩
theorem IJ.offRel {A B C:Option Addr} {n m c d q:Nat} {s f:Bool} (h:IJ w A n L k) (hb:Am 58 w g #[.slice B m c,.bool s,.slice C q d,.bool f]):0<n->Apart A g:=by
 obtain ⟨ps,h,-⟩:=h;intro hn ad had he;obtain ⟨b,o,e,hc⟩:=h.2.1 hn;have hl:0<ps.length:=by rw[h.1];exact hn
 obtain ⟨g0,-,-⟩:=flat_get ps 0 ps[0] (List.getElem?_eq_getElem hl);have h0:=hc 0 _ g0;rw[had]at e;injection e with e
 subst e;have he':b=g:=he;subst he';rw[cell_of_row w b _ _ _ _ hb]at h0;match o,h0 with
 |0,h0=>simp at h0
 |1,h0=>simp at h0
 |2,h0=>simp at h0
 |3,h0=>simp at h0
 |o+4,h0=>simp at h0
theorem AP.onlyR {B C:Option Addr} {m c d q:Nat} {s f:Bool} (h:AP w v L K k) (hb:Am 58 w g #[.slice B m c,.bool s,.slice C q d,.bool f]) (ho:Ai g w w'):AP w' v L K k:=by have hk:Kp w w':=hb.kp (ZM _ _ _ _ _ _ _ _) ho;obtain ⟨A,n,c,s,B,m,d,e,h1,h2,h3,h4⟩:=h;exact ⟨A,n,c,s,B,m,d,e,h1.keep ho hk (h1.in_.offRel hb),h2,h3,h4.kp hk⟩
end
def Um (L:List (Int×Int)) (K:Int) (e:Bool) (k:Nat) (w:World) (en:Ending) (w':World):Prop:=∃v,en=.returned v/\Ph w' v L K e k/\Below w.heap.size w w'
end
section
open Go.RowKit
open Tm
theorem E2 (L:List (Int×Int)) (q:Nat) (u c x:Int) (h:L[q]?=some (u,c)):AH (L.take (q+1)) x=AH (L.take q) x+(if u=x/\0<=x then c else 0):=by rw[List.take_add_one,h,CI];simp[AH]
def Ia (w0 W1:World) (L:List (Int×Int)) (x:Int) (k q:Nat) (wr:World):Prop:=
 ∃s A n c,CE wr (w0.heap.size+1+1) #[.bool s,.slice A n c]/\AL wr (.agg #[.bool s,.slice A n c]) (AH (L.take q) x) (k+q)/\Below (w0.heap.size+1+1) W1 wr
theorem Rq (v:Value) (L:List (Int×Int)) (K x:Int) (k:Nat) (w0:World) (hv:AW w0 v L K k) (hl:L.length<=1099511) (hk:k<=1099511627):Calls Tryz.prog 112 #[v,.int .i64 x] w0 (Do (AH L x) (k+L.length) w0):=by
 obtain ⟨A,n,c,s,B,m,d,rfl,hp,hc1,hc2,-⟩:=hv;have hn:=hp.len;obtain ⟨z0,z1,z2,z3,z4⟩:=Cm 56 54 54 w0 #[.slice A n c,.bool s,.slice B m d] #[.bool false,.slice none 0 0] #[.bool false,.slice none 0 0];have x0:=z0.c0;rw[hn]at hl;have HN:=Aa hn;clear hn;go_enter Tryz.func112,Tryz.ntmps112;go_wp2_with fail
 generalize hW1:(((w0.alloc (.cells #[.slice A n c,.bool s,.slice B m d] 56)).alloc (.cells #[.bool false,.slice none 0 0] 54)).alloc (.cells #[.bool false,.slice none 0 0] 54))=W1 at *;clear hW1 x0;have HS:=Aa (show Ia w0 W1 L x k 0 W1 from ⟨false,none,0,0,z2,AL.zero _ _,Below.refl _ _⟩);have R0:=Aa z1;have T0:=Aa z3;have HZ4:=Aa z4;have HP0:=Aa hp;have Z0:=Aa z0;clear z0 z1 z2 z3 z4 hp
 go_loopw [6] (fun i wr=>∃q:Nat,q<=n/\i=.int .i64 q/\Hid (Ia w0 W1 L x k q wr)) (fun i _=>n-(intOf i).toNat)
 case atStart=>exact ⟨0,Nat.zero_le _,rfl,HS⟩
 case round=>
  obtain ⟨q,hq,rfl,HR⟩:=hrel;obtain ⟨s5,A5,n5,c5,b5,zz5,hB⟩:=HR.out;have hBW:w0.heap.size+1+1<=W1.heap.size:=by have:=HZ4.out;omega
  have zt:=Z0.out.below hB (by omega);have hT:Below w0.heap.size w0 wr:=T0.out.trans (hB.mono (by omega));have x0:=zt.c0;by_cases hqn:q<n
  · have hPw:IJ wr A n L k:=by
      obtain ⟨ps,h1,h2⟩:=HP0.out;exact ⟨ps,h1.below hT,h2⟩
    obtain ⟨bb,o,p,rfl,hlt,hLp,c0,c1,c2,hz⟩:=hPw.at_ hqn;by_cases hpx:p.v=x
    · by_cases hx0:0<=x
      · have HC:=Aa (show AH (L.take q) x+p.Z=AH (L.take (q+1)) x by rw[E2 L q _ _ x hLp,if_pos ⟨hpx,hx0⟩]);have hbb:(p.v==x)=true:=(by simpa using hpx);have HZ:=Aa hz;have HZ5:=Aa zz5;generalize hY:AH (L.take q) x=Y at *;clear hY hz zz5 hLp hpx HR;have HB5:=Aa b5;have HZT:=Aa zt;have HBB:=Aa hB;have HTT:=Aa hT;have b50:=b5.c0;have b51:=b5.c1;go_wp2_with fail;clear b50 b51 x0
        have HA:=Aa (fun W (h:Below wr.heap.size wr W)=>Hr (.agg #[.bool s5,.slice A5 n5 c5]) (.agg #[.bool p.s,.slice p.B p.m p.d]) Y p.Z (k+q) W ((HZ5.out.in_).below h) ((HZ.out.mono (by omega)).below h) (by omega))
        have SOF:=Aa (show ∀W,Below wr.heap.size wr W->(W.cell? ⟨w0.heap.size+1+1,0,none⟩=some (.bool s5)/\W.cell? ⟨w0.heap.size+1+1,1,none⟩=some (.slice A5 n5 c5)/\W.cell? ⟨w0.heap.size,0,none⟩=some (.slice (some ⟨bb,o,none⟩) n c)/\W.cell? ⟨bb,o+q*3+1,none⟩=some (.bool p.s)/\W.cell? ⟨bb,o+q*3+2,none⟩=some (.slice p.B p.m p.d)) from fun W h=>⟨(HB5.out.next h).c0,(HB5.out.next h).c1,(HZT.out.next h).c0,(h.cell (p:=⟨bb,o+q*3+1,none⟩) hlt).trans c1,(h.cell (p:=⟨bb,o+q*3+2,none⟩) hlt).trans c2⟩)
        clear b5 zt c0 c1 c2 hB hT
        refine BI (by kernel_rfl) (by kernel_rfl) (by kernel_rfl) (by kernel_rfl) (fun w w'=>Below w.heap.size w w') (fun j v w=>match j with|0=>v=.agg #[.bool s5,.slice A5 n5 c5]|1=>v=.pointer (some ⟨w0.heap.size,0,none⟩)|2=>v=.slice (some ⟨bb,o,none⟩) n c|3=>v=.int .i64 (q:Int)|4=>v=.pointer (some ⟨bb,o+q*3,none⟩)|5=>v=.pointer (some ⟨bb,o+q*3+1,none⟩)|6=>v=.agg #[.bool p.s,.slice p.B p.m p.d]|7=>AL w v (Y+p.Z) (k+q+1)|_=>True) (fun _ _ w=>Below wr.heap.size wr w) ?_ (fun _=>Ao wr 1) ?_ ?_
        · intro j v w w' hT h;match j,h with
          |0,h=>exact h
          |1,h=>exact h
          |2,h=>exact h
          |3,h=>exact h
          |4,h=>exact h
          |5,h=>exact h
          |6,h=>exact h
          |7,h=>exact h.below hT
          |j+8,h=>trivial
        · refine ⟨?_,?_,?_,?_,?_,?_,?_,?_,trivial⟩
          · intro listed σ w a hin hout hl hla hs hc hp hG hF;refine Ac.none rfl ?_;have e5:a.tmps.getD 5 undef=.pointer (some ⟨w0.heap.size+1+1,0,none⟩):=hout 5 (Ag (by kernel_rfl));have CC:=SOF.out w hG;obtain ⟨C0,C1,C2,D0,D1⟩:=CC;refine Does.val (.agg #[.bool s5,.slice A5 n5 c5]) (w':=w) ?_ ⟨Below.refl _ _,rfl,hG⟩;go_simp
          · intro listed σ w a hin hout hl hla hs hc hp hG hF;refine Ac.none rfl ?_;have e2:a.tmps.getD 2 undef=.pointer (some ⟨w0.heap.size,0,none⟩):=hout 2 (Ag (by kernel_rfl));refine Does.val (.pointer (some ⟨w0.heap.size,0,none⟩)) (w':=w) ?_ ⟨Below.refl _ _,rfl,hG⟩;simp only[Array.getD_eq_getD_getElem?]at e2;go_simp
          · intro listed σ w a hin hout hl hla hs hc hp hG hF;refine Ac.none rfl ?_;have e28:a.tmps.getD 28 undef=.pointer (some ⟨w0.heap.size,0,none⟩):=(hin 1 28 rfl (hp ⟨1,.data⟩ (by simp) rfl)).trans (hF 1 (hp ⟨1,.data⟩ (by simp) rfl));have CC:=SOF.out w hG;obtain ⟨C0,C1,C2,D0,D1⟩:=CC;refine Does.val (.slice (some ⟨bb,o,none⟩) n c) (w':=w) ?_ ⟨Below.refl _ _,rfl,hG⟩;go_simp
          · intro listed σ w a hin hout hl hla hs hc hp hG hF;refine Ac.none rfl ?_;have e6:a.tmps.getD 6 undef=.int .i64 (q:Int):=hout 6 (Ag (by kernel_rfl));refine Does.val (.int .i64 (q:Int)) (w':=w) ?_ ⟨Below.refl _ _,rfl,hG⟩;simp only[Array.getD_eq_getD_getElem?]at e6;go_simp
          · intro listed σ w a hin hout hl hla hs hc hp hG hF;refine Ac.none rfl ?_;have e29:a.tmps.getD 29 undef=.slice (some ⟨bb,o,none⟩) n c:=(hin 2 29 rfl (hp ⟨2,.data⟩ (by simp) rfl)).trans (hF 2 (hp ⟨2,.data⟩ (by simp) rfl));have e30:a.tmps.getD 30 undef=.int .i64 (q:Int):=(hin 3 30 rfl (hp ⟨3,.data⟩ (by simp) rfl)).trans (hF 3 (hp ⟨3,.data⟩ (by simp) rfl));refine Does.val (.pointer (some ⟨bb,o+q*3,none⟩)) (w':=w) ?_ ⟨Below.refl _ _,rfl,hG⟩
            simp only[Array.getD_eq_getD_getElem?]at e29 e30;go_simp;(try (intro hh;exfalso;omega))
          · intro listed σ w a hin hout hl hla hs hc hp hG hF;refine Ac.none rfl ?_;have e31:a.tmps.getD 31 undef=.pointer (some ⟨bb,o+q*3,none⟩):=(hin 4 31 rfl (hp ⟨4,.data⟩ (by simp) rfl)).trans (hF 4 (hp ⟨4,.data⟩ (by simp) rfl));refine Does.val (.pointer (some ⟨bb,o+q*3+1,none⟩)) (w':=w) ?_ ⟨Below.refl _ _,rfl,hG⟩;simp only[Array.getD_eq_getD_getElem?]at e31;go_simp
          · intro listed σ w a hin hout hl hla hs hc hp hG hF;refine Ac.none rfl ?_;have e32:a.tmps.getD 32 undef=.pointer (some ⟨bb,o+q*3+1,none⟩):=(hin 5 32 rfl (hp ⟨5,.data⟩ (by simp) rfl)).trans (hF 5 (hp ⟨5,.data⟩ (by simp) rfl));have CC:=SOF.out w hG;obtain ⟨C0,C1,C2,D0,D1⟩:=CC;refine Does.val (.agg #[.bool p.s,.slice p.B p.m p.d]) (w':=w) ?_ ⟨Below.refl _ _,rfl,hG⟩;go_simp
          · intro listed σ w a hin hout hl hla hs hc hp hG hF;refine Ac.none rfl ?_;have e27:a.tmps.getD 27 undef=.agg #[.bool s5,.slice A5 n5 c5]:=(hin 0 27 rfl (hp ⟨0,.data⟩ (by simp) rfl)).trans (hF 0 (hp ⟨0,.data⟩ (by simp) rfl));have e33:a.tmps.getD 33 undef=.agg #[.bool p.s,.slice p.B p.m p.d]:=(hin 6 33 rfl (hp ⟨6,.data⟩ (by simp) rfl)).trans (hF 6 (hp ⟨6,.data⟩ (by simp) rfl));refine Does.call ?_ (HA.out w hG) ?_
            · go_simp
            · rintro e w' ⟨v,rfl,z,hb⟩;exact ⟨_,rfl,hb,z,hG.next hb⟩
        · intro o ho;injection ho with ho;subst ho
          intro listed σ w a hall hin hout hG hF;refine Ac.none rfl ?_;have e5:a.tmps.getD 5 undef=.pointer (some ⟨w0.heap.size+1+1,0,none⟩):=hout 5 (MI (by kernel_rfl));have e34:=hin 7 34 rfl (by decide);have z7:=hF 7 (by decide);have z7:=hF 7 (by decide);obtain ⟨s8,A8,n8,c8,ev8⟩:=AL.form z7;rw[ev8]at e34 z7;have HX:=Aa (HB5.out.next hG)
          refine Does.store_box (T:=54) (cells:=#[.bool s8,.slice A8 n8 c8]) rfl e5 e34 (CE.box HX.out) (by kernel_rfl) rfl (by simp[Value.oneCell']) (fun w2 x9 o9=>?_);rw[show IW _ σ undef _=(Act.put (Act.put (Act.put (Act.put (Act.put (Act.put (Act.put (Act.put (Act.put _ (some 27) (σ 0)) (some 28) (σ 1)) (some 29) (σ 2)) (some 30) (σ 3)) (some 31) (σ 4)) (some 32) (σ 5)) (some 33) (σ 6)) (some 34) (σ 7)) none undef) from (CL hall).trans rfl]
          simp only[Act.put,List.setIfInBounds_toArray,List.set_cons_zero,List.set_cons_succ];have HE:=Aa (show Ia w0 W1 L x k (q+1) w2 from ⟨s8,A8,n8,c8,x9,by rw[<-HC.out];exact (z7.only HX.out o9).mono (by omega),(HBB.out.trans (hG.mono (Nat.le_trans hBW HBB.out.size))).trans (o9.below (Nat.le_trans hBW (Nat.le_trans HBB.out.size hG.size)) (Nat.le_refl _))⟩)
          generalize σ 0=tt0 at *;generalize σ 1=tt1 at *;generalize σ 2=tt2 at *;generalize σ 3=tt3 at *;generalize σ 4=tt4 at *;generalize σ 5=tt5 at *;generalize σ 6=tt6 at *;generalize σ 7=tt7 at *;clear hF hG hall hin hout SOF HA z7 x9 o9 e5 e34 ev8;go_wp2_with fail;go_roundw
          case rel=>exact ⟨q+1,by omega,by go_num,HE⟩
          case measure=>simp[intOf]<;>omega
      · have HE:=Aa (show Ia w0 W1 L x k (q+1) wr from ⟨s5,A5,n5,c5,b5,by rw[E2 L q _ _ x hLp,if_neg (fun h=>hx0 h.2),Int.add_zero];exact zz5.mono (by omega),hB⟩);have hbb:(p.v==x)=true:=(by simpa using hpx);clear zz5 hLp hpx HR hz b5;go_wp2_with fail;go_roundw
        case rel=>exact ⟨q+1,by omega,by go_num,HE⟩
        case measure=>simp[intOf]<;>omega
    · have HE:=Aa (show Ia w0 W1 L x k (q+1) wr from ⟨s5,A5,n5,c5,b5,by rw[E2 L q _ _ x hLp,if_neg (fun h=>hpx h.1),Int.add_zero];exact zz5.mono (by omega),hB⟩);have hbb:(p.v==x)=false:=(by simpa using hpx);clear zz5 hLp hpx HR hz b5;go_wp2_with fail;go_roundw
      case rel=>exact ⟨q+1,by omega,by go_num,HE⟩
      case measure=>simp[intOf]<;>omega
  · obtain rfl:q=n:=(by omega);have HL:=Aa (show AH (L.take q) x=AH L x by rw[List.take_of_length_le (by rw[HN.out];exact Nat.le_refl _)]);have b50:=b5.c0;have b51:=b5.c1;have k1:CE wr (w0.heap.size+1) #[.bool false,.slice none 0 0]:=Am.below R0.out hB (by omega);have HZ5:=Aa zz5;have HT:=Aa hT;clear zz5 b5 HR hT;go_wp2_with (with_reducible refine Aj rfl _ _ rfl (w0.heap.size+1) _ _ _ _ rfl rfl _ _ k1 ?_;intro w3 k3 ho3);refine Au rfl rfl k3 rfl ?_
    refine ⟨_,rfl,?_,Bg HT.out (by omega) ho3⟩;rw[HN.out,<-HL.out];exact HZ5.out.only k1 ho3
end
section
open Go.RowKit
open Tm
def ints (xs:List Int):List Value:=xs.map fun x=>Value.int .i64 x
def ZN (w:World) (A:Option Addr) (n:Nat) (xs:List Int):Prop:=xs.length=n/\(0<n->∃b o,A=some ⟨b,o,none⟩/\∀j u,(ints xs)[j]?=some u->w.cell? ⟨b,o+j,none⟩=some u)
def Un (v:Int):Bool->List Int->List Int
 |dn,[]=>if dn then [] else [v]
 |dn,u::us=>(if !dn&&decide (v<=u) then [v] else [])++((if u≠v then [u] else [])++Un v (dn || decide (v<=u)) us)
def Zx (xs:List Int) (w:World) (e:Ending) (w':World):Prop:=∃A c,e=.returned (.slice A xs.length c)/\ZN w' A xs.length xs/\xs.length<=c/\c<=9223372036854775807/\Below w.heap.size w w'
def Za (w0:World) (v:Int) (xs:List Int) (q:Nat) (dn:Bool) (sv:Value) (wr:World):Prop:=
 ∃os:List Int,Ak 3 1 wr w0.heap.size sv os.length (ints os)/\os++Un v dn (xs.drop q)=Un v false xs/\Below w0.heap.size w0 wr/\os.length<=2*q
end
section
open Go.RowKit
open Tm
def XM (W1:World) (L:List (Int×Int)) (q:Nat) (sv:Value) (wr:World):Prop:=Ak 3 1 wr W1.heap.size sv ((L.take q).map Prod.fst).length (ints ((L.take q).map Prod.fst))/\Below W1.heap.size W1 wr
end
section
open Go.RowKit
open Tm
theorem val_take_succ (vs:List Int) (L:List (Int×Int)) (q:Nat) (u c:Int) (h:L[q]?=some (u,c)):val vs (L.take (q+1))=val vs (L.take q)+(if 0<=u then c*vs.getD u.toNat 0 else 0):=by rw[List.take_add_one,h,val_append];simp[val]
def Zb (g:Nat) (W1:World) (L:List (Int×Int)) (K:Int) (vs:List Int) (k q:Nat) (wr:World):Prop:=
 ∃s A n c,CE wr g #[.bool s,.slice A n c]/\AL wr (.agg #[.bool s,.slice A n c]) (K+val vs (L.take q)) (k+q)/\Below g W1 wr
end
end Go.Proofs.YtgohmojcopajoaaGreatDoor.Nu
