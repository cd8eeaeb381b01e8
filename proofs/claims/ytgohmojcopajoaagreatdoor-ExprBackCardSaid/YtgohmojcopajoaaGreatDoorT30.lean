/- Texts of one seat, put together: ExprTe RelBox RCoef InsertP TVars TValue RelA LogicP ExprFm. -/
import Derived.Test.YtgohmojcopajoaaGreatDoorT21
import Derived.Test.YtgohmojcopajoaaGreatDoorT29
import Derived.Test.YtgohmojcopajoaaGreatDoorT15
import Derived.Test.YtgohmojcopajoaaGreatDoorT27
import Derived.Test.YtgohmojcopajoaaGreatDoorT19
import Derived.Test.YtgohmojcopajoaaGreatDoorT18
import Derived.Test.YtgohmojcopajoaaGreatDoorT14
set_option linter.unusedVariables false
set_option linter.unusedSimpArgs false
set_option maxRecDepth 100000
set_option maxHeartbeats 16000000
namespace Go.Proofs.YtgohmojcopajoaaGreatDoor
section
open Go.RowKit
open Lx Ex
theorem PH (m:Mn) (V:Option Addr) (mv dv:Nat) (vs:List ByteArray) (w0:World) (hS:Hb w0 V mv vs) (hm:mv<=9223372036854775807) (hz:m.num.size<=4611686018427387904):Calls Tryz.prog 48 #[.agg #[.bool m.neg,.string m.num,.string m.var],.slice V mv dv] w0 (CH (Wi m vs) (Yh m) 600 (Yi m vs) w0):=by
 obtain ⟨num,var,neg⟩:=m;unfold Wi Yh Yi Uf Xd;by_cases hn:num=eS<;>by_cases hv:var=eS<;>cases neg<;>simp only[hn,hv,if_true,if_false,if_pos,if_neg,decide_true,decide_false,Bool.true_or,Bool.false_or,Bool.false_eq_true,not_false_eq_true]
 · exact Pq eS eS V mv dv vs w0 hS hm (by decide) rfl rfl
 · exact Ps eS eS V mv dv vs w0 hS hm (by decide) rfl rfl
 · exact Pr eS var V mv dv vs w0 hS hm (by decide) rfl hv
 · exact Pt eS var V mv dv vs w0 hS hm (by decide) rfl hv
 · exact Pu num eS V mv dv vs w0 hS hm hz hn rfl
 · exact Pw num eS V mv dv vs w0 hS hm hz hn rfl
 · exact Pv num var V mv dv vs w0 hS hm hz hn hv
 · exact Px num var V mv dv vs w0 hS hm hz hn hv
def I5 (vs:List ByteArray):List Mn->List (Int×Int)×Int->Option (List (Int×Int)×Int)
 |[],s=>some s
 |m::l,s=>if Yi m vs=true then I5 vs l (Tm.norm (s.1++Wi m vs),s.2+Yh m) else none
def PI (r:Option (List (Int×Int)×Int)) (w:World) (e:Ending) (w':World):Prop:=∃v,e=.returned (.tuple #[v,.bool r.isSome])/\Nu.Bm w' v (r.getD ([],0)).1 (r.getD ([],0)).2 9000/\Below w.heap.size w w'
theorem KF (m:Mn) (vs:List ByteArray):(Wi m vs).length<=1:=by
 unfold Wi H8;split
 · simp
 · have h1:=Nu.AY ((Tm.norm [(CP vs m.var 0,1)]).map fun p=>(p.1,Uf m*p.2));have h2:=Nu.AY [(CP vs m.var 0,(1:Int))];rw[List.length_map]at h1;simp at h2;omega
theorem IY (w:World) (k:Nat):Nu.Bm w (.agg #[.slice none 0 0,.bool false,.slice none 0 0]) [] 0 k:=⟨none,0,0,false,none,0,0,rfl,⟨[],⟨rfl,fun h=>absurd h (by omega),fun p h=>by cases h⟩,rfl,fun p h=>by cases h⟩,Nat.le_refl _,by omega,Nu.Bg.zero w k⟩
theorem KG (S:Nat->Prop) (A:Option Addr) (n c:Nat) (l:List Mn) (V:Option Addr) (mv dv:Nat) (vs:List ByteArray) (w0:World) (h:Dg S w0 A n l) (hn9:n<=4611686018427387903) (hz:KQ l) (hS:Hb w0 V mv vs) (hm:mv<=9223372036854775807):Calls Tryz.prog 24 #[.slice A n c,.slice V mv dv] w0 (PI (if Bd l=true then I5 vs l ([],0) else none) w0):=by
 obtain ⟨x4,hb,hsz⟩:=Av 56 w0 #[.slice none 0 0,.bool false,.slice none 0 0];have HB:=Aa hb;have X4:=Aa x4;have HR:=Aa (Cm S A n c l _ (h.keep (AC.of_below hb)) hn9 hz);have HSV:=Aa hS;have HM:=Aa h.low;have HN:=Aa h.1;have HZ:=Aa hz;have hl64:Bd l=true->n<=64:=by intro hh;unfold Bd at hh;rw[h.1]at hh;simp at hh;omega
 cases hs:Bd l with
 |false=>
  rw[hs]at HR;have HP:=Aa (show ∀v w',Nu.Bm w' v [] 0 9000->Below w0.heap.size w0 w'->PI (if false=true then I5 vs l ([],0) else none) w0 (.returned (.tuple #[v,.bool false])) w' from fun v w' h1 h2=>⟨v,rfl,h1,h2⟩);clear h hz hS hb x4 hl64 hs;go_enter Tryz.func24,Tryz.ntmps24;go_wp2_with fail;refine HR.out.mono ?_;rintro e w2 ⟨rfl,b2⟩;have y4:=X4.out.next b2;have HB2:=Aa (HB.out.next b2);clear b2
  go_wp2_with (with_reducible refine Ac rfl 56 _ _ rfl w0.heap.size #[.slice none 0 0,.bool false,.slice none 0 0] rfl rfl _ y4 (by kernel_rfl) rfl (by simp[Value.oneCell']) ?_;intro w9 k9 o9);refine BG rfl rfl rfl k9 rfl ?_;exact HP.out _ _ (IY _ _) (HB2.out.trans (o9.below HB2.out.size (by omega)))
 |true=>
  rw[hs]at HR;have h64:=hl64 hs;have HP:=Aa (show ∀r v b w',I5 vs l ([],0)=r->b=r.isSome->Nu.Bm w' v (r.getD ([],0)).1 (r.getD ([],0)).2 9000->Below w0.heap.size w0 w'->PI (if true=true then I5 vs l ([],0) else none) w0 (.returned (.tuple #[v,.bool b])) w' from fun r v b w' e hb h1 h2=>by rw[if_pos rfl,e,hb];exact ⟨v,rfl,h1,h2⟩);clear h hz hS hb x4 hl64 hs;go_enter Tryz.func24,Tryz.ntmps24;go_wp2_with fail;refine HR.out.mono ?_;rintro e w2 ⟨rfl,b2⟩
  have Y4:=Aa (X4.out.next b2);have HB2:=Aa (HB.out.next b2);have hs2:w0.heap.size<w2.heap.size:=by have:=b2.size;omega
  obtain ⟨x6,hb6,hsz6⟩:=Av 56 w2 #[.slice none 0 0,.bool false,.slice none 0 0];have X6:=Aa x6;have HB6:=Aa (HB2.out.next hb6);have Y6:=Aa (Y4.out.next hb6);have hne:w0.heap.size≠w2.heap.size:=by omega
  have hne':w2.heap.size≠w0.heap.size:=by omega
  have HG0:=Aa (show Nu.Bm (w2.alloc (.cells #[.slice none 0 0,.bool false,.slice none 0 0] 56)) (.agg #[.slice none 0 0,.bool false,.slice none 0 0]) [] 0 (600+70*0) from IY _ _);clear b2 hb6 x6;go_wp2_with fail;generalize hW:w2.alloc (.cells #[.slice none 0 0,.bool false,.slice none 0 0] 56)=W2 at *;clear hW
  go_loopw [17] (fun i wr=>∃x:Nat,x<=n/\i=.int .i64 x/\Hid (∃L K A6 n6 c6 s6 B6 m6 d6,Ap 56 wr w2.heap.size #[.slice A6 n6 c6,.bool s6,.slice B6 m6 d6]/\Nu.Bm wr (.agg #[.slice A6 n6 c6,.bool s6,.slice B6 m6 d6]) L K (600+70*x)/\L.length<=x/\I5 vs l ([],0)=I5 vs (l.drop x) (L,K))/\Hid (Ap 56 wr w0.heap.size #[.slice none 0 0,.bool false,.slice none 0 0])/\Hid (Below w0.heap.size w0 wr)/\w2.heap.size<wr.heap.size) (fun i _=>n-(intOf i).toNat)
  case atStart=>exact ⟨0,Nat.zero_le _,rfl,Aa ⟨[],0,_,_,_,_,_,_,_,X6.out,HG0.out,Nat.le_refl _,rfl⟩,Y6,HB6,by omega⟩
  case round=>
   obtain ⟨x,hx,rfl,HER,XR4,HR2,hwr⟩:=hrel;obtain ⟨L,K,A6,n6,c6,s6,B6,m6,d6,xb6,tr6,hll,he⟩:=HER.out;by_cases hxn:x<n
   · obtain ⟨bb,oo,m,hA,hlt,hmm,e0,e1,e2⟩:=(HM.out.keep (AC.of_below HR2.out)).at_ hxn;subst hA;obtain ⟨neg,num,var,hme⟩:∃neg num var,m=⟨num,var,neg⟩:=⟨m.neg,m.num,m.var,by cases m;rfl⟩;subst hme;have e0:wr.cell? ⟨bb,oo+x*3,none⟩=some (.bool neg):=e0;have e1:wr.cell? ⟨bb,oo+x*3+1,none⟩=some (.string num):=e1;have e2:wr.cell? ⟨bb,oo+x*3+2,none⟩=some (.string var):=e2;have hd:l.drop x=⟨num,var,neg⟩::l.drop (x+1):=by
      have hl:x<l.length:=(by have:=HN.out;omega);rw[List.drop_eq_getElem_cons hl];congr 1
      rw[List.getElem?_eq_getElem hl]at hmm;injection hmm
     have hzz:=(HZ.out _ (List.mem_of_getElem? hmm)).1;have HTO:=Aa (fun W (hW:Below w0.heap.size w0 W)=>PH ⟨num,var,neg⟩ V mv dv vs W (HSV.out.below hW) hm hzz);have HE:=Aa (show I5 vs l ([],0)=if Yi ⟨num,var,neg⟩ vs=true then I5 vs (l.drop (x+1)) (Tm.norm (L++Wi ⟨num,var,neg⟩ vs),K+Yh ⟨num,var,neg⟩) else none from by rw[he,hd,I5]);have HML:=Aa (KF ⟨num,var,neg⟩ vs)
     have z1:Ap 88 (wr.alloc (.cells #[.bool false,.string ⟨#[]⟩,.string ⟨#[]⟩] 88)) wr.heap.size #[.bool false,.string ⟨#[]⟩,.string ⟨#[]⟩]:=Ap.new _ _ _;have X6r:=Aa xb6;have T6r:=Aa tr6;clear he hd hmm hzz HER xb6 tr6;generalize Yi ⟨num,var,neg⟩ vs=ok at *;generalize Wi ⟨num,var,neg⟩ vs=ML at *;generalize Yh ⟨num,var,neg⟩=MK at *
     go_wp2_with (with_reducible refine Ac rfl 88 _ _ rfl wr.heap.size #[.bool neg,.string num,.string var] rfl rfl _ z1 (by kernel_rfl) rfl (by simp[Value.oneCell']) ?_;intro wy ky oy;have HBy:=Aa (show Below wr.heap.size wr wy from (Ae wr _).trans (oy.below (Ae wr _).size (Nat.le_refl _)));have y0:=ky.cell 0 _ rfl;have y1:=ky.cell 1 _ rfl;have y2:=ky.cell 2 _ rfl;clear oy ky e0 e1 e2 z1);refine (HTO.out _ (HR2.out.next HBy.out)).mono ?_;rintro e w4 ⟨v4,rfl,r4,b4⟩
     obtain ⟨A7,n7,c7,s7,B7,m7,d7,rfl⟩:=r4.form;have HB4:=Aa (show Below wr.heap.size wr w4 from HBy.out.trans (b4.mono HBy.out.size));have HR4:=Aa (HR2.out.next HB4.out);have hs4:wr.heap.size<=w4.heap.size:=HB4.out.size;have z9:Ap 56 (w4.alloc (.cells #[.slice none 0 0,.bool false,.slice none 0 0] 56)) w4.heap.size #[.slice none 0 0,.bool false,.slice none 0 0]:=Ap.new _ _ _;have X44:=Aa (XR4.out.next HB4.out);have X64:=Aa (X6r.out.next HB4.out)
     have T64:=Aa (T6r.out.below HB4.out);have T74:=Aa r4;have HT7:=Aa (fun W (ho:Ak w4.heap.size (w4.alloc (.cells #[.slice none 0 0,.bool false,.slice none 0 0] 56)) W)=>(T74.out.below (Ae w4 _)).only z9 ho);have HT6:=Aa (fun W (ho:Ak w4.heap.size (w4.alloc (.cells #[.slice none 0 0,.bool false,.slice none 0 0] 56)) W)=>(T64.out.below (Ae w4 _)).only z9 ho);have hn40:w0.heap.size≠w4.heap.size:=(by omega);have hn42:w2.heap.size≠w4.heap.size:=(by omega)
     clear y0 y1 y2 b4 r4 HTO;cases ok with
     |false=>
      have HE:=Aa (show I5 vs l ([],0)=none from HE.out);go_wp2_with (first
       |(with_reducible refine Ac rfl 56 _ _ rfl w4.heap.size #[.slice A7 n7 c7,.bool s7,.slice B7 m7 d7] rfl rfl _ z9 (by kernel_rfl) rfl (by simp[Value.oneCell']) ?_;intro w5 k5 o5;have HB5:=Aa (show Below w4.heap.size w4 w5 from (Ae w4 _).trans (o5.below (Ae w4 _).size (Nat.le_refl _)));have TA:=Aa (HT7.out w5 o5);have TB:=Aa (HT6.out w5 o5);have XA:=Aa k5;have X65:=Aa (X64.out.next HB5.out);have x45:=X44.out.next HB5.out;have a0:=k5.cell 0 _ rfl;have a1:=k5.cell 1 _ rfl;have a2:=k5.cell 2 _ rfl;have b0:=X65.out.cell 0 _ rfl;have b1:=X65.out.cell 1 _ rfl;have b2:=X65.out.cell 2 _ rfl;clear o5 k5)
       |(with_reducible refine Ac rfl 56 _ _ rfl w0.heap.size #[.slice none 0 0,.bool false,.slice none 0 0] rfl rfl _ x45 (by kernel_rfl) rfl (by simp[Value.oneCell']) ?_;intro w9 k9 o9))
      refine BG rfl rfl rfl k9 rfl ?_;have HB9:=Aa (HR4.out.next HB5.out);exact HP.out none _ _ _ HE.out rfl (IY _ _) (HB9.out.trans (o9.below HB9.out.size (by omega)))
     |true=>
      have HE:=Aa (show I5 vs l ([],0)=I5 vs (l.drop (x+1)) (Tm.norm (L++ML),K+MK) from HE.out)
      go_wp2_with (with_reducible refine Ac rfl 56 _ _ rfl w4.heap.size #[.slice A7 n7 c7,.bool s7,.slice B7 m7 d7] rfl rfl _ z9 (by kernel_rfl) rfl (by simp[Value.oneCell']) ?_;intro w5 k5 o5;have HB5:=Aa (show Below w4.heap.size w4 w5 from (Ae w4 _).trans (o5.below (Ae w4 _).size (Nat.le_refl _)));have TA:=Aa (HT7.out w5 o5);have TB:=Aa (HT6.out w5 o5);have XA:=Aa k5;have X65:=Aa (X64.out.next HB5.out);have x45:=X44.out.next HB5.out;have a0:=k5.cell 0 _ rfl;have a1:=k5.cell 1 _ rfl;have a2:=k5.cell 2 _ rfl;have b0:=X65.out.cell 0 _ rfl;have b1:=X65.out.cell 1 _ rfl;have b2:=X65.out.cell 2 _ rfl;clear o5 k5)
      refine (Nu.Oe _ _ L ML K MK (600+70*x) w5 TB.out.in_ (TA.out.in_.mono (by omega)) (by omega) (by have:=HML.out;omega) (by omega)).mono ?_;rintro e w6 ⟨v6,rfl,r6,b6⟩;obtain ⟨A8,n8,c8,s8,B8,m8,d8,rfl⟩:=r6.form;have HB7:=Aa ((HR4.out.next HB5.out).next b6);have x66:=X65.out.next b6;have X46:=Aa (x45.next b6);have hs6:w2.heap.size<w6.heap.size:=(by have:=b6.size;have:=HB5.out.size;omega)
      have HT8:=Aa (fun W (ho:Ak w2.heap.size w6 W)=>(r6.mono (j:=600+70*(x+1)) (by have:=HML.out;omega)).only x66 ho);have HLL:=Aa (show (Tm.norm (L++ML)).length<=x+1 from by have h1:=Nu.AY (L++ML);rw[List.length_append]at h1;have:=HML.out;omega);clear r6 b6 a0 a1 a2 b0 b1 b2;go_wp2_with (with_reducible refine Ac rfl 56 _ _ rfl w2.heap.size #[.slice A8 n8 c8,.bool s8,.slice B8 m8 d8] rfl rfl _ x66 (by kernel_rfl) rfl (by simp[Value.oneCell']) ?_;intro w7 k7 o7)
      go_roundw
      case rel=>exact ⟨x+1,by omega,by go_num,Aa ⟨_,_,_,_,_,_,_,_,_,k7,HT8.out w7 o7,HLL.out,HE.out⟩,Aa (X46.out.other o7 hne),Aa (HB7.out.trans (o7.below HB7.out.size (by omega))),by have:=o7.size;omega⟩
      case measure=>simp[intOf];omega
   · obtain rfl:x=n:=(by omega);have HE:=Aa (show I5 vs l ([],0)=some (L,K) from by rw[he,List.drop_of_length_le (by have:=HN.out;omega),I5]);have X6r:=Aa xb6;have T6r:=Aa (tr6.mono (j:=9000) (by omega));have b0:=xb6.cell 0 _ rfl;have b1:=xb6.cell 1 _ rfl;have b2:=xb6.cell 2 _ rfl;have x4r:=XR4.out;clear he xb6 tr6 HER
     go_wp2_with (with_reducible refine Ac rfl 56 _ _ rfl w0.heap.size #[.slice A6 n6 c6,.bool s6,.slice B6 m6 d6] rfl rfl _ x4r (by kernel_rfl) rfl (by simp[Value.oneCell']) ?_;intro w9 k9 o9);refine BG rfl rfl rfl k9 rfl ?_;exact HP.out (some (L,K)) _ _ _ HE.out rfl (T6r.out.only x4r o9) (HR2.out.trans (o9.below HR2.out.size (by omega)))
end
end Go.Proofs.YtgohmojcopajoaaGreatDoor
namespace Go.Proofs.YtgohmojcopajoaaGreatDoor.Nu
section
open Go.RowKit
section
variable {T:TypeId} {w w':World} {g k j:Nat} {x y z u v:Value} {L:List (Int×Int)} {K:Int} {e:Bool}
theorem Wm (hx:NL x) (hy:NL y) (hz:NL z) (hu:NL u):CO (#[x,y,z,u]:Array Value).toList:=by intro t ht;simp at ht;rcases ht with rfl|rfl|rfl|rfl<;>assumption
theorem ZM (A B:Option Addr) (n c m d:Nat) (s e:Bool):CO (#[.slice A n c,.bool s,.slice B m d,.bool e]:Array Value).toList:=Wm (NL.slice _ _ _) (NL.bool _) (NL.slice _ _ _) (NL.bool _)
theorem GC {w:World} {ops:Array Oper} {rest:List Oper} {o:Oper} {a:Act} {Q:Exit->Act->World->Prop} (hgd:o.guard=none) (x y:Operand) (ho:o.op=.store 58 x y)
  (g:Nat) (s e:Bool) (A B:Option Addr) (n c m d:Nat) (hx:a.eval x=.pointer (some ⟨g,0,none⟩)) (hy:a.eval y=.agg #[.slice A n c,.bool s,.slice B m d,.bool e]) (u v z t:Value) (hb:Ap 58 w g #[u,v,z,t])
  (h:∀w',Ap 58 w' g #[.slice A n c,.bool s,.slice B m d,.bool e]->Ak g w w'->wpList Tryz.prog ops Q rest (a.put o.dst undef) w'):wpList Tryz.prog ops Q (o::rest) a w:=
 Ac hgd 58 x y ho g _ hx hy _ hb (by kernel_rfl) rfl (by simp[Value.oneCell']) h
theorem Hw {fn:Func} {R:Ending->World->Prop} {a:Act} {w:World} {g p:Nat} {x y z u:Value} (hres:fn.results=#[.cell p 58]) (hp:a.tmps.getD p undef=.pointer (some ⟨g,0,none⟩))
  (hb:Ap 58 w g #[x,y,z,u]) (hd:a.defers=[]) (hR:R (.returned (.agg #[x,y,z,u])) w):bodyPost Tryz.prog fn R .ret a w:=
 bodyPost_ret (results_cell_row hres _ _ g _ #[x,y,z,u] _ _ hp hb Tryz.underlying58 rfl (by kernel_rfl)) hd hR
def XJ (w:World) (v:Value) (L:List (Int×Int)) (K:Int) (e:Bool) (k:Nat):Prop:=∃A n c s B m d,v=.agg #[.slice A n c,.bool s,.slice B m d,.bool e]/\Bt w (.agg #[.slice A n c,.bool s,.slice B m d]) L K k
def PK (w:World) (v:Value) (L:List (Int×Int)) (K:Int) (e:Bool) (k:Nat):Prop:=∃A n c s B m d,v=.agg #[.slice A n c,.bool s,.slice B m d,.bool e]/\Bm w (.agg #[.slice A n c,.bool s,.slice B m d]) L K k
theorem XJ.below (h:XJ w v L K e k) (hb:Below w.heap.size w w'):XJ w' v L K e k:=by obtain ⟨A,n,c,s,B,m,d,rfl,h⟩:=h;exact ⟨A,n,c,s,B,m,d,rfl,h.below hb⟩
theorem PK.below (h:PK w v L K e k) (hb:Below w.heap.size w w'):PK w' v L K e k:=by obtain ⟨A,n,c,s,B,m,d,rfl,h⟩:=h;exact ⟨A,n,c,s,B,m,d,rfl,h.below hb⟩
theorem PK.in_ (h:PK w v L K e k):XJ w v L K e k:=by obtain ⟨A,n,c,s,B,m,d,rfl,h⟩:=h;exact ⟨A,n,c,s,B,m,d,rfl,h.in_⟩
theorem MF.offRel {A B C:Option Addr} {n m c d q:Nat} {s f:Bool} (h:MF w A n L k) (hb:Ap 58 w g #[.slice B m c,.bool s,.slice C q d,.bool f]):0<n->Apart A g:=by
 obtain ⟨ps,h,-⟩:=h;intro hn ad J6 he;obtain ⟨b,o,e,hc⟩:=h.2.1 hn;have hl:0<ps.length:=by rw[h.1];exact hn
 obtain ⟨g0,-,-⟩:=flat_get ps 0 ps[0] (List.getElem?_eq_getElem hl);have h0:=hc 0 _ g0;rw[J6]at e;injection e with e
 subst e;have he':b=g:=he;subst he';rw[cell_of_row w b _ _ _ _ hb]at h0;match o,h0 with
 |0,h0=>simp at h0
 |1,h0=>simp at h0
 |2,h0=>simp at h0
 |3,h0=>simp at h0
 |o+4,h0=>simp at h0
theorem Bm.onlyR {B C:Option Addr} {m c d q:Nat} {s f:Bool} (h:Bm w v L K k) (hb:Ap 58 w g #[.slice B m c,.bool s,.slice C q d,.bool f]) (ho:Ak g w w'):Bm w' v L K k:=by have hk:Kp w w':=hb.kp (ZM _ _ _ _ _ _ _ _) ho;obtain ⟨A,n,c,s,B,m,d,e,h1,h2,h3,h4⟩:=h;exact ⟨A,n,c,s,B,m,d,e,h1.keep ho hk (h1.in_.offRel hb),h2,h3,h4.kp hk⟩
end
def Us (L:List (Int×Int)) (K:Int) (e:Bool) (k:Nat) (w:World) (en:Ending) (w':World):Prop:=∃v,en=.returned v/\PK w' v L K e k/\Below w.heap.size w w'
end
section
open Go.RowKit
open Tm
def YJ (w0 W1:World) (L:List (Int×Int)) (x:Int) (k q:Nat) (wr:World):Prop:=
 ∃s A n c,Di wr (w0.heap.size+1+1) #[.bool s,.slice A n c]/\Bg wr (.agg #[.bool s,.slice A n c]) (Ba (L.take q) x) (k+q)/\Below (w0.heap.size+1+1) W1 wr
end
section
open Go.RowKit
open Tm
def ints (xs:List Int):List Value:=xs.map fun x=>Value.int .i64 x
def ZN (w:World) (A:Option Addr) (n:Nat) (xs:List Int):Prop:=xs.length=n/\(0<n->∃b o,A=some ⟨b,o,none⟩/\∀j u,(ints xs)[j]?=some u->w.cell? ⟨b,o+j,none⟩=some u)
def Ut (v:Int):Bool->List Int->List Int
 |dn,[]=>if dn then [] else [v]
 |dn,u::us=>(if !dn&&decide (v<=u) then [v] else [])++((if u≠v then [u] else [])++Ut v (dn || decide (v<=u)) us)
def Z4 (xs:List Int) (w:World) (e:Ending) (w':World):Prop:=∃A c,e=.returned (.slice A xs.length c)/\ZN w' A xs.length xs/\xs.length<=c/\c<=9223372036854775807/\Below w.heap.size w w'
def Zh (w0:World) (v:Int) (xs:List Int) (q:Nat) (dn:Bool) (sv:Value) (wr:World):Prop:=
 ∃os:List Int,An 3 1 wr w0.heap.size sv os.length (ints os)/\os++Ut v dn (xs.drop q)=Ut v false xs/\Below w0.heap.size w0 wr/\os.length<=2*q
end
section
open Go.RowKit
open Tm
def Yo (W1:World) (L:List (Int×Int)) (q:Nat) (sv:Value) (wr:World):Prop:=An 3 1 wr W1.heap.size sv ((L.take q).map Prod.fst).length (ints ((L.take q).map Prod.fst))/\Below W1.heap.size W1 wr
end
section
open Go.RowKit
open Tm
theorem val_take_succ (vs:List Int) (L:List (Int×Int)) (q:Nat) (u c:Int) (h:L[q]?=some (u,c)):val vs (L.take (q+1))=val vs (L.take q)+(if 0<=u then c*vs.getD u.toNat 0 else 0):=by rw[List.take_add_one,h,val_append];simp[val]
def Zi (g:Nat) (W1:World) (L:List (Int×Int)) (K:Int) (vs:List Int) (k q:Nat) (wr:World):Prop:=
 ∃s A n c,Di wr g #[.bool s,.slice A n c]/\Bg wr (.agg #[.bool s,.slice A n c]) (K+val vs (L.take q)) (k+q)/\Below g W1 wr
end
section
open Go.RowKit
open Tm
theorem PL (v:Value) (L:List (Int×Int)) (K:Int) (k:Nat) (w0:World) (hv:Bt w0 v L K k) (hl:L.length<=1099511) (hk:k<=1099511627):Calls Tryz.prog 147 #[v] w0 (Us (norm L) K false (k+L.length) w0):=by
 have hv0:=hv;obtain ⟨A,n,c,s,B,m,d,rfl,-⟩:=hv;obtain ⟨z0,z1,z2,-⟩:=Az 56 58 w0 #[.slice A n c,.bool s,.slice B m d] #[.slice none 0 0,.bool false,.slice none 0 0,.bool false];have hpl:=EM _ L K k _ (hv0.below z2) hl hk;have x0:=z0.c0;have x1:=z0.c1;have x2:=z0.c2;go_enter Tryz.func147,Tryz.ntmps147;go_wp2_with fail;refine hpl.mono ?_;rintro e w1 ⟨v1,rfl,r1,b1⟩;obtain ⟨A1,n1,c1,s1,B1,m1,d1,rfl⟩:=r1.form;have k1:=z1.next b1
 go_wp2_with (with_reducible refine GC rfl _ _ rfl (w0.heap.size+1) _ _ _ _ _ _ _ _ rfl rfl _ _ _ _ k1 ?_;intro w3 k3 ho3);refine Hw rfl rfl k3 rfl ?_;exact ⟨_,rfl,⟨_,_,_,_,_,_,_,rfl,r1.onlyR k1 ho3⟩,CF (z2.next b1) (by omega) ho3⟩
theorem Sp (v:Value) (L:List (Int×Int)) (K:Int) (k:Nat) (w0:World) (hv:Bt w0 v L K k) (hl:L.length<=1099511) (hk:k<=1099511627):Calls Tryz.prog 144 #[v] w0 (Us (norm L) K true (k+L.length) w0):=by
 have hv0:=hv;obtain ⟨A,n,c,s,B,m,d,rfl,-⟩:=hv;obtain ⟨z0,z1,z2,-⟩:=Az 56 58 w0 #[.slice A n c,.bool s,.slice B m d] #[.slice none 0 0,.bool false,.slice none 0 0,.bool false];have hpl:=EM _ L K k _ (hv0.below z2) hl hk;have x0:=z0.c0;have x1:=z0.c1;have x2:=z0.c2;go_enter Tryz.func144,Tryz.ntmps144;go_wp2_with fail;refine hpl.mono ?_;rintro e w1 ⟨v1,rfl,r1,b1⟩;obtain ⟨A1,n1,c1,s1,B1,m1,d1,rfl⟩:=r1.form;have k1:=z1.next b1
 go_wp2_with (with_reducible refine GC rfl _ _ rfl (w0.heap.size+1) _ _ _ _ _ _ _ _ rfl rfl _ _ _ _ k1 ?_;intro w3 k3 ho3);refine Hw rfl rfl k3 rfl ?_;exact ⟨_,rfl,⟨_,_,_,_,_,_,_,rfl,r1.onlyR k1 ho3⟩,CF (z2.next b1) (by omega) ho3⟩
def Z5 (e:Bool):Int:=if e then 1 else 0
def Zj (e:Bool) (Z:Int):Bool:=if e then decide (Z=0) else decide (0<=Z)
end
section
open Go.RowKit Go.Maps
open Tm
theorem KH (v:Value) (L:List (Int×Int)) (K:Int) (fl:Bool) (k:Nat) (w0:World) (hv:XJ w0 v L K fl k) (hle:L.length<=1099511) (hk:k<=1099511627) :
   Calls Tryz.prog 168 #[v] w0 (Us (norm L) K fl (k+L.length) w0):=by
 obtain ⟨A,n,c,s,B,m,d,rfl,ht⟩:=hv;obtain ⟨z0,z1,z2,-⟩:=Az 58 58 w0 #[.slice A n c,.bool s,.slice B m d,.bool fl] #[.slice none 0 0,.bool false,.slice none 0 0,.bool false];go_enter Tryz.func168,Tryz.ntmps168;go_upto_region 1 with fail;generalize hW:((w0.alloc (.cells #[.slice A n c,.bool s,.slice B m d,.bool fl] 58)).alloc (.cells #[.slice none 0 0,.bool false,.slice none 0 0,.bool false] 58))=W0 at *;clear hW;have HX:=Aa z0;have HR8:=Aa z1;have HT8:=Aa z2
 have HV:=Aa (ht.below z2);have SOF:=Aa (show ∀W,Below W0.heap.size W0 W->(W.cell? ⟨w0.heap.size,0,none⟩=some (.slice A n c)/\W.cell? ⟨w0.heap.size,1,none⟩=some (.bool s)/\W.cell? ⟨w0.heap.size,2,none⟩=some (.slice B m d)/\W.cell? ⟨w0.heap.size,3,none⟩=some (.bool fl)) from fun W h=>⟨(HX.out.next h).cell 0 _ rfl,(HX.out.next h).cell 1 _ rfl,(HX.out.next h).cell 2 _ rfl,(HX.out.next h).cell 3 _ rfl⟩);clear z0 z1 z2 ht
 refine CJ (by kernel_rfl) (by kernel_rfl) (by kernel_rfl) (by kernel_rfl) (fun w w'=>Below w.heap.size w w') (fun j v w=>match j with|0=>v=.pointer (some ⟨w0.heap.size,0,none⟩)|1=>v=.agg #[.slice A n c,.bool s,.slice B m d]|2=>Bm w v (norm L) K (k+L.length)|3=>v=.pointer (some ⟨w0.heap.size,3,none⟩)|4=>v=.bool fl|5=>PK w v (norm L) K fl (k+L.length)|_=>True) (fun _ _ w=>Below W0.heap.size W0 w) ?_ (fun _=>Aq W0 1) ?_ ?_
 · intro j v w w' hT h;match j,h with
   |0,h=>exact h
   |1,h=>exact h
   |2,h=>exact h.below hT
   |3,h=>exact h
   |4,h=>exact h
   |5,h=>exact h.below hT
   |j+6,h=>trivial
 · refine ⟨?_,?_,?_,?_,?_,?_,trivial⟩
   · intro listed σ w a hin hout hl hla hs hc hp hG hF;refine Ad.none rfl ?_;have e1:a.tmps.getD 1 undef=.pointer (some ⟨w0.heap.size,0,none⟩):=hout 1 (Af (by kernel_rfl));refine Does.val (.pointer (some ⟨w0.heap.size,0,none⟩)) (w':=w) ?_ ⟨Below.refl _ _,rfl,hG⟩;simp only[Array.getD_eq_getD_getElem?]at e1;go_simp
   · intro listed σ w a hin hout hl hla hs hc hp hG hF;refine Ad.none rfl ?_;have e3:a.tmps.getD 3 undef=.pointer (some ⟨w0.heap.size,0,none⟩):=(hin 0 3 rfl (hp ⟨0,.data⟩ (by simp) rfl)).trans (hF 0 (hp ⟨0,.data⟩ (by simp) rfl));have CC:=SOF.out w hG;obtain ⟨C0,C1,C2,C3⟩:=CC;refine Does.val (.agg #[.slice A n c,.bool s,.slice B m d]) (w':=w) ?_ ⟨Below.refl _ _,rfl,hG⟩;go_simp
   · intro listed σ w a hin hout hl hla hs hc hp hG hF;refine Ad.none rfl ?_;have e4:a.tmps.getD 4 undef=.agg #[.slice A n c,.bool s,.slice B m d]:=(hin 1 4 rfl (hp ⟨1,.data⟩ (by simp) rfl)).trans (hF 1 (hp ⟨1,.data⟩ (by simp) rfl));refine Does.call ?_ (EM _ L K k w (HV.out.below hG) hle hk) ?_
     · go_simp
     · rintro e w' ⟨v,rfl,z,hb⟩;exact ⟨_,rfl,hb,z,hG.next hb⟩
   · intro listed σ w a hin hout hl hla hs hc hp hG hF;refine Ad.none rfl ?_;have e1:a.tmps.getD 1 undef=.pointer (some ⟨w0.heap.size,0,none⟩):=hout 1 (Af (by kernel_rfl));refine Does.val (.pointer (some ⟨w0.heap.size,3,none⟩)) (w':=w) ?_ ⟨Below.refl _ _,rfl,hG⟩;simp only[Array.getD_eq_getD_getElem?]at e1;go_simp
   · intro listed σ w a hin hout hl hla hs hc hp hG hF;refine Ad.none rfl ?_;have e6:a.tmps.getD 6 undef=.pointer (some ⟨w0.heap.size,3,none⟩):=(hin 3 6 rfl (hp ⟨3,.data⟩ (by simp) rfl)).trans (hF 3 (hp ⟨3,.data⟩ (by simp) rfl));have CC:=SOF.out w hG;obtain ⟨C0,C1,C2,C3⟩:=CC;refine Does.val (.bool fl) (w':=w) ?_ ⟨Below.refl _ _,rfl,hG⟩;go_simp
   · intro listed σ w a hin hout hl hla hs hc hp hG hF;refine Ad.none rfl ?_;have e5:=hin 2 5 rfl (hp ⟨2,.data⟩ (by simp) rfl);have z2:=hF 2 (hp ⟨2,.data⟩ (by simp) rfl);have e7:a.tmps.getD 7 undef=.bool fl:=(hin 4 7 rfl (hp ⟨4,.data⟩ (by simp) rfl)).trans (hF 4 (hp ⟨4,.data⟩ (by simp) rfl));obtain ⟨A7,n7,c7,s7,B7,m7,d7,ev7⟩:=Bm.form z2;rw[ev7]at e5 z2
     refine Does.val (.agg #[.slice A7 n7 c7,.bool s7,.slice B7 m7 d7,.bool fl]) (w':=w) ?_ ⟨Below.refl _ _,⟨A7,n7,c7,s7,B7,m7,d7,rfl,z2⟩,hG⟩;simp only[Array.getD_eq_getD_getElem?]at e5 e7;go_simp
 · intro o ho;injection ho with ho;subst ho
   intro listed σ w a hall hin hout hG hF;refine Ad.none rfl ?_;have e2:a.tmps.getD 2 undef=.pointer (some ⟨w0.heap.size+1,0,none⟩):=hout 2 (Tj (by kernel_rfl));have e8:=hin 5 8 rfl (by decide);have z5:=hF 5 (by decide);obtain ⟨A8,n8,c8,s8,B8,m8,d8,ev8,t8⟩:=z5;rw[ev8]at e8;refine Does.store_box (T:=58) (cells:=#[.slice A8 n8 c8,.bool s8,.slice B8 m8 d8,.bool fl]) rfl e2 e8 (HR8.out.next hG) (by kernel_rfl) rfl (by simp[Value.oneCell']) (fun w2 x9 o9=>?_)
   rw[show Lz _ σ undef _=(Act.put (Act.put (Act.put (Act.put (Act.put (Act.put (Act.put _ (some 3) (σ 0)) (some 4) (σ 1)) (some 5) (σ 2)) (some 6) (σ 3)) (some 7) (σ 4)) (some 8) (σ 5)) none undef) from (Eu hall).trans rfl];simp only[Act.put,List.setIfInBounds_toArray,List.set_cons_zero,List.set_cons_succ];have HZ8:=Aa (t8.onlyR (HR8.out.next hG) o9);have HO:=Aa (CF (HT8.out.next hG) (by omega) o9)
   generalize σ 0=tt0 at *;generalize σ 1=tt1 at *;generalize σ 2=tt2 at *;generalize σ 3=tt3 at *;generalize σ 4=tt4 at *;generalize σ 5=tt5 at *;clear hF hG hall hin hout SOF t8 o9 e2 e8 ev8;go_wp2_with fail;refine Hw rfl rfl x9 rfl ?_;exact ⟨_,rfl,⟨_,_,_,_,_,_,_,rfl,HZ8.out⟩,HO.out⟩
end
end Go.Proofs.YtgohmojcopajoaaGreatDoor.Nu
namespace Go.Proofs.YtgohmojcopajoaaGreatDoor
section
open Go.RowKit
open Lx Ex
theorem ES {fn:Func} {R:Ending->World->Prop} {a:Act} {w:World} {g p:Nat} {x1 x2 x3 x4 x5 x6:Value} (hres:fn.results=#[.cell p 61]) (hp:a.tmps.getD p undef=.pointer (some ⟨g,0,none⟩))
  (hb:Ap 61 w g #[x1,x2,x3,x4,x5,x6]) (hd:a.defers=[]) (hR:R (.returned (.agg #[x1,x2,x3,x4,x5,x6])) w):bodyPost Tryz.prog fn R .ret a w:=
 bodyPost_ret (results_cell_row hres _ _ g _ #[x1,x2,x3,x4,x5,x6] _ _ hp hb Tryz.underlying61 rfl (by kernel_rfl)) hd hR
theorem PM {fn:Func} {p t:Tmp} (h:fn.results=#[.cell p 61,.tmp t]) (tmps:Array Value) (w:World) (g:Nat) (x1 x2 x3 x4 x5 x6:Value)
  (hq:tmps.getD p undef=.pointer (some ⟨g,0,none⟩)) (hg:Ap 61 w g #[x1,x2,x3,x4,x5,x6]):(results fn tmps).run Tryz.prog w=.ok (.tuple #[.agg #[x1,x2,x3,x4,x5,x6],tmps.getD t undef]) w:=by
 have hq':tmps[p]?.getD undef=.pointer (some ⟨g,0,none⟩):=by simpa using hq
 simp[results,h,hq',asAddr,run_loadVar_row w g 61 61 #[x1,x2,x3,x4,x5,x6] (0,0) _ hg Tryz.underlying61 rfl (by kernel_rfl)]
theorem BI {fn:Func} {R:Ending->World->Prop} {a:Act} {w:World} {g p t:Nat} {x1 x2 x3 x4 x5 x6 v:Value} (hres:fn.results=#[.cell p 61,.tmp t]) (hp:a.tmps.getD p undef=.pointer (some ⟨g,0,none⟩))
  (hv:a.tmps.getD t undef=v) (hb:Ap 61 w g #[x1,x2,x3,x4,x5,x6]) (hd:a.defers=[]) (hR:R (.returned (.tuple #[.agg #[x1,x2,x3,x4,x5,x6],v])) w):bodyPost Tryz.prog fn R .ret a w:=
 bodyPost_ret (by rw[PM hres _ _ g x1 x2 x3 x4 x5 x6 hp hb,hv]) hd hR
def Yp (k:Int) (w:World) (e:Ending) (w':World):Prop:=∃(A:Option Addr) (n c:Nat) (s:Bool) (B:Option Addr) (m d:Nat) (f:Bool) (C:Option Addr) (p q:Nat),e=.returned (.agg #[.int .i64 k,.slice A n c,.bool s,.slice B m d,.bool f,.slice C p q])/\Below w.heap.size w w'
def XK (k:Int) (ok:Bool) (w:World) (e:Ending) (w':World):Prop:=∃(A:Option Addr) (n c:Nat) (s:Bool) (B:Option Addr) (m d:Nat) (f:Bool) (C:Option Addr) (p q:Nat),e=.returned (.tuple #[.agg #[.int .i64 k,.slice A n c,.bool s,.slice B m d,.bool f,.slice C p q],.bool ok])/\Below w.heap.size w w'
theorem Ju (v:Value) (L:List (Int×Int)) (K:Int) (fl:Bool) (k:Nat) (w0:World) (hv:Nu.XJ w0 v L K fl k) (hle:L.length<=1099511) (hk:k<=1099511627):Calls Tryz.prog 143 #[v] w0 (Yp 2 w0):=by
 have hv0:=hv;obtain ⟨A,n,c,s,B,m,d,rfl,ht⟩:=hv;obtain ⟨x1,xf,hb,-⟩:=Az 58 61 w0 #[.slice A n c,.bool s,.slice B m d,.bool fl] #[.int .i64 0,.slice none 0 0,.bool false,.slice none 0 0,.bool false,.slice none 0 0];have HPL:=Aa (Nu.KH _ L K fl k _ (hv0.below hb) hle hk);have XF:=Aa xf;have HB:=Aa hb;have c0:=x1.cell 0 _ rfl;have c1:=x1.cell 1 _ rfl;have c2:=x1.cell 2 _ rfl;have c3:=x1.cell 3 _ rfl;clear hv0 ht x1 xf hb;go_enter Tryz.func143,Tryz.ntmps143;go_wp2_with fail
 refine HPL.out.mono ?_;rintro e w2 ⟨v2,rfl,⟨A2,n2,c2,s2,B2,m2,d2,rfl,-⟩,b2⟩;have xf2:=XF.out.next b2;have HB2:=Aa (HB.out.next b2);clear b2;go_wp2_with (with_reducible refine Ac rfl 61 _ _ rfl (w0.heap.size+1) #[.int .i64 2,.slice A2 n2 c2,.bool s2,.slice B2 m2 d2,.bool fl,.slice none 0 0] rfl rfl _ xf2 (by kernel_rfl) rfl (by simp[Value.oneCell']) ?_;intro w9 k9 o9);refine ES rfl rfl k9 rfl ?_
 exact ⟨_,_,_,_,_,_,_,_,_,_,_,rfl,HB2.out.trans (o9.below HB2.out.size (by omega))⟩
theorem Ox (b:Bool) (w0:World):Calls Tryz.prog 43 #[.bool b] w0 (Yp (if b then 0 else 1) w0):=by
 obtain ⟨xf,hb,-⟩:=Av 61 w0 #[.int .i64 0,.slice none 0 0,.bool false,.slice none 0 0,.bool false,.slice none 0 0];have HB:=Aa hb;clear hb;cases b
 ·
   go_enter Tryz.func43,Tryz.ntmps43;go_wp2_with (with_reducible refine Ac rfl 61 _ _ rfl w0.heap.size #[.int .i64 1,.slice none 0 0,.bool false,.slice none 0 0,.bool false,.slice none 0 0] rfl rfl _ xf (by kernel_rfl) rfl (by simp[Value.oneCell']) ?_;intro w9 k9 o9);refine ES rfl rfl k9 rfl ?_;exact ⟨_,_,_,_,_,_,_,_,_,_,_,rfl,HB.out.trans (o9.below HB.out.size (Nat.le_refl _))⟩
 ·
   go_enter Tryz.func43,Tryz.ntmps43;go_wp2_with (with_reducible refine Ac rfl 61 _ _ rfl w0.heap.size #[.int .i64 0,.slice none 0 0,.bool false,.slice none 0 0,.bool false,.slice none 0 0] rfl rfl _ xf (by kernel_rfl) rfl (by simp[Value.oneCell']) ?_;intro w9 k9 o9);refine ES rfl rfl k9 rfl ?_;exact ⟨_,_,_,_,_,_,_,_,_,_,_,rfl,HB.out.trans (o9.below HB.out.size (Nat.le_refl _))⟩
theorem PN (v u:Value) (L M:List (Int×Int)) (K J:Int) (w0:World) (hv:Nu.Bt w0 v L K 9000) (hu:Nu.Bt w0 u M J 9000) (hl:L.length<=64) (hm:M.length<=64):Calls Tryz.prog 110 #[.int .i64 0,v,u] w0 (Yp 2 w0):=by
 have hv0:=hv;have hu0:=hu;obtain ⟨A,n,c,s,B,m,d,rfl,-⟩:=hv;obtain ⟨A2,n2,c2,s2,B2,m2,d2,rfl,-⟩:=hu;obtain ⟨x1,x2,xf,hb,hsz⟩:=FI 56 56 61 w0 #[.slice A n c,.bool s,.slice B m d] #[.slice A2 n2 c2,.bool s2,.slice B2 m2 d2] #[.int .i64 0,.slice none 0 0,.bool false,.slice none 0 0,.bool false,.slice none 0 0];have HSB:=Aa (Nu.Of _ _ L M K J 9000 _ (hv0.below hb) (hu0.below hb) (by omega) (by omega) (by omega))
 have HLN:=Aa (show (Tm.norm (L++M.map fun p=>(p.1,-1*p.2))).length<=128 from by have:=Nu.AY (L++M.map fun p=>(p.1,-1*p.2));rw[List.length_append,List.length_map]at this;omega)
 have HLE:=Aa (show L.length<=64/\M.length<=64 from by omega);have XF:=Aa xf;have HB:=Aa hb;have c0:=x1.cell 0 _ rfl;have c1:=x1.cell 1 _ rfl;have c2:=x1.cell 2 _ rfl;have d0:=x2.cell 0 _ rfl;have d1:=x2.cell 1 _ rfl;have d2:=x2.cell 2 _ rfl;clear hv0 hu0 x1 x2 xf hb hl hm;go_enter Tryz.func110,Tryz.ntmps110;go_wp2_with fail;refine HSB.out.mono ?_;rintro e w2 ⟨v2,rfl,r2,b2⟩;have HRL:=Aa (Nu.Sp v2 _ _ _ w2 r2.in_ (by have:=HLN.out;omega) (by have:=HLE.out;omega))
 have XF2:=Aa (XF.out.next b2);have HB2:=Aa (HB.out.next b2);clear b2 r2 c0 c1 c2 d0 d1 d2;go_wp2_with fail;refine HRL.out.mono ?_;rintro e w3 ⟨v3,rfl,r3,b3⟩;have HOF:=Aa (Ju v3 _ _ _ _ w3 r3.in_ (by have h1:=HLN.out;have h2:=Nu.AY (Tm.norm (L++M.map fun p=>(p.1,-1*p.2)));omega) (by have h1:=HLN.out;have:=HLE.out;omega));have XF3:=Aa (XF2.out.next b3);have HB3:=Aa (HB2.out.next b3);clear b3 r3;go_wp2_with fail;refine HOF.out.mono ?_
 rintro e w4 ⟨A9,n9,c9,s9,B9,m9,d9,f9,C9,p9,q9,rfl,b4⟩;have xf4:=XF3.out.next b4;have HB4:=Aa (HB3.out.next b4);clear b4;go_wp2_with (with_reducible refine Ac rfl 61 _ _ rfl (w0.heap.size+1+1) #[.int .i64 2,.slice A9 n9 c9,.bool s9,.slice B9 m9 d9,.bool f9,.slice C9 p9 q9] rfl rfl _ xf4 (by kernel_rfl) rfl (by simp[Value.oneCell']) ?_;intro w9 k9 o9);refine ES rfl rfl k9 rfl ?_;exact ⟨_,_,_,_,_,_,_,_,_,_,_,rfl,HB4.out.trans (o9.below HB4.out.size (by omega))⟩
theorem PO (v u:Value) (L M:List (Int×Int)) (K J:Int) (w0:World) (hv:Nu.Bt w0 v L K 9000) (hu:Nu.Bt w0 u M J 9000) (hl:L.length<=64) (hm:M.length<=64):Calls Tryz.prog 110 #[.int .i64 3,v,u] w0 (Yp 2 w0):=by
 have hv0:=hv;have hu0:=hu;obtain ⟨A,n,c,s,B,m,d,rfl,-⟩:=hv;obtain ⟨A2,n2,c2,s2,B2,m2,d2,rfl,-⟩:=hu;obtain ⟨x1,x2,xf,hb,hsz⟩:=FI 56 56 61 w0 #[.slice A n c,.bool s,.slice B m d] #[.slice A2 n2 c2,.bool s2,.slice B2 m2 d2] #[.int .i64 0,.slice none 0 0,.bool false,.slice none 0 0,.bool false,.slice none 0 0];have HSB:=Aa (Nu.Of _ _ M L J K 9000 _ (hu0.below hb) (hv0.below hb) (by omega) (by omega) (by omega))
 have HLN:=Aa (show (Tm.norm (M++L.map fun p=>(p.1,-1*p.2))).length<=128 from by have:=Nu.AY (M++L.map fun p=>(p.1,-1*p.2));rw[List.length_append,List.length_map]at this;omega)
 have HLE:=Aa (show M.length<=64/\L.length<=64 from by omega);have XF:=Aa xf;have HB:=Aa hb;have c0:=x1.cell 0 _ rfl;have c1:=x1.cell 1 _ rfl;have c2:=x1.cell 2 _ rfl;have d0:=x2.cell 0 _ rfl;have d1:=x2.cell 1 _ rfl;have d2:=x2.cell 2 _ rfl;clear hv0 hu0 x1 x2 xf hb hl hm;go_enter Tryz.func110,Tryz.ntmps110;go_wp2_with fail;refine HSB.out.mono ?_;rintro e w2 ⟨v2,rfl,r2,b2⟩;have HRL:=Aa (Nu.PL v2 _ _ _ w2 r2.in_ (by have:=HLN.out;omega) (by have:=HLE.out;omega))
 have XF2:=Aa (XF.out.next b2);have HB2:=Aa (HB.out.next b2);clear b2 r2 c0 c1 c2 d0 d1 d2;go_wp2_with fail;refine HRL.out.mono ?_;rintro e w3 ⟨v3,rfl,r3,b3⟩;have HOF:=Aa (Ju v3 _ _ _ _ w3 r3.in_ (by have h1:=HLN.out;have h2:=Nu.AY (Tm.norm (M++L.map fun p=>(p.1,-1*p.2)));omega) (by have h1:=HLN.out;have:=HLE.out;omega));have XF3:=Aa (XF2.out.next b3);have HB3:=Aa (HB2.out.next b3);clear b3 r3;go_wp2_with fail;refine HOF.out.mono ?_
 rintro e w4 ⟨A9,n9,c9,s9,B9,m9,d9,f9,C9,p9,q9,rfl,b4⟩;have xf4:=XF3.out.next b4;have HB4:=Aa (HB3.out.next b4);clear b4;go_wp2_with (with_reducible refine Ac rfl 61 _ _ rfl (w0.heap.size+1+1) #[.int .i64 2,.slice A9 n9 c9,.bool s9,.slice B9 m9 d9,.bool f9,.slice C9 p9 q9] rfl rfl _ xf4 (by kernel_rfl) rfl (by simp[Value.oneCell']) ?_;intro w9 k9 o9);refine ES rfl rfl k9 rfl ?_;exact ⟨_,_,_,_,_,_,_,_,_,_,_,rfl,HB4.out.trans (o9.below HB4.out.size (by omega))⟩
end
end Go.Proofs.YtgohmojcopajoaaGreatDoor
