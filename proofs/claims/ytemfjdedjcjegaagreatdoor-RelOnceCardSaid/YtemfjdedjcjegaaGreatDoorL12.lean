/- Texts of one seat, put together: ArePlain SortB CloneP DelP DelQ. -/
import Derived.Test.YtemfjdedjcjegaaGreatDoorL11
set_option linter.unusedVariables false
set_option linter.unusedSimpArgs false
set_option maxRecDepth 100000
set_option maxHeartbeats 16000000
namespace Go.Proofs.YtemfjdedjcjegaaGreatDoor
section
open Go.RowKit
open Tm
def BR:Int->List (Int×Int)->Bool
 |_,[]=>true
 |b,(u,c)::ps=>decide (b<u)&&(decide (c≠0)&&BR u ps)
theorem LI (b:Int) (ps:List (Int×Int)):BR b ps=true↔Bv b ps:=by
 induction ps generalizing b with
 |nil=>simp[BR,Bv]
 |cons p ps ih=> obtain ⟨u,c⟩:=p;simp[BR,Bv,ih]
theorem DJ {α:Type} {l:List α} {i:Nat} {x:α} (h:l[i]?=some x):l.drop i=x::l.drop (i+1):=by obtain ⟨hlt,rfl⟩:=List.getElem?_eq_some_iff.1 h;exact List.drop_eq_getElem_cons hlt
theorem RN {ps:List PV} {i:Nat} {p:PV} (h:ps[i]?=some p):(Ca ps)[i]?=some (p.v,p.Z):=by unfold Ca;rw[List.getElem?_map,h];rfl
def S2 (b:Bool) (w:World) (e:Ending) (w':World):Prop:=e=.returned (.bool b)/\Below w.heap.size w w'
theorem EP.at_ {w:World} {A:Option Addr} {n k i:Nat} {L:List (Int×Int)} (h:EP w A n L k) (hi:i<n):∃(b o:Nat) (p:PV),A=some ⟨b,o,none⟩/\b<w.heap.size/\L[i]?=some (p.v,p.Z)/\w.cell? ⟨b,o+i*3,none⟩=some (.int .i64 p.v)/\w.cell? ⟨b,o+i*3+1,none⟩=some (.bool p.s)/\w.cell? ⟨b,o+i*3+2,none⟩=some (.slice p.B p.m p.d)/\BF w p.num p.Z k:=by
 obtain ⟨ps,h1,rfl⟩:=h;obtain ⟨b,o,p,e,hp,c0,c1,c2,hz⟩:=h1.at_ hi;have e0:o+3*i=o+i*3:=by omega
 have e1:o+(3*i+1)=o+i*3+1:=by omega
 have e2:o+(3*i+2)=o+i*3+2:=by omega
 rw[e0]at c0;rw[e1]at c1;rw[e2]at c2;exact ⟨b,o,p,e,World.block_lt_of_cell? w _ c0,RN hp,c0,c1,c2,hz⟩
theorem KC (A:Option Addr) (n c:Nat) (L:List (Int×Int)) (k:Nat) (w:World) (hx:EP w A n L k) (hm:n<=9223372036854775807) (hk:k<=1099511627776) :
  Calls Tryz.prog 109 #[.slice A n c] w (S2 (BR (-1) L) w):=by
 have hlen:=Ad hx.len;go_enter Tryz.func109,Tryz.ntmps109;go_wp2_with fail;go_loopw [3,8] (fun l i wr=>∃(q:Nat) (b:Int),q<=n/\i=.int .i64 q/\l=.int .i64 b/\Hid (BR (-1) L=BR b (L.drop q))/\Below w.heap.size w wr) (fun _ i _=>n-(intOf i).toNat)
 case atStart=>exact ⟨0,-1,Nat.zero_le _,rfl,rfl,Lib.hid (by rw[List.drop_zero]),Below.refl _ _⟩
 case round=>
  obtain ⟨q,b,hq,rfl,rfl,HR,hb⟩:=hrel;by_cases hqn:q<n
  · obtain ⟨bb,o,p,rfl,hlt,hL,c0,c1,c2,hz⟩:=(hx.below hb).at_ hqn;obtain ⟨v,s,B,m,d,Z⟩:=p;dsimp only at hL c0 c1 c2
    have hD:=Ad (DJ hL);clear hL;obtain ⟨z0,z1,-⟩:=AV 59 wr #[.int .i64 v,.bool s,.slice B m d];have x0:=z0.c0;have x1:=z0.c1;have x2:=z0.c2;by_cases hvb:v<=b
    · have HF:=Ad (show BR b ((v,Z)::L.drop (q+1))=false by simp[BR];omega);have hd:decide (v<=b)=true:=(by simpa using hvb);go_wp2_with fail;go_ret
      exact ⟨by rw[HR.out,hD.out,HF.out];rfl,hb.next z1⟩
    · have hd:decide (v<=b)=false:=(by simpa using hvb);have hs:=Cs _ Z k _ (hz.below z1) hk;unfold BA PV.num at hs;dsimp only at hs
      by_cases h0:Z=0
      · subst h0;rw[show Int.sign 0=0 from rfl]at hs;have HF:=Ad (show BR b ((v,0)::L.drop (q+1))=false by simp[BR]);go_wp2_with fail;refine hs.mono ?_;rintro e w1 ⟨rfl,b1⟩;go_wp2_with fail;go_ret
        exact ⟨by rw[HR.out,hD.out,HF.out];rfl,(hb.next z1).next b1⟩
      · have h1:(Z.sign==0)=false:=I3 h0;have HT:=Ad (show BR b ((v,Z)::L.drop (q+1))=BR v (L.drop (q+1)) by simp[BR,h0];omega);generalize Z.sign=sg at *;clear h0;go_wp2_with fail;refine hs.mono ?_;rintro e w1 ⟨rfl,b1⟩;have y0:=(z0.next b1).c0;go_wp2_with fail;go_roundw
        case rel=>exact ⟨q+1,v,by omega,by go_num,rfl,Lib.hid (by rw[HR.out,hD.out,HT.out]),(hb.next z1).next b1⟩
        case measure=>simp[intOf]<;>omega
  · have HT:=Ad (show BR b (L.drop q)=true by rw[List.drop_of_length_le (by have:=hlen.out;omega)];rfl);go_wp2_with fail;go_ret
    exact ⟨by rw[HR.out,HT.out];rfl,hb⟩
theorem GF (x:Int) (w:World):Calls Tryz.prog 115 #[.int .i64 x] w (fun e w'=>e=.returned (.bool false)/\w'=w):=by
 have h:(x != x)=false:=by simp
 go_enter Tryz.func115,Tryz.ntmps115;go_wp2_with fail;go_ret
 exact ⟨rfl,rfl⟩
theorem GT (x y:Int) (w:World):Calls Tryz.prog 71 #[.int .i64 x,.int .i64 y] w (fun e w'=>e=.returned (.int .i64 (AK x y))/\w'=w):=by
 rcases Int.lt_trichotomy x y with h|h|h
 · have H:=Ad (show AK x y=-1 by unfold AK;rw[if_pos h]);go_enter Tryz.func71,Tryz.ntmps71;go_wp2_with (go_at_call 115;refine (GF _ _).mono ?_;rintro e w' ⟨rfl,rfl⟩);go_ret
   exact ⟨by rw[H.out];rfl,rfl⟩
 · have H:=Ad (show AK x y=0 by unfold AK;rw[if_neg (by omega),if_neg (by omega)]);have h1:¬x<y:=(by omega);have h2:¬y<x:=(by omega);clear h;go_enter Tryz.func71,Tryz.ntmps71;go_wp2_with (go_at_call 115;refine (GF _ _).mono ?_;rintro e w' ⟨rfl,rfl⟩);go_ret
   exact ⟨by rw[H.out];rfl,rfl⟩
 · have H:=Ad (show AK x y=1 by unfold AK;rw[if_neg (by omega),if_pos h]);have h1:¬x<y:=(by omega);go_enter Tryz.func71,Tryz.ntmps71;go_wp2_with (go_at_call 115;refine (GF _ _).mono ?_;rintro e w' ⟨rfl,rfl⟩);go_ret
   exact ⟨by rw[H.out];rfl,rfl⟩
open Go.Shelf Go.Lib Go.Sort in
theorem MZ (x y:PV) (W:World):Calls Tryz.prog 112 #[x.agg,y.agg] W (fun e w'=>e=.returned (.int .i64 (AK x.v y.v))/\∃q os',w'=grow (W.drewN q) os'):=by
 obtain ⟨xv,xs,xB,xm,xd,xZ⟩:=x;obtain ⟨yv,ys,yB,ym,yd,yZ⟩:=y;obtain ⟨z0,z1,-,-⟩:=Bh 59 59 W #[.int .i64 xv,.bool xs,.slice xB xm xd] #[.int .i64 yv,.bool ys,.slice yB ym yd];have x0:=z0.c0;have y0:=z1.c0;show Calls _ _ #[.agg #[.int .i64 xv,.bool xs,.slice xB xm xd],.agg #[.int .i64 yv,.bool ys,.slice yB ym yd]] _ _;dsimp only
 go_enter Tryz.func112,Tryz.ntmps112;go_wp2_with (go_at_call 71;refine (GT _ _ _).mono ?_;rintro e w' ⟨rfl,rfl⟩);go_ret
 exact ⟨rfl,0,_,by rw[alloc_eq_grow,alloc_eq_grow,grow_grow];rfl⟩
end
section
open Go.RowKit
open Tm
instance:Inhabited PV:=⟨⟨0,false,none,0,0,0⟩⟩
theorem PV.one (p:PV):∀v∈p.cells,v.oneCell'=true:=by intro v hv;simp[PV.cells]at hv;rcases hv with rfl|rfl|rfl<;>rfl
theorem PV.nls (p:PV):EU p.cells:=by
 intro v hv;simp[PV.cells]at hv;rcases hv with rfl|rfl|rfl
 · exact NL.i64 _
 · exact NL.bool _
 · exact NL.slice _ _ _
theorem LJ {ps:List PV} {u:Value} (h:u∈flat ps):∃p∈ps,u∈p.cells:=by unfold flat at h;obtain ⟨l,hl,hu⟩:=List.mem_flatten.1 h;obtain ⟨p,hp,rfl⟩:=List.mem_map.1 hl;exact ⟨p,hp,hu⟩
theorem I6 (ps:List PV):∀u∈flat ps,u.oneCell'=true:=fun u hu=>by
 obtain ⟨p,_,h⟩:=LJ hu;exact p.one u h
theorem Gp (ps:List PV):EU (flat ps):=fun u hu=>by
 obtain ⟨p,_,h⟩:=LJ hu;exact p.nls u h
open Go.Shelf Go.Lib Go.Sort in
theorem FQ (d:Array PV):(flatK PV.cells 3 d).toList=flat d.toList:=by
 apply List.ext_getElem?;intro t;by_cases ht:t<d.size*3
 · have hq:t/3<d.size:=(by omega);have hg:d.toList[t/3]?=some d[t/3]:=(by simp[hq]);obtain ⟨g0,g1,g2⟩:=flat_get d.toList (t/3) _ hg;have h1:=get_flatK PV.cells 3 d t ht;have hs:t<(flatK PV.cells 3 d).size:=(by rw[size_flatK];exact ht);rw[getElem!_pos _ t hs,getElem!_pos d _ hq]at h1;have h2:(flatK PV.cells 3 d).toList[t]?=some ((d[t/3]).cells[t%3]!):=by
     rw[Array.getElem?_toList,Array.getElem?_eq_getElem hs,h1]
   rw[h2];clear h1 h2 hg;generalize d[t/3]=p at *;have h3:t%3=0\/t%3=1\/t%3=2:=(by omega);rcases h3 with h3|h3|h3
   · rw[show 3*(t/3)=t by omega]at g0;rw[h3,g0];simp[PV.cells]
   · rw[show 3*(t/3)+1=t by omega]at g1;rw[h3,g1];simp[PV.cells]
   · rw[show 3*(t/3)+2=t by omega]at g2;rw[h3,g2];simp[PV.cells]
 · rw[List.getElem?_eq_none (by simpa using ht),List.getElem?_eq_none (by rw[CJ];simp;omega)]
theorem FR {L:List (Int×Int)} (h:L.Pairwise fun p q=>p.1<=q.1) (b:Int) (hb:∀p∈L,b<=p.1):Iz b L:=by
 induction L generalizing b with
 |nil=>trivial
 |cons p L ih=> obtain ⟨v,c⟩:=p;rw[List.pairwise_cons]at h;exact ⟨hb (v,c) (List.mem_cons_self ..),ih h.2 v (fun q hq=>h.1 q hq)⟩
theorem OZ (L:List (Int×Int)):∃b,∀p∈L,b<=p.1:=by
 induction L with
 |nil=>exact ⟨0,fun p hp=>by cases hp⟩
 |cons p L ih=>
  obtain ⟨b,hb⟩:=ih;refine ⟨min b p.1,fun q hq=>?_⟩;rcases List.mem_cons.1 hq with rfl|hq
  · omega
  · have:=hb q hq;omega
open Go.Shelf Go.Lib Go.Sort in
theorem F5 (x y:PV):ltOf (fun a b:PV=>AK a.v b.v) x y=decide (x.v<y.v):=by
 unfold ltOf AK;by_cases h1:x.v<y.v
 · simp[h1]
 · by_cases h2:y.v<x.v
   · simp[h1,h2]
   · simp[h1,h2]
open Go.Shelf Go.Lib Go.Sort in
theorem TR:SWO (ltOf fun a b:PV=>AK a.v b.v) where
 irrefl x:=by rw[F5];simp
 trans x y z h1 h2:=by rw[F5]at *;simp at *;omega
 ntrans x y z h1 h2:=by rw[F5]at *;simp at *;omega
def QD (base g n c:Nat) (ps:List PV) (w:World) (e:Ending) (w':World):Prop:=
 e=.returned (.tuple #[])/\∃qs:List PV,qs.Perm ps/\Az 59 3 w' base (.slice (some ⟨g,0,none⟩) n c) n (flat qs)/\(∃b,Iz b (Ca qs))/\Ao g w w'
open Go.Shelf Go.Lib Go.Sort in
theorem KD (base g n c:Nat) (ps:List PV) (w:World) (h:Az 59 3 w base (.slice (some ⟨g,0,none⟩) n c) n (flat ps)) (hn:n<4611686018427387904) :
   Calls Tryz.prog 111 #[.slice (some ⟨g,0,none⟩) n c,.func (.func 112) #[] #[]] w (QD base g n c ps w):=by
 obtain ⟨hl,hv⟩:=h;rcases hv with ⟨hv,-⟩|⟨g',cap,cur,hv,hbase,hh,h1,h2,h3,h4,h5⟩
 · cases hv
 injection hv with e1 e2 e3
 injection e1 with e1
 injection e1 with e1
 subst e1 e3;have hpn:ps.length=n:=by rw[CJ]at hl;omega
 have eg:∀args w,(callFunc 112 args).run Tryz.prog w=.ok (.enter 112 args) w:=enters_of Tryz.func112 (by kernel_rfl) rfl;have hds:ps.toArray.size=n:=by simpa using hpn
 have hlt:g<w.heap.size:=(Array.getElem?_eq_some_iff.1 hh).1;have hH:HoldsK PV.cells 3 w g 0 ps.toArray:=by
   intro j hj;rw[size_flatK,hds]at hj;have hjs:j<(flatK PV.cells 3 ps.toArray).size:=(by rw[size_flatK,hds];exact hj);have e1:(flatK PV.cells 3 ps.toArray)[j]! = (flatK PV.cells 3 ps.toArray)[j]:=getElem!_pos _ j hjs;have e2:(flat ps)[j]?=some ((flatK PV.cells 3 ps.toArray)[j]):=by have:=FQ ps.toArray;rw[show ps.toArray.toList=ps from rfl]at this;rw[<-this,Array.getElem?_toList,Array.getElem?_eq_getElem hjs]
   rw[e1,Nat.zero_add];refine ⟨?_,by simp[World.frozen?,hh]⟩;rw[cell_of_row w g j _ _ _ hh];rw[<-h4,List.getElem?_take_of_lt hj]at e2;simpa using e2
 have hcmp:CmpLays Tryz.prog 112 #[] PV.cells 3 (fun a b:PV=>AK a.v b.v) g 0 ps.toArray.size w:=fun _ _ _ _ x y=>MZ x y _
 have hcon:=AnyQ.slices_SortFunc Tryz.sortPart 3 Tryz.isAgg59 Tryz.sizeOf59 PV.cells (fun _=>rfl) PV.one (fun a b:PV=>AK a.v b.v) TR 112 #[] g 0 c ps.toArray w eg hcmp hH hlt (by rw[hds];exact hn);rw[hds]at hcon;refine Calls.mono hcon ?_;rintro e w' ⟨rfl,d',m,os,hp,hs,rfl⟩;have hds':d'.size=n:=by rw[hp.1,hds]
 refine ⟨rfl,d'.toList,?_,⟨by rw[CJ];simp[hds'];omega,.inr ⟨g,c,putCells id 0 (flatK PV.cells 3 d') cur,rfl,hbase,?_,h1,h2,?_,?_,?_⟩⟩,?_,?_⟩
 · have:=hp.2.2;rw[show d'.extract 0 n=d' by rw[<-hds'];simp,show ps.toArray.extract 0 n=ps.toArray by rw[<-hds];simp]at this;exact this
 · show (grow _ os).heap[g]?=_;rw[heap_grow_old _ _ (by rw[show (putRowK PV.cells 3 (Sort.ahead w m) g 0 d').heap.size=w.heap.size from size_putRowK _ _ _ _ _ _];exact hlt)];show ((w.heap.modify g (onCells (putCells id 0 (flatK PV.cells 3 d'))))[g]?)=_;rw[Array.getElem?_modify,if_pos rfl,hh];rfl
 · simpa[putCells] using h3
 · have hcs:n*3<=cur.size:=(by rw[h3];exact Nat.mul_le_mul_right _ h1);rw[<-FQ d'];apply List.ext_getElem?;intro t;by_cases ht:t<n*3
   · have hts:t<(flatK PV.cells 3 d').size:=(by rw[size_flatK,hds'];exact ht);rw[List.getElem?_take_of_lt ht,Array.getElem?_toList,Array.getElem?_toList,Array.getElem?_eq_getElem hts];unfold putCells;rw[Array.getElem?_mapIdx,Array.getElem?_eq_getElem (by omega),Option.map_some,if_pos ⟨Nat.zero_le _,by omega⟩,Nat.sub_zero,getElem!_pos _ t hts];rfl
   · rw[List.getElem?_eq_none (by simp;omega),List.getElem?_eq_none (by simp[size_flatK,hds'];omega)]
 · intro u hu;unfold putCells at hu;rw[Array.toList_mapIdx]at hu;obtain ⟨i,hi,rfl⟩:=List.mem_mapIdx.1 hu;split
   · rename_i hr
     have hts:i-0<(flatK PV.cells 3 d').size:=(by omega);rw[getElem!_pos (flatK PV.cells 3 d') (i-0) hts];have:(flatK PV.cells 3 d')[i-0]∈flat d'.toList:=by rw[<-FQ];simp
     exact Gp _ _ this
   · exact h5 _ (List.getElem_mem hi)
 · obtain ⟨b,hb⟩:=OZ (Ca d'.toList);refine ⟨b,FR ?_ b hb⟩;unfold Ca;rw[List.pairwise_map];rw[List.pairwise_iff_getElem];intro i j hi hj hij;have h6:=hs i j (Nat.zero_le _) hij (by simp at hj;omega);rw[F5]at h6;simp at hi hj;rw[getElem!_pos d' i hi,getElem!_pos d' j hj]at h6;simp at h6;simpa[PV.part] using h6
 · refine ⟨rfl,rfl,rfl,?_,fun k hk hne=>?_⟩
   · show w.heap.size<=(grow _ os).heap.size;rw[size_grow,show (putRowK PV.cells 3 (Sort.ahead w m) g 0 d').heap.size=w.heap.size from size_putRowK _ _ _ _ _ _];omega
   · show (grow _ os).heap[k]?=_;rw[heap_grow_old _ _ (by rw[show (putRowK PV.cells 3 (Sort.ahead w m) g 0 d').heap.size=w.heap.size from size_putRowK _ _ _ _ _ _];exact hk)];show ((w.heap.modify g (onCells (putCells id 0 (flatK PV.cells 3 d'))))[k]?)=_;rw[Array.getElem?_modify,if_neg (fun e=>hne (by rw[e]))]
end
section
open Go.RowKit
open Tm
theorem DK:(Tryz.prog.info? 59).map (fun i=>(i.zero,i.size,i.bytes))=some (some (.agg #[.int .i64 0,.bool false,.slice none 0 0]),3,40):=by kernel_rfl
theorem Cd:EU (Value.agg #[.int .i64 0,.bool false,.slice none 0 0]).cells.toList:=by
 show EU [.int .i64 0,.bool false,.slice none 0 0];intro u hu;simp at hu;rcases hu with rfl|rfl|rfl
 · exact NL.i64 _
 · exact NL.bool _
 · exact NL.slice _ _ _
theorem addr_add (b o j:Nat):(⟨b,o,none⟩:Addr).add j=⟨b,o+j,none⟩:=by
 by_cases hj0:j=0
 · subst hj0;rfl
 · simp[Addr.add,hj0]
theorem AQ {w:World} {ops:Array Oper} {rest:List Oper} {o:Oper} {a:Act} {Q:Exit->Act->World->Prop} (hgd:o.guard=none) (s x:Operand)
  (ho:o.op=.call { callee:=.builtin .append,args:=#[s,x],argTypes:=#[27,27] }) (base:Nat) (v:Value) (ps:List PV) (hs:a.eval s=v) (hown:Az 59 3 w base v ps.length (flat ps))
  (b q m c:Nat) (qs:List PV) (hx:a.eval x=.slice (some ⟨b,q,none⟩) m c) (hl:qs.length=m) (hnews:∀j u,(flat qs)[j]?=some u->w.cell? ⟨b,q+j,none⟩=some u) (hn:ps.length+m<=1099511627776) (hbase:base<=w.heap.size)
  (h:∀v' w',Az 59 3 w' base v' (ps++qs).length (flat (ps++qs))->w.grownBy w' v.ownBlock->wpList Tryz.prog ops Q rest (a.put o.dst v') w'):wpList Tryz.prog ops Q (o::rest) a w:=by
 obtain ⟨i0,hi0,hz0,hz1,hz2⟩:=info_parts DK;refine Cz hgd s x 27 ho base 59 i0 _ 3 40 Tryz.underlying27 hi0 hz0 hz1 hz2 rfl (by decide) Cd v ps.length (flat ps) hs hown ⟨b,q,none⟩ m c (flat qs) hx (by rw[CJ];omega)
  (fun j u hu=>by rw[addr_add];exact hnews j u hu) (I6 qs) (Gp qs) (by unfold maxLen;omega) (by omega) hbase ?_
 intro v' w' h1 h2;refine h v' w' ?_ h2;rw[List.length_append,Fj,hl];exact h1
theorem FS {P:Program} (w:World) (t e:TypeId) (a:Addr) (n c:Nat) (h:P.underlying t=some (.slice e)):(binOp .eql t (.slice (some a) n c) (.slice none 0 0)).run P w=.ok (.bool false) w:=by simp only[binOp];simp[Op.equal,Op.maxDepth,Lib.run_equalIn_slice_nil w 9999 t e (some a) n c 0 0 h]
def Pa (n:Nat) (ps:List PV) (w:World) (e:Ending) (w':World):Prop:=∃g c,e=.returned (.slice (some ⟨g,0,none⟩) n c)/\Az 59 3 w' w.heap.size (.slice (some ⟨g,0,none⟩) n c) n (flat ps)/\Below w.heap.size w w'
theorem Jt (A:Option Addr) (n c:Nat) (ps:List PV) (k:Nat) (w:World) (hx:AC w A n ps k) (h0:0<n) (hn:n<=1099511627) :
  Calls Tryz.prog 110 #[.slice A n c] w (Pa n ps w):=by
 obtain ⟨b,o,rfl,hc⟩:=hx.2.1 h0;have hl:=hx.1;go_enter Tryz.func110,Tryz.ntmps110;have heq:=fun W=>FS (P:=Tryz.prog) W 27 59 ⟨b,o,none⟩ n c Tryz.underlying27
 have hown:Az 59 3 (w.alloc (.cells #[] 59)) w.heap.size (.slice (some ⟨w.heap.size,0,none⟩) 0 0) ([]:List PV).length (flat []):=Az.made #[] 0 (Nat.le_refl _) (by unfold maxLen;omega) rfl (fun u hu=>by simp at hu);have hnews:∀j u,(flat ps)[j]?=some u->(w.alloc (.cells #[] 59)).cell? ⟨b,o+j,none⟩=some u:=fun j u hu=>by
  have h1:=hc j u hu;have hlt:=World.block_lt_of_cell? w _ h1;exact (World.cell?_of_block (w:=w) (a:=⟨b,o+j,none⟩) ((Ae w _).block b hlt)).trans h1
 have hnn:([]:List PV).length+n<=1099511627776:=by simp;omega
 have HO:=Ad hown;have HN:=Ad hnews;clear hown hnews hc;go_wp2_with (at_builtin;refine AQ rfl _ _ rfl w.heap.size _ [] rfl HO.out b o n c ps rfl hl HN.out hnn (by simp) ?_;intro v' w' h1 h2);rw[List.nil_append,hl]at h1;have hb:=HO.out.old (Ae w _) h2 (Nat.le_refl _) (Nat.le_refl _);obtain ⟨A',c',rfl,-,-,h5⟩:=h1.len;obtain ⟨g,rfl⟩:=h5 h0;clear h2 heq;go_wp2_with fail;go_ret
 exact ⟨g,c',rfl,h1,hb⟩
end
section
open Go.RowKit
open Tm
def nz (p:PV):Bool:=decide (p.Z≠0)
def RO (ps:List PV) (w:World) (e:Ending) (w':World):Prop:=
 ∃r:Int,e=.returned (.int .i64 r)/\Below w.heap.size w w'/\((r=-1/\∀p∈ps,nz p=true)\/∃i:Nat,r=(i:Int)/\i<ps.length/\(∀p∈ps.take i,nz p=true)/\∀p,ps[i]?=some p->nz p=false)
theorem AC.at3 {w:World} {A:Option Addr} {n k i:Nat} {ps:List PV} (h:AC w A n ps k) (hi:i<n):∃(b o:Nat) (p:PV),A=some ⟨b,o,none⟩/\b<w.heap.size/\ps[i]?=some p/\w.cell? ⟨b,o+i*3,none⟩=some (.int .i64 p.v)/\w.cell? ⟨b,o+i*3+1,none⟩=some (.bool p.s)/\w.cell? ⟨b,o+i*3+2,none⟩=some (.slice p.B p.m p.d)/\BF w p.num p.Z k:=by
 obtain ⟨b,o,p,e,hp,c0,c1,c2,hz⟩:=h.at_ hi;have e0:o+3*i=o+i*3:=by omega
 have e1:o+(3*i+1)=o+i*3+1:=by omega
 have e2:o+(3*i+2)=o+i*3+2:=by omega
 rw[e0]at c0;rw[e1]at c1;rw[e2]at c2;exact ⟨b,o,p,e,World.block_lt_of_cell? w _ c0,hp,c0,c1,c2,hz⟩
theorem Ju (A:Option Addr) (n c:Nat) (ps:List PV) (k:Nat) (w:World) (hx:AC w A n ps k) (hn:n<=1099511627) (hk:k<=1099511627776) :
  Calls Tryz.prog 146 #[.slice A n c,.func (.func 114) #[] #[]] w (RO ps w):=by
 have hlen:=Ad hx.1;go_enter Tryz.func146,Tryz.ntmps146;go_wp2_with fail;go_loopw [8] (fun i wr=>∃q:Nat,q<=n/\i=.int .i64 q/\Hid (∀p∈ps.take q,nz p=true)/\Below w.heap.size w wr) (fun i _=>n-(intOf i).toNat)
 case atStart=>exact ⟨0,Nat.zero_le _,rfl,Lib.hid (fun p hp=>by simp at hp),Below.refl _ _⟩
 case round=>
  obtain ⟨q,hq,rfl,HA,hb⟩:=hrel;by_cases hqn:q<n
  · obtain ⟨bb,o,p,rfl,hlt,hp,c0,c1,c2,hz⟩:=(hx.below hb).at3 hqn;have hP:=Ad hp;clear hp;have hcon:=I5 p k wr hz hk;unfold PV.agg at hcon;by_cases h0:p.Z=0
    · have hnz:nz p=false:=(by simp[nz,h0]);have HZ:=Ad hnz;rw[show decide (p.Z=0)=true by simpa using h0]at hcon;clear h0 hnz;generalize p.v=pv at *;generalize p.s=psg at *;generalize p.B=pB at *;generalize p.m=pm at *;generalize p.d=pd at *;go_wp2_with fail;refine hcon.mono ?_;rintro e w1 ⟨rfl,b1⟩;go_wp2_with fail;go_ret
      exact ⟨_,rfl,hb.next b1,.inr ⟨q,rfl,by have:=hlen.out;omega,HA.out,fun p' hp'=>by rw[hP.out]at hp';injection hp' with hp';subst hp';exact HZ.out⟩⟩
    · have HZ:=Ad (show nz p=true by simp[nz,h0]);rw[show decide (p.Z=0)=false by simpa using h0]at hcon;clear h0;have HA2:=Ad (show ∀p'∈ps.take (q+1),nz p'=true from fun p' hp'=>by
       rw[List.take_add_one,hP.out]at hp';rcases List.mem_append.1 hp' with h|h
       · exact HA.out p' h
       · simp at h;subst h;exact HZ.out)
      clear hP HZ;generalize p.v=pv at *;generalize p.s=psg at *;generalize p.B=pB at *;generalize p.m=pm at *;generalize p.d=pd at *;go_wp2_with fail;refine hcon.mono ?_;rintro e w1 ⟨rfl,b1⟩;go_wp2_with fail;go_roundw
      case rel=>exact ⟨q+1,by omega,by go_num,HA2,hb.next b1⟩
      case measure=>simp[intOf]<;>omega
  · go_wp2_with fail;go_ret
    refine ⟨-1,rfl,hb,.inl ⟨rfl,fun p hp=>HA.out p ?_⟩⟩;rw[List.take_of_length_le (by have:=hlen.out;omega)];exact hp
theorem LK (rs:List PV) (i:Nat) (p:PV) (h:i<rs.length):(((flat rs).set (i*3) (.int .i64 p.v)).set (i*3+1) (.bool p.s)).set (i*3+2) (.slice p.B p.m p.d)=flat (rs.set i p):=by
 induction rs generalizing i with
 |nil=>simp at h
 |cons q rs ih=>
  cases i with
  |zero=>simp[CI,PV.cells]
  |succ i=> have:=ih i (by simpa using h);rw[List.set_cons_succ,CI,CI,<-this];simp[PV.cells,show (i+1)*3=i*3+1+1+1 by omega]
theorem FT {w:World} {ops:Array Oper} {rest:List Oper} {o:Oper} {a:Act} {Q:Exit->Act->World->Prop} (hgd:o.guard=none) (x:Operand)
   (ho:o.op=.call { callee:=.builtin .clear,args:=#[x],argTypes:=#[27] }) (base g n c i m d:Nat) (rs:List PV) (hl:rs.length=n) (hown:Az 59 3 w base (.slice (some ⟨g,0,none⟩) n c) n (flat rs))
   (hx:a.eval x=.slice (some ⟨g,i*3,none⟩) m d) (hm:0<m) (him:i+m=n)
   (h:∀w',Az 59 3 w' base (.slice (some ⟨g,0,none⟩) i c) i (flat (rs.take i))->Ao g w w'->wpList Tryz.prog ops Q rest (a.put o.dst (.tuple #[])) w'):wpList Tryz.prog ops Q (o::rest) a w:=by
 rcases hown.2 with ⟨hv,-⟩|⟨g',cap,cur,hv,hbase,hh,h1,h2,h3,h4,h5⟩
 · cases hv
 injection hv with e1 e2 e3
 injection e1 with e1
 injection e1 with e1
 subst e1 e3;have hzl:(Builtin.zeroCells (Value.agg #[.int .i64 0,.bool false,.slice none 0 0]).cells m).toList.length=m*3:=by simp[Builtin.zeroCells,Value.cells]
 have hzn:EU (Builtin.zeroCells (Value.agg #[.int .i64 0,.bool false,.slice none 0 0]).cells m).toList:=by
   intro u hu;have hu2:u∈(Builtin.zeroCells (Value.agg #[.int .i64 0,.bool false,.slice none 0 0]).cells m):=(by simpa using hu);unfold Builtin.zeroCells at hu2;obtain ⟨q,-,hq⟩:=Array.mem_map.1 hu2;have hlt:q%(Value.agg #[.int .i64 0,.bool false,.slice none 0 0]).cells.size<(Value.agg #[.int .i64 0,.bool false,.slice none 0 0]).cells.size:=Nat.mod_lt _ (by decide);rw[getElem!_pos (Value.agg #[.int .i64 0,.bool false,.slice none 0 0]).cells _ hlt]at hq
   exact Cd u (by rw[<-hq];simp)
 have hz1:∀u∈(Builtin.zeroCells (Value.agg #[.int .i64 0,.bool false,.slice none 0 0]).cells m).toList,u.oneCell'=true:=by
   intro u hu;have hu2:u∈(Builtin.zeroCells (Value.agg #[.int .i64 0,.bool false,.slice none 0 0]).cells m):=(by simpa using hu);unfold Builtin.zeroCells at hu2;obtain ⟨q,-,hq⟩:=Array.mem_map.1 hu2;have hlt:q%(Value.agg #[.int .i64 0,.bool false,.slice none 0 0]).cells.size<(Value.agg #[.int .i64 0,.bool false,.slice none 0 0]).cells.size:=Nat.mod_lt _ (by decide);rw[getElem!_pos (Value.agg #[.int .i64 0,.bool false,.slice none 0 0]).cells _ hlt]at hq
   have h6:u∈[Value.int .i64 0,.bool false,.slice none 0 0]:=by
    have:u∈(Value.agg #[.int .i64 0,.bool false,.slice none 0 0]).cells:=by rw[<-hq];simp
    simpa[Value.cells] using this
   simp at h6;rcases h6 with rfl|rfl|rfl<;>rfl
 have hcs:(i+m)*3<=cur.size:=by rw[h3,him];exact Nat.mul_le_mul_right _ h1
 have hst:=run_storeCells_at Tryz.prog g (i*3) 59 (Builtin.zeroCells (Value.agg #[.int .i64 0,.bool false,.slice none 0 0]).cells m).toList 0 cur w hh (by rw[hzl];omega) hz1;simp only[Nat.add_zero]at hst;obtain ⟨m',rfl⟩:∃m',m=m'+1:=⟨m-1,by omega⟩;have hv0:=Tryz.zeroValue59
 have hcl:(Builtin.clear_ #[27] o.type #[.slice (some ⟨g,i*3,none⟩) (m'+1) d]).run Tryz.prog w=.ok (.tuple #[]) (w.setRow g (cur.toList.take (i*3)++(Builtin.zeroCells (Value.agg #[.int .i64 0,.bool false,.slice none 0 0]).cells (m'+1)).toList++cur.toList.drop (i*3+(Builtin.zeroCells (Value.agg #[.int .i64 0,.bool false,.slice none 0 0]).cells (m'+1)).toList.length)).toArray):=by simp only[Builtin.clear_,run_underlying Tryz.underlying27,Sem.run_bind,Sem.run_pure,Result.andThen_ok,hv0,hst];simp[run_underlying Tryz.underlying27,hv0,hst]
 have hrun:(execOp a.eval o).run Tryz.prog w=.ok (.value (.tuple #[])) (w.setRow g (cur.toList.take (i*3)++(Builtin.zeroCells (Value.agg #[.int .i64 0,.bool false,.slice none 0 0]).cells (m'+1)).toList++cur.toList.drop (i*3+(Builtin.zeroCells (Value.agg #[.int .i64 0,.bool false,.slice none 0 0]).cells (m'+1)).toList.length)).toArray):=by unfold execOp;simp only[ho,resolve,invoke,builtin,Sem.run_bind,Sem.run_pure,Result.andThen_ok,List.map_toArray,List.map_cons,List.map_nil,hx,hcl]
 refine wpList_plain hgd fun K hK=>?_
 unfold Oper.wp;rw[hrun];refine hK _ _ (h _ ⟨by rw[CJ,List.length_take];omega,.inr ⟨g,c,_,rfl,hbase,setRow_heap w g cur _ _ _ hh,by omega,h2,?_,?_,?_⟩⟩ (CF w g _))
 · simp only[List.size_toArray,List.length_append,List.length_take,List.length_drop,Array.length_toList,hzl];omega
 · rw[OT];have e:flat rs=cur.toList.take (n*3):=h4.symm;rw[e,List.take_take,show min (3*i) (n*3)=i*3 by omega];rw[List.append_assoc,List.take_append_of_le_length (by simp;omega),List.take_take,Nat.min_self]
 · exact ((h5.take _).append hzn).append (h5.drop _)
end
section
open Go.RowKit
open Tm
theorem Az.parts {w:World} {base n c k:Nat} {A:Option Addr} {ps:List PV} (h:Az 59 3 w base (.slice A n c) n (flat ps)) (hl:ps.length=n) (hz:∀p∈ps,BF w p.num p.Z k):AC w A n ps k:=by refine ⟨hl,fun hn=>?_,hz⟩;obtain ⟨g,rfl,-,-,hc⟩:=h.cell hn;exact ⟨g,0,rfl,fun j u hu=>by rw[Nat.zero_add];exact (hc j u hu).1⟩
def RP (v:Value) (ps:List PV) (k:Nat) (w:World) (e:Ending) (w':World):Prop:=∃A n c,e=.returned (.slice A n c)/\AC w' A n (ps.filter nz) k/\n<=c/\c<=9223372036854775807/\w.grownBy w' v.ownBlock
def Es (base g n c:Nat) (ps:List PV) (w:World) (i j:Nat) (wr:World):Prop:=
 ∃rs:List PV,rs.length=n/\Az 59 3 wr base (.slice (some ⟨g,0,none⟩) n c) n (flat rs)/\rs.take i=(ps.take j).filter nz/\rs.drop j=ps.drop j/\Ao g w wr/\Kp w wr
theorem Jv {α:Type} (l:List α) (i:Nat) (x:α) (h:i<l.length):(l.set i x).take (i+1)=l.take i++[x]:=by rw[List.take_add_one,List.take_set_of_le (Nat.le_refl _)];simp[h]
theorem Es.keep {base g n c i j k:Nat} {ps:List PV} {w wr w1:World} {p:PV} (h:Es base g n c ps w i j wr) (hp:ps[j]?=some p) (hz:nz p=true) (hij:i<j) (hj:j<n) (hb:Below wr.heap.size wr w1) :
   Es base g n c ps w (i+1) (j+1) (((w1.setCell ⟨g,i*3,none⟩ (.int .i64 p.v)).setCell ⟨g,i*3+1,none⟩ (.bool p.s)).setCell ⟨g,i*3+2,none⟩ (.slice p.B p.m p.d)):=by
 obtain ⟨rs,h1,h2,h3,h4,h5,h6⟩:=h;have h7:=h2.below hb;have o3:Ao g w1 (((w1.setCell ⟨g,i*3,none⟩ (.int .i64 p.v)).setCell ⟨g,i*3+1,none⟩ (.bool p.s)).setCell ⟨g,i*3+2,none⟩ (.slice p.B p.m p.d)):=(((Ao.refl g w1).setCell _ _).setCell _ _).setCell _ _;refine ⟨rs.set i p,by simpa using h1,?_,?_,?_,?_,?_⟩
 · rw[<-LK rs i p (by omega)];exact ((h7.set (NL.i64 _)).set (NL.bool _)).set (NL.slice _ _ _)
 · rw[Jv _ _ _ (by omega),h3,List.take_add_one,hp,List.filter_append];simp[hz]
 · rw[List.drop_set_of_lt (by omega)];have:=congrArg (List.drop 1) h4;simpa[List.drop_drop,Nat.add_comm] using this
 · exact h5.trans (Ao.trans (show Ao g wr w1 from ⟨hb.os,hb.tape,hb.output,hb.size,fun k hk _=>hb.block k hk⟩) o3)
 · exact h6.trans ((Kp.of_below hb).trans (h7.kp o3))
theorem Es.drop_ {base g n c i j:Nat} {ps:List PV} {w wr w1:World} {p:PV} (h:Es base g n c ps w i j wr) (hp:ps[j]?=some p) (hz:nz p=false) (hb:Below wr.heap.size wr w1):Es base g n c ps w i (j+1) w1:=by
 obtain ⟨rs,h1,h2,h3,h4,h5,h6⟩:=h;refine ⟨rs,h1,h2.below hb,?_,?_,?_,h6.trans (Kp.of_below hb)⟩
 · rw[h3,List.take_add_one,hp,List.filter_append];simp[hz]
 · have:=congrArg (List.drop 1) h4;simpa[List.drop_drop,Nat.add_comm] using this
 · exact h5.trans ⟨hb.os,hb.tape,hb.output,hb.size,fun k hk _=>hb.block k hk⟩
theorem I7 (base n c k:Nat) (A:Option Addr) (ps:List PV) (w:World) (h:Az 59 3 w base (.slice A n c) n (flat ps)) (hz:∀p∈ps,BF w p.num p.Z k) (hn:n<=1099511627) (hk:k<=1099511627776) :
   Calls Tryz.prog 113 #[.slice A n c,.func (.func 114) #[] #[]] w (RP (.slice A n c) ps k w):=by
 have hl:ps.length=n:=by have:=h.1;rw[CJ]at this;omega
 have hi:=Ju A n c ps k w (h.parts hl hz) hn hk;obtain ⟨A',c',hv,hc1,hc2,hg⟩:=h.len;injection hv with e1 e2 e3
 subst e1 e3;go_enter Tryz.func113,Tryz.ntmps113;go_wp2_with fail;refine hi.mono ?_;rintro e w1 ⟨r,rfl,b1,⟨rfl,hall⟩|⟨i0,rfl,hi0,htake,hat⟩⟩
 · have HP:=Ad (show ps.filter nz=ps from List.filter_eq_self.2 hall);have HL:=Ad ((h.below b1).parts hl (fun p hp=>(hz p hp).below b1));clear hall h hz hi;go_wp2_with fail;go_ret
   exact ⟨A,n,c,rfl,by rw[HP.out];exact HL.out,hc1,hc2,⟨b1.os,b1.tape,b1.output,b1.size,fun k hk _=>b1.block k hk⟩⟩
 · obtain ⟨g,rfl⟩:=hg (by omega);have hne:((i0:Int)==-1)=false:=(by simp);have HZ:=Ad hz;have hi0n:i0<n:=(by omega);have HS:=Ad (show Es base g n c ps w i0 (i0+1) w1 from ⟨ps,hl,h.below b1,by
    obtain ⟨p,hp⟩:∃p,ps[i0]?=some p:=⟨_,List.getElem?_eq_getElem hi0⟩;rw[List.take_add_one,hp,List.filter_append,List.filter_eq_self.2 htake];simp[hat p hp],rfl,⟨b1.os,b1.tape,b1.output,b1.size,fun k hk _=>b1.block k hk⟩,Kp.of_below b1⟩)
   clear htake hat h hz hi;have hlen:=Ad hl;clear hl hi0;go_wp2_with fail;go_loopw [5,6] (fun x y wr=>∃i j:Nat,i<j/\j<=n/\x=.int .i64 i/\y=.int .i64 j/\Hid (Es base g n c ps w i j wr)) (fun _ y _=>n-(intOf y).toNat)
   case atStart=>exact ⟨i0,i0+1,by omega,by omega,rfl,by go_num,HS⟩
   case round=>
    obtain ⟨i,j,hij,hjn,rfl,rfl,HR⟩:=hrel;by_cases hj:j<n
    · obtain ⟨p,hp⟩:∃p,ps[j]?=some p:=⟨_,List.getElem?_eq_getElem (by have:=hlen.out;omega)⟩;have hcells:wr.cell? ⟨g,j*3,none⟩=some (.int .i64 p.v)/\wr.cell? ⟨g,j*3+1,none⟩=some (.bool p.s)/\wr.cell? ⟨g,j*3+2,none⟩=some (.slice p.B p.m p.d)/\g<wr.heap.size:=by
        obtain ⟨rs,h1,h2,h3,h4,h5,h6⟩:=HR.out;have hr:rs[j]?=some p:=by have:=congrArg (fun l=>l[0]?) h4;simpa[List.getElem?_drop,hp] using this
        obtain ⟨g',e',-,hlt,hc⟩:=h2.cell (by omega);injection e' with e'
        injection e' with e'
        subst e';obtain ⟨g0,g1,g2⟩:=flat_get rs j p hr;rw[show 3*j=j*3 by omega]at g0 g1 g2;exact ⟨(hc _ _ g0).1,(hc _ _ g1).1,(hc _ _ g2).1,hlt⟩
      obtain ⟨c0,c1,c2,hgl⟩:=hcells;have hzp:BF wr p.num p.Z k:=(HZ.out p (List.mem_of_getElem? hp)).kp (by obtain ⟨_,_,_,_,_,_,h6⟩:=HR.out;exact h6);obtain ⟨z0,z1,-⟩:=AV 59 wr #[.int .i64 p.v,.bool p.s,.slice p.B p.m p.d];have hcon:=I5 p k _ (hzp.below z1) hk;unfold PV.agg at hcon;have x0:=z0.c0;have x1:=z0.c1;have x2:=z0.c2;by_cases h0:p.Z=0
      · have HD:=Ad (show ∀w2,Below wr.heap.size wr w2->Es base g n c ps w i (j+1) w2 from fun w2 hb=>HR.out.drop_ hp (by simp[nz,h0]) hb);rw[show decide (p.Z=0)=true by simpa using h0]at hcon;clear h0 hp hzp;generalize p.v=pv at *;generalize p.s=psg at *;generalize p.B=pB at *;generalize p.m=pm at *;generalize p.d=pd at *;go_wp2_with fail;refine hcon.mono ?_;rintro e w2 ⟨rfl,b2⟩;go_wp2_with fail;go_roundw
        case rel=>exact ⟨i,j+1,by omega,by omega,rfl,by go_num,Lib.hid (HD.out _ (z1.next b2))⟩
        case measure=>simp[intOf]<;>omega
      · have HD:=Ad (show ∀w2,Below wr.heap.size wr w2->Es base g n c ps w (i+1) (j+1) (((w2.setCell ⟨g,i*3,none⟩ (.int .i64 p.v)).setCell ⟨g,i*3+1,none⟩ (.bool p.s)).setCell ⟨g,i*3+2,none⟩ (.slice p.B p.m p.d)) from fun w2 hb=>HR.out.keep hp (by simp[nz,h0]) hij hj hb (k:=k));rw[show decide (p.Z=0)=false by simpa using h0]at hcon
        have hcd:∀w2,Below wr.heap.size wr w2->(∃u0 u1 u2,w2.cell? ⟨g,i*3,none⟩=some u0/\w2.cell? ⟨g,i*3+1,none⟩=some u1/\w2.cell? ⟨g,i*3+2,none⟩=some u2)/\w2.frozen? ⟨g,i*3,none⟩=false/\w2.frozen? ⟨g,i*3+1,none⟩=false/\w2.frozen? ⟨g,i*3+2,none⟩=false:=by
         intro w2 hb;obtain ⟨rs,h1,h2,h3,h4,h5,h6⟩:=HR.out;obtain ⟨q,hq⟩:∃q,rs[i]?=some q:=⟨_,List.getElem?_eq_getElem (by omega)⟩;obtain ⟨g',e',-,hlt,hc⟩:=(h2.below hb).cell (by omega);injection e' with e'
         injection e' with e'
         subst e';obtain ⟨g0,g1,g2⟩:=flat_get rs i q hq;rw[show 3*i=i*3 by omega]at g0 g1 g2;exact ⟨⟨_,_,_,(hc _ _ g0).1,(hc _ _ g1).1,(hc _ _ g2).1⟩,(hc _ _ g0).2,(hc _ _ g1).2,(hc _ _ g2).2⟩
        have HC:=Ad hcd;clear h0 hp hzp hcd;generalize p.v=pv at *;generalize p.s=psg at *;generalize p.B=pB at *;generalize p.m=pm at *;generalize p.d=pd at *;go_wp2_with fail;refine hcon.mono ?_;rintro e w2 ⟨rfl,b2⟩;have tb:=z1.next b2;obtain ⟨⟨u0,u1,u2,d0,d1,d2⟩,f0,f1,f2⟩:=HC.out _ tb;have y0:=(z0.next b2).c0;have y1:=(z0.next b2).c1;have y2:=(z0.next b2).c2;have HT:=Ad tb;clear tb z0 z1 x0 x1 x2 c0 c1 c2;go_wp2_with fail;go_roundw
        case rel=>exact ⟨i+1,j+1,by omega,by omega,by go_num,by go_num,Lib.hid (HD.out _ HT.out)⟩
        case measure=>simp[intOf]<;>omega
    · obtain rfl:j=n:=(by omega);have hR:=HR.out;obtain ⟨rs,h1,h2,h3,h4,h5,h6⟩:=hR;have H3:=Ad h3;have H5:=Ad h5;have H6:=Ad h6;clear h3 h4 h5 h6 HR;go_wp2_with (with_reducible refine FT rfl _ rfl base g j c i (j-i) (c-i) rs h1 h2 rfl (by omega) (by omega) ?_;intro w3 h8 ho8);go_ret
      have e3:rs.take i=ps.filter nz:=(by rw[H3.out,List.take_of_length_le (by have:=hlen.out;omega)]);rw[e3]at h8;refine ⟨_,i,c,rfl,h8.parts ?_ (fun p hp=>((HZ.out p (List.mem_filter.1 hp).1).kp H6.out).kp (h2.kp ho8)),by omega,hc2,H5.out.trans ho8⟩;rw[<-e3,List.length_take];omega
end
end Go.Proofs.YtemfjdedjcjegaaGreatDoor
