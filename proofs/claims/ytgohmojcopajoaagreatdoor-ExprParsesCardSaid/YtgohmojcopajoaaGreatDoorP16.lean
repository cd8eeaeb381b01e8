/- Texts of one seat, put together: DelP DelQ. -/
import Derived.Test.YtgohmojcopajoaaGreatDoorP15
set_option linter.unusedVariables false
set_option linter.unusedSimpArgs false
set_option maxRecDepth 100000
set_option maxHeartbeats 16000000
namespace Go.Proofs.YtgohmojcopajoaaGreatDoor.Nu
section
open Go.RowKit
open Tm
def nz (p:PV):Bool:=decide (p.Z≠0)
def TC (ps:List PV) (w:World) (e:Ending) (w':World):Prop:=
 ∃r:Int,e=.returned (.int .i64 r)/\Below w.heap.size w w'/\((r=-1/\∀p∈ps,nz p=true)\/∃i:Nat,r=(i:Int)/\i<ps.length/\(∀p∈ps.take i,nz p=true)/\∀p,ps[i]?=some p->nz p=false)
theorem Ba.at3 {w:World} {A:Option Addr} {n k i:Nat} {ps:List PV} (h:Ba w A n ps k) (hi:i<n):∃(b o:Nat) (p:PV),A=some ⟨b,o,none⟩/\b<w.heap.size/\ps[i]?=some p/\w.cell? ⟨b,o+i*3,none⟩=some (.int .i64 p.v)/\w.cell? ⟨b,o+i*3+1,none⟩=some (.bool p.s)/\w.cell? ⟨b,o+i*3+2,none⟩=some (.slice p.B p.m p.d)/\EP w p.num p.Z k:=by
 obtain ⟨b,o,p,e,hp,c0,c1,c2,hz⟩:=h.at_ hi;have e0:o+3*i=o+i*3:=by omega
 have e1:o+(3*i+1)=o+i*3+1:=by omega
 have e2:o+(3*i+2)=o+i*3+2:=by omega
 rw[e0]at c0;rw[e1]at c1;rw[e2]at c2;exact ⟨b,o,p,e,World.block_lt_of_cell? w _ c0,hp,c0,c1,c2,hz⟩
theorem JZ (A:Option Addr) (n c:Nat) (ps:List PV) (k:Nat) (w:World) (hx:Ba w A n ps k) (hn:n<=1099511627) (hk:k<=1099511627776) :
  Calls Tryz.prog 191 #[.slice A n c,.func (.func 179) #[] #[]] w (TC ps w):=by
 have hlen:=Aa hx.1;go_enter Tryz.func191,Tryz.ntmps191;go_wp2_with fail;go_loopw [8] (fun i wr=>∃q:Nat,q<=n/\i=.int .i64 q/\Hid (∀p∈ps.take q,nz p=true)/\Below w.heap.size w wr) (fun i _=>n-(intOf i).toNat)
 case atStart=>exact ⟨0,Nat.zero_le _,rfl,Lib.hid (fun p hp=>by simp at hp),Below.refl _ _⟩
 case round=>
  obtain ⟨q,hq,rfl,HA,hb⟩:=hrel;by_cases hqn:q<n
  · obtain ⟨bb,o,p,rfl,hlt,hp,c0,c1,c2,hz⟩:=(hx.below hb).at3 hqn;have hP:=Aa hp;clear hp;have hcon:=Jz p k wr hz hk;unfold PV.agg at hcon;by_cases h0:p.Z=0
    · have hnz:nz p=false:=(by simp[nz,h0]);have HZ:=Aa hnz;rw[show decide (p.Z=0)=true by simpa using h0]at hcon;clear h0 hnz;generalize p.v=pv at *;generalize p.s=psg at *;generalize p.B=pB at *;generalize p.m=pm at *;generalize p.d=pd at *;go_wp2_with fail;refine hcon.mono ?_;rintro e w1 ⟨rfl,b1⟩;go_wp2_with fail;go_ret
      exact ⟨_,rfl,hb.next b1,.inr ⟨q,rfl,by have:=hlen.out;omega,HA.out,fun p' hp'=>by rw[hP.out]at hp';injection hp' with hp';subst hp';exact HZ.out⟩⟩
    · have HZ:=Aa (show nz p=true by simp[nz,h0]);rw[show decide (p.Z=0)=false by simpa using h0]at hcon;clear h0;have HA2:=Aa (show ∀p'∈ps.take (q+1),nz p'=true from fun p' hp'=>by
       rw[List.take_add_one,hP.out]at hp';rcases List.mem_append.1 hp' with h|h
       · exact HA.out p' h
       · simp at h;subst h;exact HZ.out)
      clear hP HZ;generalize p.v=pv at *;generalize p.s=psg at *;generalize p.B=pB at *;generalize p.m=pm at *;generalize p.d=pd at *;go_wp2_with fail;refine hcon.mono ?_;rintro e w1 ⟨rfl,b1⟩;go_wp2_with fail;go_roundw
      case rel=>exact ⟨q+1,by omega,by go_num,HA2,hb.next b1⟩
      case measure=>simp[intOf]<;>omega
  · go_wp2_with fail;go_ret
    refine ⟨-1,rfl,hb,.inl ⟨rfl,fun p hp=>HA.out p ?_⟩⟩;rw[List.take_of_length_le (by have:=hlen.out;omega)];exact hp
theorem MO (rs:List PV) (i:Nat) (p:PV) (h:i<rs.length):(((flat rs).set (i*3) (.int .i64 p.v)).set (i*3+1) (.bool p.s)).set (i*3+2) (.slice p.B p.m p.d)=flat (rs.set i p):=by
 induction rs generalizing i with
 |nil=>simp at h
 |cons q rs ih=>
  cases i with
  |zero=>simp[DI,PV.cells]
  |succ i=> have:=ih i (by simpa using h);rw[List.set_cons_succ,DI,DI,<-this];simp[PV.cells,show (i+1)*3=i*3+1+1+1 by omega]
theorem GW {w:World} {ops:Array Oper} {rest:List Oper} {o:Oper} {a:Act} {Q:Exit->Act->World->Prop} (hgd:o.guard=none) (x:Operand)
   (ho:o.op=.call { callee:=.builtin .clear,args:=#[x],argTypes:=#[50] }) (base g n c i m d:Nat) (rs:List PV) (hl:rs.length=n) (hown:Am 157 3 w base (.slice (some ⟨g,0,none⟩) n c) n (flat rs))
   (hx:a.eval x=.slice (some ⟨g,i*3,none⟩) m d) (hm:0<m) (him:i+m=n)
   (h:∀w',Am 157 3 w' base (.slice (some ⟨g,0,none⟩) i c) i (flat (rs.take i))->An g w w'->wpList Tryz.prog ops Q rest (a.put o.dst (.tuple #[])) w'):wpList Tryz.prog ops Q (o::rest) a w:=by
 rcases hown.2 with ⟨hv,-⟩|⟨g',cap,cur,hv,hbase,hh,h1,h2,h3,h4,h5⟩
 · cases hv
 injection hv with e1 e2 e3
 injection e1 with e1
 injection e1 with e1
 subst e1 e3;have hzl:(Builtin.zeroCells (Value.agg #[.int .i64 0,.bool false,.slice none 0 0]).cells m).toList.length=m*3:=by simp[Builtin.zeroCells,Value.cells]
 have hzn:CQ (Builtin.zeroCells (Value.agg #[.int .i64 0,.bool false,.slice none 0 0]).cells m).toList:=by
   intro u hu;have hu2:u∈(Builtin.zeroCells (Value.agg #[.int .i64 0,.bool false,.slice none 0 0]).cells m):=(by simpa using hu);unfold Builtin.zeroCells at hu2;obtain ⟨q,-,hq⟩:=Array.mem_map.1 hu2;have hlt:q%(Value.agg #[.int .i64 0,.bool false,.slice none 0 0]).cells.size<(Value.agg #[.int .i64 0,.bool false,.slice none 0 0]).cells.size:=Nat.mod_lt _ (by decide);rw[getElem!_pos (Value.agg #[.int .i64 0,.bool false,.slice none 0 0]).cells _ hlt]at hq
   exact CV u (by rw[<-hq];simp)
 have hz1:∀u∈(Builtin.zeroCells (Value.agg #[.int .i64 0,.bool false,.slice none 0 0]).cells m).toList,u.oneCell'=true:=by
   intro u hu;have hu2:u∈(Builtin.zeroCells (Value.agg #[.int .i64 0,.bool false,.slice none 0 0]).cells m):=(by simpa using hu);unfold Builtin.zeroCells at hu2;obtain ⟨q,-,hq⟩:=Array.mem_map.1 hu2;have hlt:q%(Value.agg #[.int .i64 0,.bool false,.slice none 0 0]).cells.size<(Value.agg #[.int .i64 0,.bool false,.slice none 0 0]).cells.size:=Nat.mod_lt _ (by decide);rw[getElem!_pos (Value.agg #[.int .i64 0,.bool false,.slice none 0 0]).cells _ hlt]at hq
   have h6:u∈[Value.int .i64 0,.bool false,.slice none 0 0]:=by
    have:u∈(Value.agg #[.int .i64 0,.bool false,.slice none 0 0]).cells:=by rw[<-hq];simp
    simpa[Value.cells] using this
   simp at h6;rcases h6 with rfl|rfl|rfl<;>rfl
 have hcs:(i+m)*3<=cur.size:=by rw[h3,him];exact Nat.mul_le_mul_right _ h1
 have hst:=run_storeCells_at Tryz.prog g (i*3) 157 (Builtin.zeroCells (Value.agg #[.int .i64 0,.bool false,.slice none 0 0]).cells m).toList 0 cur w hh (by rw[hzl];omega) hz1;simp only[Nat.add_zero]at hst;obtain ⟨m',rfl⟩:∃m',m=m'+1:=⟨m-1,by omega⟩;have hv0:=Tryz.zeroValue157
 have hcl:(Builtin.clear_ #[50] o.type #[.slice (some ⟨g,i*3,none⟩) (m'+1) d]).run Tryz.prog w=.ok (.tuple #[]) (w.setRow g (cur.toList.take (i*3)++(Builtin.zeroCells (Value.agg #[.int .i64 0,.bool false,.slice none 0 0]).cells (m'+1)).toList++cur.toList.drop (i*3+(Builtin.zeroCells (Value.agg #[.int .i64 0,.bool false,.slice none 0 0]).cells (m'+1)).toList.length)).toArray):=by simp only[Builtin.clear_,run_underlying Tryz.underlying50,Sem.run_bind,Sem.run_pure,Result.andThen_ok,hv0,hst];simp[run_underlying Tryz.underlying50,hv0,hst]
 have hrun:(execOp a.eval o).run Tryz.prog w=.ok (.value (.tuple #[])) (w.setRow g (cur.toList.take (i*3)++(Builtin.zeroCells (Value.agg #[.int .i64 0,.bool false,.slice none 0 0]).cells (m'+1)).toList++cur.toList.drop (i*3+(Builtin.zeroCells (Value.agg #[.int .i64 0,.bool false,.slice none 0 0]).cells (m'+1)).toList.length)).toArray):=by unfold execOp;simp only[ho,resolve,invoke,builtin,Sem.run_bind,Sem.run_pure,Result.andThen_ok,List.map_toArray,List.map_cons,List.map_nil,hx,hcl]
 refine wpList_plain hgd fun K hK=>?_
 unfold Oper.wp;rw[hrun];refine hK _ _ (h _ ⟨by rw[Dg,List.length_take];omega,.inr ⟨g,c,_,rfl,hbase,setRow_heap w g cur _ _ _ hh,by omega,h2,?_,?_,?_⟩⟩ (DT w g _))
 · simp only[List.size_toArray,List.length_append,List.length_take,List.length_drop,Array.length_toList,hzl];omega
 · rw[PX];have e:flat rs=cur.toList.take (n*3):=h4.symm;rw[e,List.take_take,show min (3*i) (n*3)=i*3 by omega];rw[List.append_assoc,List.take_append_of_le_length (by simp;omega),List.take_take,Nat.min_self]
 · exact ((h5.take _).append hzn).append (h5.drop _)
end
section
open Go.RowKit
open Tm
theorem Am.parts {w:World} {base n c k:Nat} {A:Option Addr} {ps:List PV} (h:Am 157 3 w base (.slice A n c) n (flat ps)) (hl:ps.length=n) (hz:∀p∈ps,EP w p.num p.Z k):Ba w A n ps k:=by refine ⟨hl,fun hn=>?_,hz⟩;obtain ⟨g,rfl,-,-,hc⟩:=h.cell hn;exact ⟨g,0,rfl,fun j u hu=>by rw[Nat.zero_add];exact (hc j u hu).1⟩
def TD (v:Value) (ps:List PV) (k:Nat) (w:World) (e:Ending) (w':World):Prop:=∃A n c,e=.returned (.slice A n c)/\Ba w' A n (ps.filter nz) k/\n<=c/\c<=9223372036854775807/\w.grownBy w' v.ownBlock
def Fb (base g n c:Nat) (ps:List PV) (w:World) (i j:Nat) (wr:World):Prop:=
 ∃rs:List PV,rs.length=n/\Am 157 3 wr base (.slice (some ⟨g,0,none⟩) n c) n (flat rs)/\rs.take i=(ps.take j).filter nz/\rs.drop j=ps.drop j/\An g w wr/\Kp w wr
theorem Ka {α:Type} (l:List α) (i:Nat) (x:α) (h:i<l.length):(l.set i x).take (i+1)=l.take i++[x]:=by rw[List.take_add_one,List.take_set_of_le (Nat.le_refl _)];simp[h]
theorem Fb.keep {base g n c i j k:Nat} {ps:List PV} {w wr w1:World} {p:PV} (h:Fb base g n c ps w i j wr) (hp:ps[j]?=some p) (hz:nz p=true) (hij:i<j) (hj:j<n) (hb:Below wr.heap.size wr w1) :
   Fb base g n c ps w (i+1) (j+1) (((w1.setCell ⟨g,i*3,none⟩ (.int .i64 p.v)).setCell ⟨g,i*3+1,none⟩ (.bool p.s)).setCell ⟨g,i*3+2,none⟩ (.slice p.B p.m p.d)):=by
 obtain ⟨rs,h1,h2,h3,h4,h5,h6⟩:=h;have h7:=h2.below hb;have o3:An g w1 (((w1.setCell ⟨g,i*3,none⟩ (.int .i64 p.v)).setCell ⟨g,i*3+1,none⟩ (.bool p.s)).setCell ⟨g,i*3+2,none⟩ (.slice p.B p.m p.d)):=(((An.refl g w1).setCell _ _).setCell _ _).setCell _ _;refine ⟨rs.set i p,by simpa using h1,?_,?_,?_,?_,?_⟩
 · rw[<-MO rs i p (by omega)];exact ((h7.set (NL.i64 _)).set (NL.bool _)).set (NL.slice _ _ _)
 · rw[Ka _ _ _ (by omega),h3,List.take_add_one,hp,List.filter_append];simp[hz]
 · rw[List.drop_set_of_lt (by omega)];have:=congrArg (List.drop 1) h4;simpa[List.drop_drop,Nat.add_comm] using this
 · exact h5.trans (An.trans (show An g wr w1 from ⟨hb.os,hb.tape,hb.output,hb.size,fun k hk _=>hb.block k hk⟩) o3)
 · exact h6.trans ((Kp.of_below hb).trans (h7.kp o3))
theorem Fb.drop_ {base g n c i j:Nat} {ps:List PV} {w wr w1:World} {p:PV} (h:Fb base g n c ps w i j wr) (hp:ps[j]?=some p) (hz:nz p=false) (hb:Below wr.heap.size wr w1):Fb base g n c ps w i (j+1) w1:=by
 obtain ⟨rs,h1,h2,h3,h4,h5,h6⟩:=h;refine ⟨rs,h1,h2.below hb,?_,?_,?_,h6.trans (Kp.of_below hb)⟩
 · rw[h3,List.take_add_one,hp,List.filter_append];simp[hz]
 · have:=congrArg (List.drop 1) h4;simpa[List.drop_drop,Nat.add_comm] using this
 · exact h5.trans ⟨hb.os,hb.tape,hb.output,hb.size,fun k hk _=>hb.block k hk⟩
theorem J2 (base n c k:Nat) (A:Option Addr) (ps:List PV) (w:World) (h:Am 157 3 w base (.slice A n c) n (flat ps)) (hz:∀p∈ps,EP w p.num p.Z k) (hn:n<=1099511627) (hk:k<=1099511627776) :
   Calls Tryz.prog 178 #[.slice A n c,.func (.func 179) #[] #[]] w (TD (.slice A n c) ps k w):=by
 have hl:ps.length=n:=by have:=h.1;rw[Dg]at this;omega
 have hi:=JZ A n c ps k w (h.parts hl hz) hn hk;obtain ⟨A',c',hv,hc1,hc2,hg⟩:=h.len;injection hv with e1 e2 e3
 subst e1 e3;go_enter Tryz.func178,Tryz.ntmps178;go_wp2_with fail;refine hi.mono ?_;rintro e w1 ⟨r,rfl,b1,⟨rfl,hall⟩|⟨i0,rfl,hi0,htake,hat⟩⟩
 · have HP:=Aa (show ps.filter nz=ps from List.filter_eq_self.2 hall);have HL:=Aa ((h.below b1).parts hl (fun p hp=>(hz p hp).below b1));clear hall h hz hi;go_wp2_with fail;go_ret
   exact ⟨A,n,c,rfl,by rw[HP.out];exact HL.out,hc1,hc2,⟨b1.os,b1.tape,b1.output,b1.size,fun k hk _=>b1.block k hk⟩⟩
 · obtain ⟨g,rfl⟩:=hg (by omega);have hne:((i0:Int)==-1)=false:=(by simp);have HZ:=Aa hz;have hi0n:i0<n:=(by omega);have HS:=Aa (show Fb base g n c ps w i0 (i0+1) w1 from ⟨ps,hl,h.below b1,by
    obtain ⟨p,hp⟩:∃p,ps[i0]?=some p:=⟨_,List.getElem?_eq_getElem hi0⟩;rw[List.take_add_one,hp,List.filter_append,List.filter_eq_self.2 htake];simp[hat p hp],rfl,⟨b1.os,b1.tape,b1.output,b1.size,fun k hk _=>b1.block k hk⟩,Kp.of_below b1⟩)
   clear htake hat h hz hi;have hlen:=Aa hl;clear hl hi0;go_wp2_with fail;go_loopw [5,6] (fun x y wr=>∃i j:Nat,i<j/\j<=n/\x=.int .i64 i/\y=.int .i64 j/\Hid (Fb base g n c ps w i j wr)) (fun _ y _=>n-(intOf y).toNat)
   case atStart=>exact ⟨i0,i0+1,by omega,by omega,rfl,by go_num,HS⟩
   case round=>
    obtain ⟨i,j,hij,hjn,rfl,rfl,HR⟩:=hrel;by_cases hj:j<n
    · obtain ⟨p,hp⟩:∃p,ps[j]?=some p:=⟨_,List.getElem?_eq_getElem (by have:=hlen.out;omega)⟩;have hcells:wr.cell? ⟨g,j*3,none⟩=some (.int .i64 p.v)/\wr.cell? ⟨g,j*3+1,none⟩=some (.bool p.s)/\wr.cell? ⟨g,j*3+2,none⟩=some (.slice p.B p.m p.d)/\g<wr.heap.size:=by
        obtain ⟨rs,h1,h2,h3,h4,h5,h6⟩:=HR.out;have hr:rs[j]?=some p:=by have:=congrArg (fun l=>l[0]?) h4;simpa[List.getElem?_drop,hp] using this
        obtain ⟨g',e',-,hlt,hc⟩:=h2.cell (by omega);injection e' with e'
        injection e' with e'
        subst e';obtain ⟨g0,g1,g2⟩:=flat_get rs j p hr;rw[show 3*j=j*3 by omega]at g0 g1 g2;exact ⟨(hc _ _ g0).1,(hc _ _ g1).1,(hc _ _ g2).1,hlt⟩
      obtain ⟨c0,c1,c2,hgl⟩:=hcells;have hzp:EP wr p.num p.Z k:=(HZ.out p (List.mem_of_getElem? hp)).kp (by obtain ⟨_,_,_,_,_,_,h6⟩:=HR.out;exact h6);obtain ⟨z0,z1,-⟩:=Ax 157 wr #[.int .i64 p.v,.bool p.s,.slice p.B p.m p.d];have hcon:=Jz p k _ (hzp.below z1) hk;unfold PV.agg at hcon;have x0:=z0.c0;have x1:=z0.c1;have x2:=z0.c2;by_cases h0:p.Z=0
      · have HD:=Aa (show ∀w2,Below wr.heap.size wr w2->Fb base g n c ps w i (j+1) w2 from fun w2 hb=>HR.out.drop_ hp (by simp[nz,h0]) hb);rw[show decide (p.Z=0)=true by simpa using h0]at hcon;clear h0 hp hzp;generalize p.v=pv at *;generalize p.s=psg at *;generalize p.B=pB at *;generalize p.m=pm at *;generalize p.d=pd at *;go_wp2_with fail;refine hcon.mono ?_;rintro e w2 ⟨rfl,b2⟩;go_wp2_with fail;go_roundw
        case rel=>exact ⟨i,j+1,by omega,by omega,rfl,by go_num,Lib.hid (HD.out _ (z1.next b2))⟩
        case measure=>simp[intOf]<;>omega
      · have HD:=Aa (show ∀w2,Below wr.heap.size wr w2->Fb base g n c ps w (i+1) (j+1) (((w2.setCell ⟨g,i*3,none⟩ (.int .i64 p.v)).setCell ⟨g,i*3+1,none⟩ (.bool p.s)).setCell ⟨g,i*3+2,none⟩ (.slice p.B p.m p.d)) from fun w2 hb=>HR.out.keep hp (by simp[nz,h0]) hij hj hb (k:=k));rw[show decide (p.Z=0)=false by simpa using h0]at hcon
        have hcd:∀w2,Below wr.heap.size wr w2->(∃u0 u1 u2,w2.cell? ⟨g,i*3,none⟩=some u0/\w2.cell? ⟨g,i*3+1,none⟩=some u1/\w2.cell? ⟨g,i*3+2,none⟩=some u2)/\w2.frozen? ⟨g,i*3,none⟩=false/\w2.frozen? ⟨g,i*3+1,none⟩=false/\w2.frozen? ⟨g,i*3+2,none⟩=false:=by
         intro w2 hb;obtain ⟨rs,h1,h2,h3,h4,h5,h6⟩:=HR.out;obtain ⟨q,hq⟩:∃q,rs[i]?=some q:=⟨_,List.getElem?_eq_getElem (by omega)⟩;obtain ⟨g',e',-,hlt,hc⟩:=(h2.below hb).cell (by omega);injection e' with e'
         injection e' with e'
         subst e';obtain ⟨g0,g1,g2⟩:=flat_get rs i q hq;rw[show 3*i=i*3 by omega]at g0 g1 g2;exact ⟨⟨_,_,_,(hc _ _ g0).1,(hc _ _ g1).1,(hc _ _ g2).1⟩,(hc _ _ g0).2,(hc _ _ g1).2,(hc _ _ g2).2⟩
        have HC:=Aa hcd;clear h0 hp hzp hcd;generalize p.v=pv at *;generalize p.s=psg at *;generalize p.B=pB at *;generalize p.m=pm at *;generalize p.d=pd at *;go_wp2_with fail;refine hcon.mono ?_;rintro e w2 ⟨rfl,b2⟩;have tb:=z1.next b2;obtain ⟨⟨u0,u1,u2,d0,d1,d2⟩,f0,f1,f2⟩:=HC.out _ tb;have y0:=(z0.next b2).c0;have y1:=(z0.next b2).c1;have y2:=(z0.next b2).c2;have HT:=Aa tb;clear tb z0 z1 x0 x1 x2 c0 c1 c2;go_wp2_with fail;go_roundw
        case rel=>exact ⟨i+1,j+1,by omega,by omega,by go_num,by go_num,Lib.hid (HD.out _ HT.out)⟩
        case measure=>simp[intOf]<;>omega
    · obtain rfl:j=n:=(by omega);have hR:=HR.out;obtain ⟨rs,h1,h2,h3,h4,h5,h6⟩:=hR;have H3:=Aa h3;have H5:=Aa h5;have H6:=Aa h6;clear h3 h4 h5 h6 HR;go_wp2_with (with_reducible refine GW rfl _ rfl base g j c i (j-i) (c-i) rs h1 h2 rfl (by omega) (by omega) ?_;intro w3 h8 ho8);go_ret
      have e3:rs.take i=ps.filter nz:=(by rw[H3.out,List.take_of_length_le (by have:=hlen.out;omega)]);rw[e3]at h8;refine ⟨_,i,c,rfl,h8.parts ?_ (fun p hp=>((HZ.out p (List.mem_filter.1 hp).1).kp H6.out).kp (h2.kp ho8)),by omega,hc2,H5.out.trans ho8⟩;rw[<-e3,List.length_take];omega
end
end Go.Proofs.YtgohmojcopajoaaGreatDoor.Nu
