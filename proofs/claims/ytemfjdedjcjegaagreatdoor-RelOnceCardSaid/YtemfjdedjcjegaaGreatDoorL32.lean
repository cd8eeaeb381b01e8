/- Texts of one seat, put together: TidyE. -/
import Derived.Test.YtemfjdedjcjegaaGreatDoorL29
import Derived.Test.YtemfjdedjcjegaaGreatDoorL31
import Derived.Test.YtemfjdedjcjegaaGreatDoorL16
set_option linter.unusedVariables false
set_option linter.unusedSimpArgs false
set_option maxRecDepth 100000
set_option maxHeartbeats 16000000
namespace Go.Proofs.YtemfjdedjcjegaaGreatDoor
section
open Go.RowKit
open Tm
theorem P9:(Tryz.prog.info? 72).map (fun i=>(i.zero,i.size,i.bytes))=some (some (.agg #[.slice none 0 0,.bool false,.slice none 0 0,.bool false,.bool false,.slice none 0 0,.bool false,.bool false,.slice none 0 0]),9,136):=by kernel_rfl
theorem DN (a:List BV):(AL a).length=a.length*9:=by
 induction a with
 |nil=>rfl
 |cons x a ih=>rw[Jk,List.length_append,ih,List.length_cons];simp[BV.cells];omega
theorem PC (ps:List BV):∀u∈AL ps,u.oneCell'=true:=by intro u hu;obtain ⟨l,hl,hu⟩:=List.mem_flatten.1 hu;obtain ⟨p,-,rfl⟩:=List.mem_map.1 hl;exact p.one u hu
theorem Mw (ps:List BV):EY (AL ps):=by intro u hu;obtain ⟨l,hl,hu⟩:=List.mem_flatten.1 hu;obtain ⟨p,-,rfl⟩:=List.mem_map.1 hl;exact p.nis u hu
theorem Mx:EY (Value.agg #[.slice none 0 0,.bool false,.slice none 0 0,.bool false,.bool false,.slice none 0 0,.bool false,.bool false,.slice none 0 0]).cells.toList:=BV.nis ⟨none,0,0,false,none,0,0,⟨false,false,none,0,0,0⟩,⟨false,false,none,0,0,0⟩,[]⟩
theorem GN {w:World} (base:Nat) (v:Value) (n:Nat) (rs:List BV) (hown:LN 72 9 w base v n (AL rs)) (ad:Addr) (m c:Nat) (qs:List BV) (hq:qs.length=m) (hc:∀j u,(AL qs)[j]?=some u->w.cell? (ad.add j)=some u) (hn:n<=1099511) (hm:m<=1099511) (hbase:base<=w.heap.size) :
  ∃v' w',(Builtin.append_ #[68,68] 68 #[v,.slice (some ad) m c]).run Tryz.prog w=.ok v' w'/\LN 72 9 w' base v' (n+m) (AL (rs++qs))/\Tn v.ownBlock w w':=by
 obtain ⟨i0,hi0,hz0,hz1,hz2⟩:=Hc P9;obtain ⟨v',w',hr,h2,h3,h4⟩:=E4 (P:=Tryz.prog) w EY base 68 68 72 i0 _ 9 136 Tryz.underlying68 hi0 hz0 hz1 hz2 rfl (by decide) Mx.nls v n (AL rs) hown ad m c (AL qs)
  (by rw[DN,hq]) hc (PC _) (Mw _).nls (by unfold maxLen;omega) (by omega) hbase EY.nil (fun a b _ ha hb=>ha.append hb) (fun a k ha=>ha.take k) (fun a k _ ha=>ha.drop k) (fun k=>Mx.zero k (by decide)) (Mw _)
 exact ⟨v',w',hr,by rw[EO];exact h2,h3,hown.kt h3⟩
theorem Ct {w:World} {ops:Array Oper} {rest:List Oper} {o:Oper} {a:Act} {Q:Exit->Act->World->Prop} (hgd:o.guard=none) (s x:Operand)
  (ho:o.op=.call { callee:=.builtin .append,args:=#[s,x],argTypes:=#[68,68] }) (hty:o.type=68) (base:Nat) (v:Value) (n:Nat) (rs:List BV) (hs:a.eval s=v) (hown:LN 72 9 w base v n (AL rs)) (ad:Addr) (m c:Nat) (hx:a.eval x=.slice (some ad) m c) (qs:List BV) (hq:qs.length=m) (hc:∀j u,(AL qs)[j]?=some u->w.cell? (ad.add j)=some u) (hn:n<=1099511) (hm:m<=1099511) (hbase:base<=w.heap.size)
  (h:∀v' w',LN 72 9 w' base v' (n+m) (AL (rs++qs))->Tn v.ownBlock w w'->wpList Tryz.prog ops Q rest (a.put o.dst v') w'):wpList Tryz.prog ops Q (o::rest) a w:=by
 obtain ⟨v',w',hr,h2,h3⟩:=GN (w:=w) base v n rs hown ad m c qs hq hc hn hm hbase;refine wpList_plain hgd fun K hK=>?_
 unfold Oper.wp;rw[AW ho hs hx (by rw[hty];exact hr)];exact hK _ _ (h v' w' h2 h3)
theorem FX {w:World} {ops:Array Oper} {rest:List Oper} {o:Oper} {a:Act} {Q:Exit->Act->World->Prop} (hgd:o.guard=none) (s x:Operand)
  (ho:o.op=.call { callee:=.builtin .append,args:=#[s,x],argTypes:=#[22,22] }) (hty:o.type=22) (base:Nat) (v:Value) (n:Nat) (rs:List RV) (hs:a.eval s=v) (hown:LN 35 4 w base v n (AB rs)) (ad:Addr) (m c:Nat) (hx:a.eval x=.slice (some ad) m c) (qs:List RV) (hq:qs.length=m) (hc:∀j u,(AB qs)[j]?=some u->w.cell? (ad.add j)=some u) (hn:n<=1099511) (hm:m<=1099511) (hbase:base<=w.heap.size)
  (h:∀v' w',LN 35 4 w' base v' (n+m) (AB (rs++qs))->Tn v.ownBlock w w'->wpList Tryz.prog ops Q rest (a.put o.dst v') w'):wpList Tryz.prog ops Q (o::rest) a w:=by
 obtain ⟨v',w',hr,h2,h3⟩:=Bf (w:=w) base v n rs hown ad m c qs hq hc hn hm hbase;refine wpList_plain hgd fun K hK=>?_
 unfold Oper.wp;rw[AW ho hs hx (by rw[hty];exact hr)];exact hK _ _ (h v' w' h2 h3)
theorem AP (rs:List BV) (i:Nat) (b:BV) (h:rs[i]?=some b) (j:Nat) (u:Value) (hj:b.cells[j]?=some u):(AL rs)[i*9+j]?=some u:=by
 have hj9:j<9:=by have:=(List.getElem?_eq_some_iff.1 hj).1;simpa[BV.cells] using this
 unfold AL;rw[FW BV.cells 9 (fun _=>rfl) (by decide)];rw[show (i*9+j)/9=i by omega,show (i*9+j)%9=j by omega,h];exact hj
theorem JC {w w':World} {base g n c:Nat} {rs:List BV} {x y:BV} {cur:Array Value} (h:LN 72 9 w base (.slice (some ⟨g,0,none⟩) n c) n (AL (rs++[x]))) (hcur:w.heap[g]?=some (.cells cur 72 (0,0)))
   (hw:w'.heap[g]?=some (.cells (putAt cur (rs.length*9) y.cells.toArray) 72 (0,0))):LN 72 9 w' base (.slice (some ⟨g,0,none⟩) n c) n (AL (rs++[y])):=by
 have hn:n=rs.length+1:=by have:=h.1;rw[DN]at this;simp at this;omega
 rcases h.2 with ⟨hv,-⟩|⟨g',cap,cur',hv,hb,hh,h1,h2,h3,h4,h5,h6⟩
 · cases hv
 injection hv with e1 e2 e3
 injection e1 with e1
 injection e1 with e1
 subst e1 e3;rw[hcur]at hh;injection hh with hh
 injection hh with hh _
 subst hh;have hcl:cur.toList.length=c*9:=by rw[Array.length_toList];exact h3
 have hl:rs.length*9+9<=cur.toList.length:=by omega
 have ht:cur.toList.take (rs.length*9)=AL rs:=by have:=congrArg (List.take (rs.length*9)) h4;rw[List.take_take,Nat.min_eq_left (by omega),EO]at this;rw[this];have e:rs.length*9=(AL rs).length:=(DN rs).symm;rw[e,List.take_left]
 refine ⟨by rw[DN];simp[hn],.inr ⟨g,c,_,rfl,hb,hw,h1,h2,?_,?_,?_,?_⟩⟩
 · unfold putAt;simp only[List.size_toArray,List.length_append,List.length_take,List.length_drop,Array.length_toList];have:y.cells.length=9:=rfl;omega
 · unfold putAt;rw[ht];show (AL rs++y.cells++_).take (n*9)=AL (rs++[y]);have e:AL (rs++[y])=AL rs++y.cells:=(by rw[EO];simp[AL]);rw[e];have e2:n*9=(AL rs++y.cells).length:=(by rw[List.length_append,DN];show n*9=rs.length*9+9;omega);rw[e2,List.take_left]
 · unfold putAt;exact ((h5.take _).append y.nis.nls).append (h5.drop _)
 · unfold putAt;exact ((h6.take _).append y.nis).append (h6.drop _)
end
end Go.Proofs.YtemfjdedjcjegaaGreatDoor
