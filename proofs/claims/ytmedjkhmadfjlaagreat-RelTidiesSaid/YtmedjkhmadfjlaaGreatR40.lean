/- Texts of one seat, put together: TidyS. -/
import Derived.Test.YtmedjkhmadfjlaaGreatR32
set_option linter.unusedVariables false
set_option linter.unusedSimpArgs false
set_option maxRecDepth 100000
set_option maxHeartbeats 16000000
namespace Go.Proofs.YtmedjkhmadfjlaaGreat
section
open Tm
theorem NB {ts:List R3} {a b:R3} {q:Nat} (h:ts[q]?=some b):Cb (ts.take (q+1)) a=EK a (Cb (ts.take q) a) b:=by rw[Io h];unfold Cb;rw[List.foldl_append];rfl
theorem Uk (ts:List R3) (a:R3) {q:Nat} (h:ts.length<=q):Cb (ts.take q) a=Cb ts a:=by rw[List.take_of_length_le h]
theorem QN (ts:List R3) (a:R3):(Cb ts a).S=a.1:=by unfold Cb;rw[U7]
theorem step_skip {a b:R3} {x:Bd} (h:E6 b.1 a.1=0):EK a x b=x:=if_pos h
def GV (a b:R3) (lo:Option Int):Option Int:=
 if 0<E6 b.1 a.1\/b.2.2=true then (match lo with|none=>some (CG a b)|some l=>if l<CG a b then some (CG a b) else some l) else lo
def Cu (a b:R3) (hi:Option Int):Option Int:=
 if E6 b.1 a.1<0\/b.2.2=true then (match hi with|none=>some (CG a b)|some l=>if CG a b<l then some (CG a b) else some l) else hi
theorem Ul {a b:R3} {x:Bd} (h:E6 b.1 a.1≠0):(EK a x b).lo=GV a b x.lo:=by
 unfold EK GV;rw[if_neg h];unfold Dy O8;dsimp only
 by_cases hc:0<E6 b.1 a.1\/b.2.2=true
 · rw[if_pos hc,if_pos hc];cases x.lo with
   |none=>rfl
   |some l=>
    unfold strict TW;dsimp only
    split<;>rfl
 · rw[if_neg hc,if_neg hc];cases x.lo<;>rfl
theorem Um {a b:R3} {x:Bd} (h:E6 b.1 a.1≠0):(EK a x b).hi=Cu a b x.hi:=by
 unfold EK Cu;rw[if_neg h];unfold Dy O8;dsimp only
 by_cases hc:E6 b.1 a.1<0\/b.2.2=true
 · rw[if_pos hc,if_pos hc];cases x.hi with
   |none=>rfl
   |some l=>
    unfold strict TX;dsimp only
    split<;>rfl
 · rw[if_neg hc,if_neg hc];cases x.hi<;>rfl
theorem OJ {ts:List R3} {a b:R3} {q:Nat} (h:ts[q]?=some b):Dz (ts.take (q+1)) a=(Dz (ts.take q) a&&decide (E6 b.1 a.1=0)):=by rw[Io h];unfold Dz;rw[List.all_append];simp
theorem Gb {ts:List R3} {a b:R3} {q i:Nat} (h:ts[q]?=some b):Dz (ts.take (min (q+1) i)) a=if q<i then (Dz (ts.take (min q i)) a&&decide (E6 b.1 a.1=0)) else Dz (ts.take (min q i)) a:=by
 by_cases hq:q<i
 · rw[if_pos hq,Nat.min_eq_left (by omega),Nat.min_eq_left (by omega),OJ h]
 · rw[if_neg hq,Nat.min_eq_right (by omega),Nat.min_eq_right (by omega)]
theorem Kx {ts:List R3} {i:Nat} {out:List R3} {a:R3} (h:Cr ts i=some out) (ha:ts[i]?=some a) (hd:DT (Cb ts a)=none):Cr ts (i+1)=none:=by unfold Cr;rw[h,ha];dsimp only;rw[hd]
theorem EQ {ts:List R3} {i:Nat} {out ds:List R3} {a:R3} (h:Cr ts i=some out) (ha:ts[i]?=some a) (hd:DT (Cb ts a)=some ds) (hf:Dz (ts.take i) a=true):Cr ts (i+1)=some (Hx ds out):=by unfold Cr;rw[h,ha];dsimp only;rw[hd];dsimp only;rw[if_pos hf]
theorem ER {ts:List R3} {i:Nat} {out ds:List R3} {a:R3} (h:Cr ts i=some out) (ha:ts[i]?=some a) (hd:DT (Cb ts a)=some ds) (hf:Dz (ts.take i) a=false):Cr ts (i+1)=some out:=by unfold Cr;rw[h,ha];dsimp only;rw[hd];dsimp only;rw[if_neg (by rw[hf];decide)]
theorem IA {ts:List R3} {i:Nat} (h:Cr ts i=none):∀j,i<=j->Cr ts j=none:=by
 intro j hj;induction j with
 |zero=>
  have e:i=0:=by omega
  rw[e]at h;exact h
 |succ j ih=>
  rcases Nat.lt_or_ge i (j+1) with h1|h1
  · unfold Cr;rw[ih (by omega)]
  · obtain rfl:i=j+1:=(by omega);exact h
theorem QO (ds:List R3):∀l,(Hx ds l).length=l.length+ds.length:=by
 induction ds with
 |nil=>intro l;rfl
 |cons r ds ih=> intro l;show (Hx ds (CV r l)).length=_;rw[ih,Fi,List.length_cons];omega
theorem SP {x:Bd} {ds:List R3} (h:DT x=some ds):ds.length<=2:=by
 unfold DT at h;split at h
 · split at h
   · cases h
   · split at h<;>(injection h with h;subst h;simp)
 all_goals (injection h with h;subst h;simp)
theorem IB (l:List R3) (r:R3):Cs (l++[r])=if tk r=0 then Cs l++[tt r] else Cs l:=by
 unfold Cs;rw[List.filter_append];by_cases h:tk r=0
 · rw[if_pos h];simp[h]
 · rw[if_neg h];simp[h]
theorem OK (l:List R3):(Cs l).length<=l.length:=by unfold Cs;rw[List.length_map];exact List.length_filter_le _ _
theorem OL {rs:List R3} {o:Option (List R3)} {r:R3} (hm:r∈rs) (hr:tk r=-1) (h:I1 rs o):o=none:=by
 cases o with
 |none=>rfl
 |some out=>exact absurd hr (h.1 r hm)
end
end Go.Proofs.YtmedjkhmadfjlaaGreat
