/- Texts of one seat, put together: Name Bytes DecMath Scale Text DecB TextN RefMath RefText TextZ. -/
import Derived.Test.YtemfjdedjcjegaaGreatDoorL23
import Derived.Test.YtemfjdedjcjegaaGreatDoorL02
import Derived.Test.YtemfjdedjcjegaaGreatDoorL01
import Derived.Test.YtemfjdedjcjegaaGreatDoorL07
import Derived.Lib.Strings
import Derived.Laws.BytesArg
import Derived.Test.YtemfjdedjcjegaaGreatDoorL03
import Derived.Test.YtemfjdedjcjegaaGreatDoorL10
set_option linter.unusedVariables false
set_option linter.unusedSimpArgs false
set_option maxRecDepth 100000
set_option maxHeartbeats 16000000
namespace Go.Proofs.YtemfjdedjcjegaaGreatDoor
section
open Go.Shelf Go.RowKit
def Tl (w:World) (A:Option Addr) (n:Nat) (ns:List ByteArray):Prop:=ns.length=n/\(0<n->∃b o,A=some ⟨b,o,none⟩/\∀j s,ns[j]?=some s->w.cell? ⟨b,o+j,none⟩=some (.string s))
def Fw (s:ByteArray) (w:World) (e:Ending) (w':World):Prop:=e=.returned (.string s)/\Below w.heap.size w w'
theorem Sa (A:Option Addr) (n c i:Nat) (ns:List ByteArray) (s:ByteArray) (w:World) (h:Tl w A n ns) (hn:n<=9223372036854775807) (hi:ns[i]?=some s):Calls Tryz.prog 80 #[.int .i64 i,.slice A n c] w (Fw s w):=by
 have hin:i<n:=by rw[<-h.1];exact (List.getElem?_eq_some_iff.1 hi).1
 obtain ⟨b,o,rfl,hc⟩:=h.2 (by omega);have c0:=hc i s hi;clear h hc hi;go_enter Tryz.func80,Tryz.ntmps80;go_wp2_with fail;go_ret
 exact ⟨rfl,Below.refl _ _⟩
end
section
open Go.RowKit
def T7 (xs:List Nat):List Value:=xs.map fun (x:Nat)=>Value.int .u8 (x:Int)
theorem Sb (xs:List Nat) (i:Nat) (h:i<xs.length):(T7 xs)[i]?=some (.int .u8 ((xs.getD i 0:Nat):Int)):=by simp[T7,List.getElem?_map,List.getD_eq_getElem?_getD,List.getElem?_eq_getElem h]
theorem J5 (n:Nat):T7 (List.replicate n 0)=List.replicate n (.int .u8 0):=by simp[T7]
def Dd (w:World) (g:Nat) (zs:List Nat):Prop:=w.heap[g]?=some (.cells (T7 zs).toArray 5 (0,0))
theorem Dd.lt {w:World} {g:Nat} {zs:List Nat} (h:Dd w g zs):g<w.heap.size:=by
 rcases Nat.lt_or_ge g w.heap.size with hlt|hge
 · exact hlt
 · unfold Dd at h;rw[Array.getElem?_eq_none hge]at h;cases h
theorem Dd.cell {w:World} {g:Nat} {zs:List Nat} {i:Nat} (h:Dd w g zs) (hi:i<zs.length):w.cell? ⟨g,i,none⟩=some (.int .u8 ((zs.getD i 0:Nat):Int)):=by rw[cell_of_row w g i _ _ _ h,List.getElem?_toArray,Sb zs i hi]
theorem Dd.frozen {w:World} {g:Nat} {zs:List Nat} (h:Dd w g zs) (i:Nat):w.frozen? ⟨g,i,none⟩=false:=by unfold Dd at h;simp[World.frozen?,h]
theorem Dd.set_ {w:World} {g:Nat} {zs:List Nat} (h:Dd w g zs) (i v:Nat):Dd (w.setCell ⟨g,i,none⟩ (.int .u8 (v:Int))) g (zs.set i v):=by unfold Dd at h ⊢;simp[World.setCell,Array.getElem?_modify,h,T7,List.map_set]
theorem Dd.keep {w w':World} {g:Nat} {zs:List Nat} (h:Dd w g zs) (hk:w'.heap[g]?=w.heap[g]?):Dd w' g zs:=hk.trans h
theorem Dd.other {w w':World} {g r:Nat} {zs:List Nat} (h:Dd w g zs) (ho:Ao r w w') (hne:g≠r):Dd w' g zs:=h.keep (ho.block g h.lt (fun hh=>hne (by injection hh)))
theorem Sc:(Tryz.prog.info? 5).map (fun i=>(i.zero,i.size,i.bytes))=some (some (.int .u8 0),1,1):=by kernel_rfl
theorem Dd.made {w':World} {g n:Nat} {base:Nat} (h:w'.ownsRow base 5 1 (.slice (some ⟨g,0,none⟩) n n) n (madeCells (Value.int .u8 0).cells (n*1)).toList):Dd w' g (List.replicate n 0)/\base<=g:=by
 obtain ⟨hl,hc⟩:=h;rcases hc with ⟨h0,_⟩|⟨g',cap,cur,hv,hb,hh,h1,h2,h3,h4⟩
 · cases h0
 · injection hv with hv1 hv2 hv3
   injection hv1 with hv1
   injection hv1 with hv1
   subst hv1;subst hv3;have e:cur.toList=List.replicate n (.int .u8 0):=by have h5:cur.toList.length=n*1:=(by simpa using h3);rw[List.take_of_length_le (by omega)]at h4;rw[h4,Nat.mul_one];exact toList_madeCells_one _ _
   refine ⟨?_,hb⟩;unfold Dd;rw[hh,J5,<-e]
theorem IW (w:World) {ops:Array Oper} {rest:List Oper} {o:Oper} {a:Act} {Q:Exit->Act->World->Prop} (hg:o.guard=none) (l c:Operand) (hop:o.op=Op.makeSlice 116 l c)
  (L:Int) (n:Nat) (hl:a.eval l=.int .i64 L) (hc:a.eval c=.int .i64 L) (hL:L=(n:Int)) (hn:n<=35184372088832)
  (hK:∀w',Dd w' w.heap.size (List.replicate n 0)->Below w.heap.size w w'->w.heap.size<w'.heap.size->wpList Tryz.prog ops Q rest (a.put o.dst (.slice (some ⟨w.heap.size,0,none⟩) n n)) w') :
  wpList Tryz.prog ops Q (o::rest) a w:=by
 obtain ⟨i0,hi0,hz0,hz1,hz2⟩:=info_parts Sc;refine wpList_make_full _ hg l c _ hop w.heap.size 5 i0 _ 1 Tryz.underlying116 hi0 hz0 hz1 .i64 .i64 L L n hl hc hL hL (by rw[hz2];omega) (by unfold maxLen;omega) (Nat.le_refl _) ?_;intro w' ho hgr;have hr:=(Dd.made (base:=w.heap.size) ho).1;exact hK w' hr ((Below.refl _ _).grown hgr (Nat.le_refl _) (fun k hk=>by cases hk)) hr.lt
end
end Go.Proofs.YtemfjdedjcjegaaGreatDoor
namespace Go.Proofs.YtemfjdedjcjegaaGreatDoor.Dec
section
def low (N:Nat):Nat->List Nat
 |0=>[]
 |k+1=>(48+N/10^k%10)::low N k
theorem low_length (N k:Nat):(low N k).length=k:=by
 induction k with
 |zero=>rfl
 |succ k ih=>simp[low,ih]
theorem low_get (N k i:Nat) (h:i<k):(low N k).getD i 0=48+N/10^(k-1-i)%10:=by
 induction k generalizing i with
 |zero=>omega
 |succ k ih=>
  cases i with
  |zero=>simp[low]
  |succ i=> have:=ih i (by omega);have e:k+1-1-(i+1)=k-1-i:=(by omega);rw[e,<-this];simp[low]
theorem low_drop (N k j:Nat) (h:j<=k):(low N k).drop j=low N (k-j):=by
 induction j generalizing k with
 |zero=>simp
 |succ j ih=>
  obtain ⟨i,rfl⟩:∃i,k=i+1:=⟨k-1,by omega⟩;have e:i+1-(j+1)=i-j:=by omega
  rw[low,List.drop_succ_cons,ih i (by omega),e]
def S5 (N k:Nat):Prop:=1<=k/\N<10^k/\(k=1\/10^(k-1)<=N)
def upto (d:Nat->Nat):Nat->Nat
 |0=>0
 |i+1=>upto d i*10+d i
theorem Eg (d:Nat->Nat) (i:Nat) (h:∀j,j<i->d j<=9):upto d i<10^i:=by
 induction i with
 |zero=>simp[upto]
 |succ i ih=> have h1:=ih (fun j hj=>h j (by omega));have h2:=h i (by omega);rw[upto,Nat.pow_succ];omega
theorem digits_room (N m k:Nat) (hN:N<4294967296^m) (h:10^k<=N):k<10*m:=by
 rcases Nat.lt_or_ge k (10*m) with h1|h1
 · exact h1
 · have h2:10^(10*m)<=10^k:=Nat.pow_le_pow_right (by omega) h1;have h3:4294967296^m<=10^(10*m):=by
    rw[Nat.pow_mul];exact Nat.pow_le_pow_left (by omega) m
   omega
end
end Go.Proofs.YtemfjdedjcjegaaGreatDoor.Dec
namespace Go.Proofs.YtemfjdedjcjegaaGreatDoor
section
open Go.RowKit
open Limb (limb AE upto upto_succ Ap Aq)
def UB (g f p:Nat) (zs:List Nat) (w:World) (k c:Nat) (wr:World):Prop:=
 ∃cur:List Nat,cur.length=zs.length/\Limb.Ok cur/\Row wr g cur/\Ao g w wr/\(∀t,k<=t->limb cur t=limb zs t)/\upto cur k+4294967296^k*c=upto zs k*f+p
def U2 (g f p:Nat) (zs:List Nat) (w:World) (e:Ending) (w':World):Prop:=
 ∃(cur:List Nat) (cy:Nat),e=.returned (.tuple #[])/\cur.length=zs.length/\Limb.Ok cur/\Row w' g cur/\Ao g w w'/\Hid (Limb.val cur+4294967296^zs.length*cy=Limb.val zs*f+p)
def QU (s:ByteArray) (i:Nat):Nat:=if h:i<s.size then (s[i]'h).toNat else 0
def U3 (s:ByteArray):Prop:=∀i,i<s.size->48<=QU s i/\QU s i<=57
end
section
open Go.RowKit
open Limb (limb AE upto upto_succ Ap Aq)
def Ch (gT T N d:Nat) (wr:World):Prop:=∃bs:List Nat,bs.length=T/\d<=T/\Dd wr gT bs/\bs.drop (T-d)=Dec.low N d
theorem Ch.step {gT T N d:Nat} {wr:World} (h:Ch gT T N d wr) (hd:d+1<=T):Ch gT T N (d+1) (wr.setCell ⟨gT,T-(d+1),none⟩ (.int .u8 ((48+N/10^d%10:Nat):Int))):=by
 obtain ⟨bs,hl,hd0,hr,hv⟩:=h;refine ⟨bs.set (T-(d+1)) (48+N/10^d%10),by simp[hl],hd,hr.set_ _ _,?_⟩;have hlt:T-(d+1)<(bs.set (T-(d+1)) (48+N/10^d%10)).length:=by simp[hl];omega
 rw[List.drop_eq_getElem_cons hlt,List.getElem_set_self,Dec.low];congr 1
 have e:T-(d+1)+1=T-d:=by omega
 rw[e,List.drop_set_of_lt (by omega),hv]
theorem Ch.cell {gT T N d:Nat} {wr:World} (h:Ch gT T N d wr) (i:Nat) (hi:i<T):∃b:Nat,wr.cell? ⟨gT,i,none⟩=some (.int .u8 (b:Int))/\wr.frozen? ⟨gT,i,none⟩=false:=by obtain ⟨bs,hl,hd0,hr,hv⟩:=h;exact ⟨_,hr.cell (by omega),hr.frozen i⟩
theorem Ch.digit {gT T N d:Nat} {wr:World} (h:Ch gT T N d wr) (j:Nat) (hj:j<d):wr.cell? ⟨gT,T-(j+1),none⟩=some (.int .u8 ((48+N/10^j%10:Nat):Int)):=by
 obtain ⟨bs,hl,hd0,hr,hv⟩:=h;rw[hr.cell (by omega)];have h1:bs.getD (T-(j+1)) 0=(bs.drop (T-d)).getD (d-(j+1)) 0:=by
  have e:T-d+(d-(j+1))=T-(j+1):=by omega
  simp[List.getD_eq_getElem?_getD,List.getElem?_drop,e]
 rw[h1,hv,Dec.low_get N d _ (by omega)];have e2:d-1-(d-(j+1))=j:=by omega
 rw[e2]
end
end Go.Proofs.YtemfjdedjcjegaaGreatDoor
namespace Go.Proofs.YtemfjdedjcjegaaGreatDoor.Dec
section
def dlen (N:Nat):Nat:=if h:N<10 then 1 else dlen (N/10)+1
termination_by N
decreasing_by omega
theorem dlen_pos (N:Nat):1<=dlen N:=by rw[dlen];split<;>omega
theorem dlen_is (N:Nat):S5 N (dlen N):=by
 induction N using Nat.strongRecOn with
 |_ N ih=>
  rw[dlen];split
  · rename_i h
    exact ⟨Nat.le_refl _,by simpa using h,Or.inl rfl⟩
  · rename_i h
    obtain ⟨h1,h2,h3⟩:=ih (N/10) (by omega);refine ⟨by omega,?_,Or.inr ?_⟩
    · rw[Nat.pow_succ];omega
    · rw[Nat.add_sub_cancel];rcases h3 with h3|h3
      · rw[h3];omega
      · obtain ⟨k,hk⟩:∃k,dlen (N/10)=k+1:=⟨dlen (N/10)-1,by omega⟩;rw[hk]at h3 ⊢;rw[Nat.add_sub_cancel]at h3;rw[Nat.pow_succ];omega
theorem top_digit (N k:Nat) (h:S5 N k) (h0:N≠0):N/10^(k-1)%10≠0:=by
 obtain ⟨h1,h2,h3⟩:=h;obtain ⟨j,rfl⟩:∃j,k=j+1:=⟨k-1,by omega⟩;rw[Nat.add_sub_cancel]at h3 ⊢;rw[Nat.pow_succ]at h2;have hp:0<10^j:=Nat.pow_pos (by omega);have h4:N/10^j<10:=Nat.div_lt_of_lt_mul (by omega);have h5:1<=N/10^j:=by
  rcases h3 with h3|h3
  · have:j=0:=by omega
    subst this;simp;omega
  · exact (Nat.le_div_iff_mul_le hp).2 (by omega)
 omega
theorem digit_beyond (N k j:Nat) (h:N<10^k) (hj:k<=j):N/10^j%10=0:=by rw[Nat.div_eq_of_lt (Nat.lt_of_lt_of_le h (Nat.pow_le_pow_right (by omega) hj))]
theorem group_digit (N i j:Nat) (hj:j<9):N/10^(9*i)%1000000000/10^j%10=N/10^(9*i+j)%10:=by
 have e:(1000000000:Nat)=10^j*10^(9-j):=by rw[<-Nat.pow_add,show j+(9-j)=9 by omega]
 rw[e,Nat.mod_mul_right_div_self,Nat.div_div_eq_div_mul,<-Nat.pow_add];obtain ⟨k,hk⟩:∃k,9-j=k+1:=⟨8-j,by omega⟩;rw[hk,Nat.pow_succ,Nat.mul_comm (10^k) 10,Nat.mod_mul_right_mod]
def str (xs:List Nat):ByteArray:=strOfNums (xs.map fun (x:Nat)=>(x:Int))
theorem QV (xs:List Nat):(str xs).size=xs.length:=by rw[str,strOfNums_size,List.length_map]
def text (N:Nat):ByteArray:=str (low N (dlen N))
theorem text_size (N:Nat):(text N).size=dlen N:=by rw[text,QV,low_length]
theorem div_group (N i:Nat):N/10^(9*i)/1000000000=N/10^(9*(i+1)):=by rw[Nat.div_div_eq_div_mul,show (1000000000:Nat)=10^9 from rfl,<-Nat.pow_add,show 9*i+9=9*(i+1) by omega]
theorem group_room (N m i:Nat) (hN:N<4294967296^m) (h:N/10^(9*i)≠0):9*(i+1)<=10*m+8:=by
 have h1:10^(9*i)<=N:=by
  rcases Nat.lt_or_ge N (10^(9*i)) with h2|h2
  · exact absurd (Nat.div_eq_of_lt h2) h
  · exact h2
 have:=digits_room N m (9*i) hN h1;omega
end
end Go.Proofs.YtemfjdedjcjegaaGreatDoor.Dec
namespace Go.Proofs.YtemfjdedjcjegaaGreatDoor
section
open Go.RowKit
open Limb (limb AE upto upto_succ Ap Aq)
def G4 (N:Nat) (w:World) (e:Ending) (w':World):Prop:=e=.returned (.string (Dec.text N))/\Below w.heap.size w w'
theorem QW {w:World} {g k:Nat} {bs zs:List Nat} (h:Dd w g bs) (h':Row w k zs):g≠k:=by
 rintro rfl;unfold Dd at h;unfold Row at h';rw[h]at h';injection h' with h'
 injection h' with _ ht
 exact absurd ht (by decide)
theorem Own.rowOf {w:World} {base:Nat} {A:Option Addr} {n c N:Nat} (h:Own w base A n c N) (h0:N≠0):∃g zs,A=some ⟨g,0,none⟩/\base<=g/\Row w g zs/\Limb.Ok zs/\c<=zs.length/\zs.take n=Limb.canon N:=h.2.2.2 h0
theorem Ch.only {gT T N d r:Nat} {w wr:World} (h:Ch gT T N d w) (ho:Ao r w wr) (hne:gT≠r):Ch gT T N d wr:=by obtain ⟨bs,hl,hd,hr,hv⟩:=h;exact ⟨bs,hl,hd,hr.other ho hne,hv⟩
theorem Ch.stepAt {gT T N d r D:Nat} {wr:World} (h:Ch gT T N d wr) (hr:r+(d+1)=T) (hD:D=N/10^d%10):Ch gT T N (d+1) (wr.setCell ⟨gT,r,none⟩ (.int .u8 ((48+D:Nat):Int))):=by
 have h1:=h.step (by omega);have e:T-(d+1)=r:=by omega
 rw[e,<-hD]at h1;exact h1
theorem Ch.start {gT T N:Nat} {w:World} (h:Dd w gT (List.replicate T 0)):Ch gT T N 0 w:=⟨_,by simp,Nat.zero_le _,h,by simp[Dec.low]⟩
theorem Ch.row {gT T N d:Nat} {w:World} (h:Ch gT T N d w):∃bs,Dd w gT bs:=by obtain ⟨bs,_,_,hr,_⟩:=h;exact ⟨bs,hr⟩
theorem Own.ownOnly {w w':World} {base:Nat} {A:Option Addr} {n c X gT T N d:Nat} (h:Own w base A n c X) (ho:Ao gT w w') (ht:Ch gT T N d w):Own w' base A n c X:=by
 rcases Nat.eq_zero_or_pos X with h0|h0
 · subst h0;exact ⟨h.1,h.2.1,h.2.2.1,fun hh=>absurd rfl hh⟩
 · obtain ⟨g,zs,rfl,hg,hr,hz⟩:=h.rowOf (by omega);obtain ⟨bs,hb⟩:=ht.row;exact h.grown ho (fun ad had he=>QW hb hr (by injection had with had;subst had;exact he.symm))
theorem Sd {N k:Nat} (h:N<10^k) (hk:1<=k):Dec.dlen N<=k:=by
 obtain ⟨h1,h2,h3⟩:=Dec.dlen_is N;rcases h3 with h3|h3
 · omega
 · rcases Nat.lt_or_ge k (Dec.dlen N) with h4|h4
   · have:=Nat.pow_le_pow_right (show 0<10 by omega) (show k<=Dec.dlen N-1 by omega);omega
   · exact h4
theorem Ch.conv {gT T N d r c:Nat} {wr:World} (h:Ch gT T N d wr) (hr:r+Dec.dlen N=T) (hd:Dec.dlen N<=d) :
  (convert 116 9 (.slice (some ⟨gT,r,none⟩) (Dec.dlen N) c)).run Tryz.prog wr=.ok (.string (Dec.text N)) wr:=by
 obtain ⟨bs,hl,hdT,hb,hv⟩:=h;have h1:bs.drop r=Dec.low N (Dec.dlen N):=by have h2:=Dec.low_drop N d (d-Dec.dlen N) (by omega);rw[<-hv,List.drop_drop,show T-d+(d-Dec.dlen N)=r by omega,show d-(d-Dec.dlen N)=Dec.dlen N by omega]at h2;exact h2
 refine run_convert_bytes_arg wr _ 5 Tryz.underlying116 Tryz.underlying5 gT r (Dec.dlen N) c ((Dec.low N (Dec.dlen N)).map fun (x:Nat)=>(x:Int)) (by rw[List.length_map,Dec.low_length]) (fun i hi=>?_) _ Tryz.underlying9;rw[hb.cell (by omega)];have e:bs.getD (r+i) 0=(Dec.low N (Dec.dlen N)).getD i 0:=by rw[<-h1];simp[List.getD_eq_getElem?_getD,List.getElem?_drop]
 rw[e];have hi2:i<(Dec.low N (Dec.dlen N)).length:=by rw[Dec.low_length];exact hi
 simp[List.getD_eq_getElem?_getD,List.getElem?_eq_getElem hi2]
theorem Pp (zs:List Nat) (m:Nat):win zs 0 m=zs.take m:=by unfold win;rw[List.drop_zero]
theorem J6 (zs:List Nat) (m X:Nat) (h:X<4294967296^m):Limb.val ((put zs 0 (Limb.fixed m X)).take m)=X:=by unfold put;rw[List.take_zero,List.nil_append,List.take_append_of_le_length (by rw[Limb.fixed_length];exact Nat.le_refl _),List.take_of_length_le (by rw[Limb.fixed_length];exact Nat.le_refl _),Limb.fixed_val,Nat.mod_eq_of_lt h]
theorem KR (A:Option Addr) (n c:Nat) (xs:List Nat) (w:World) (hx:Am w A n xs) (hc:n<=c) (hm:c<=9223372036854775807) (hn:n<=1099511627776) (h0:Limb.val xs=0) :
  Calls Tryz.prog 118 #[.slice A n c] w (G4 0 w):=by
 have ht:=Do A n c xs w hx hc hm hn;unfold Lm at ht;rw[h0]at ht;clear h0;go_enter Tryz.func118,Tryz.ntmps118;go_wp2_with fail;refine ht.mono ?_;rintro e w1 ⟨A1,n1,rfl,o1,b1⟩;obtain rfl:n1=0:=o1.len;go_wp2_with fail;go_ret
 refine ⟨?_,b1⟩;have e1:Dec.dlen 0=1:=by rw[Dec.dlen];rfl
 show Ending.returned (.string _)=.returned (.string (Dec.str (Dec.low 0 (Dec.dlen 0))));rw[e1];rfl
theorem Mi (A:Option Addr) (n c:Nat) (xs:List Nat) (w:World) (hx:Am w A n xs) (hc:n<=c) (hm:c<=9223372036854775807) (hn:n<=1099511627776) (h0:Limb.val xs≠0) :
  Calls Tryz.prog 118 #[.slice A n c] w (G4 (Limb.val xs) w):=by
 have ht:=Do A n c xs w hx hc hm hn;have hNlt:=hx.lt;generalize Limb.val xs=N at *;have HN0:=Ad h0;clear h0;go_enter Tryz.func118,Tryz.ntmps118;go_wp2_with fail;refine ht.mono ?_;rintro e w1 ⟨A1,n1,rfl,o1,b1⟩;have hn1:n1<=n:=CG o1.nums hNlt;have hn0:0<n1:=by
  rcases Nat.eq_zero_or_pos n1 with h|h
  · exact absurd ((Limb.canon_len_zero N).1 (by rw[<-o1.len];exact h)) HN0.out
  · exact h
 have hne:((n1:Int)==0)=false:=by simp;omega
 have hlt1:=Ad o1.nums.lt;rw[Limb.val_canon]at hlt1;clear ht hNlt hx;obtain ⟨T,hT⟩:∃T:Nat,T=n1*10+9:=⟨_,rfl⟩;have eT:(n1:Int)*10+9=(T:Int):=by omega
 have hT9:T<=35184372088832:=by omega
 have HT:=Ad hT;clear hT;go_wp2_with (at_make;refine IW _ rfl _ _ rfl _ T rfl rfl (by omega) (by omega) ?_;intro w2 hr2 hb2 hs2);have o2:=o1.below hb2;have t2:=b1.next hb2;have hg:w.heap.size<=w1.heap.size:=b1.size;generalize w1.heap.size=gT at *;clear o1 b1 hb2 hne eT;go_wp2_with fail
 go_loopg [3,5] N (fun k va vb wr=>∃(i r p:Nat) (B:Option Addr),va=.slice B p p/\vb=.int .i64 (r:Int)/\Hid (k=N/10^(9*i))/\Hid (r+9*i=T)/\Own wr w.heap.size B p p k/\Hid (Ch gT T N (9*i) wr)/\Below w.heap.size w wr/\p<=1099511627776/\r<=T)
 case atStart=>exact ⟨0,T,n1,A1,rfl,rfl,by show _=_;simp,by show _=_;omega,o2,Ch.start hr2,t2,by omega,Nat.le_refl _⟩
 case round=>
  clear hr2 o2 t2;obtain ⟨i,r,p,B,rfl,rfl,HK,HR,o3,HT3,t3,hp,hrT⟩:=hrel;by_cases hk0:gk=0
  · subst hk0;obtain rfl:p=0:=o3.len;have hNi:=Ad (show N<10^(9*i) by
     have h1:=HK.out;rcases Nat.lt_or_ge N (10^(9*i)) with h2|h2
     · exact h2
     · have:=Nat.div_pos h2 (Nat.pow_pos (by omega));omega)
    have hi1:1<=i:=by
     rcases Nat.eq_zero_or_pos i with h|h
     · subst h;have h1:=hNi.out;have h2:=HN0.out;simp at h1;omega
     · exact h
    have hdl:=Ad (Sd hNi.out (by omega));have htop:=Ad (Dec.top_digit N _ (Dec.dlen_is N) HN0.out);have hd1:=Dec.dlen_pos N;have hNd:=Ad (Dec.dlen_is N).2.1;have hconv:=Ad (fun (r2 c:Nat) (hr:r2+Dec.dlen N=T)=>HT3.out.conv (c:=c) hr hdl.out);generalize Dec.dlen N=D at *;have HR9:=HR.out;have hdl2:=hdl.out;go_wp2_with fail;go_loop [5] (fun s=>∃r2:Nat,s=.int .i64 (r2:Int)/\r2<T/\Hid (r<=r2/\r2+D<=T)) (fun s=>T-(intOf s).toNat)
    case atStart=>exact ⟨r,rfl,by omega,by omega,by omega⟩
    case round=>
     clear HR9 hdl2;obtain ⟨r2,rfl,hr2,HR2⟩:=hrel;obtain ⟨d,hd⟩:∃d,d=T-(r2+1):=⟨_,rfl⟩;have hcell:=HT3.out.digit d (by have:=HR2.out;have:=HR.out;omega);rw[show T-(d+1)=r2 by omega]at hcell;by_cases hlast:r2+D=T
     · have hdig:=htop.out;rw[show D-1=d by omega]at hdig;have hcv:=hconv.out r2 D hlast;generalize N/10^d%10=dd at *;obtain ⟨ch,hch⟩:∃ch,ch=48+dd:=⟨_,rfl⟩;rw[<-hch]at hcell;have htest:((ch:Int)==48)=false:=(by simp;omega);have hne1:¬T=r2:=(by omega);have eD:T-r2=D:=(by omega);clear hdig hlast hd hch;go_wp2_with fail;go_ret
       exact ⟨rfl,t3⟩
     · have hz:=Dec.digit_beyond N D d hNd.out (by have:=HR2.out;omega);rw[hz]at hcell;clear hz hd;go_wp2_with fail;go_round
       case rel=>exact ⟨r2+1,by go_num,by have:=HR2.out;omega,by have:=HR2.out;omega,by have:=HR2.out;omega⟩
       case measure=>simp[intOf];omega
  · have hp0:0<p:=by
     rcases Nat.eq_zero_or_pos p with h|h
     · exact absurd ((Limb.canon_len_zero gk).1 (by rw[<-o3.len];exact h)) hk0
     · exact h
    have hplt:=Ad o3.nums.lt;rw[Limb.val_canon]at hplt;obtain ⟨g,zs,rfl,hgb,hrow,hzok,hzl,hzt⟩:=o3.rowOf hk0;have hdb:=Gg g p p 1000000000 zs wr hrow hzok hzl (by omega) (by omega) (by omega);unfold Qe at hdb;rw[Pp,hzt,Limb.val_canon]at hdb;have hX:=Ad (J6 zs p (gk/1000000000) (Nat.lt_of_le_of_lt (Nat.div_le_self _ _) hplt.out));have hroom:=Ad (Dec.group_room N n1 i hlt1.out (by rw[<-HK.out];exact hk0));have hgT:=Ad (QW HT3.out.row.choose_spec hrow)
    have hok2:=CQ hzok 0 (Limb.fixed_ok p (gk/1000000000));have hlen2:=Ad (AA zs 0 (Limb.fixed p (gk/1000000000)) (by rw[Limb.fixed_length];omega));have HK0:=Ad hk0;have hml:=Ad (Nat.div_lt_self (Nat.pos_of_ne_zero hk0) (show 1<1000000000 by omega));have hq9:gk%1000000000<1000000000:=Nat.mod_lt _ (by omega);have hq0:=Ad (show gk%1000000000=gk%1000000000/10^0 by simp);generalize put zs 0 (Limb.fixed p (gk/1000000000))=us at *;generalize hqq:gk%1000000000=qq at *
    have HQQ:=Ad hqq;clear hk0 o3 hzt hqq;obtain ⟨wo,rfl⟩:∃wo:World,wo=wr:=⟨_,rfl⟩;go_wp2_with fail;refine hdb.mono ?_;rintro e w3 ⟨rfl,hrow3,hon3⟩;have HT4:=Ad (HT3.out.only hon3 hgT.out);have t4:=t3.trans (hon3.below t3.size hgb);clear hdb HT3 t3 hrow hon3;go_wp2_with fail;refine (Bp g p p (gk/1000000000) w.heap.size us w3 hrow3 hok2 (by rw[hlen2.out];exact hzl) (Nat.le_refl _) (by omega) hgb hX.out).mono ?_;rintro e w' ⟨A5,m5,rfl,o5,rfl⟩;go_wp2_with fail
    have hm5:m5<=p:=CG o5.nums (Nat.lt_of_le_of_lt (Nat.div_le_self _ _) hplt.out);go_loopw [5,6,26] (fun s q c wq=>∃j r2 q2:Nat,j<=9/\s=.int .i64 (r2:Int)/\q=.int .u32 (q2:Int)/\c=.int .i64 (j:Int)/\q2<=999999999/\r2<=T/\Hid (r2+(9*i+j)=T)/\Hid (q2=qq/10^j)/\Hid (Ch gT T N (9*i+j) wq)/\Hid (Ao gT w3 wq)) (fun _ _ c _=>9-(intOf c).toNat)
    case atStart=>exact ⟨0,r,qq,by omega,rfl,rfl,rfl,by omega,hrT,by show _=_;have:=HR.out;omega,by show _=_;simp,HT4.out,Ao.refl _ _⟩
    case round=>
     obtain ⟨j,r2,q2,hj,rfl,rfl,rfl,hq2,hr2T,HR2,HQ2,HT5,HO5⟩:=hrel;by_cases hj9:j<9
     · obtain ⟨r3,rfl⟩:∃r3,r2=r3+1:=⟨r2-1,by have h1:=HR2.out;have h2:=hroom.out;have h3:=HT.out;omega⟩;obtain ⟨b0,hcell,hfroz⟩:=HT5.out.cell r3 (by omega);have hstep:=Ad (HT5.out.stepAt (r:=r3) (D:=q2%10) (by have:=HR2.out;omega) (by rw[HQ2.out,<-HQQ.out,HK.out,Dec.group_digit N i j hj9]));have hq3:=Ad (show q2/10=qq/10^(j+1) by rw[HQ2.out,Nat.pow_succ,Nat.div_div_eq_div_mul]);go_wp2_with fail;have es:((48:Int)+(q2:Int)%10)=((48+q2%10:Nat):Int):=(by omega)
       have eq3:(q2:Int)/10=((q2/10:Nat):Int):=(by omega);rw[es,eq3];clear es eq3;go_roundw
       case rel=>exact ⟨j+1,r3,q2/10,by omega,rfl,rfl,by go_num,by omega,by omega,by show _=_;have:=HR2.out;omega,hq3.out,hstep.out,HO5.out.setCell _ _⟩
       case measure=>simp[intOf];omega
     · obtain rfl:j=9:=(by omega);go_wp2_with fail;go_roundg (gk/1000000000)
       case rel=>exact ⟨i+1,r2,m5,A5,rfl,rfl,by show _=_;rw[HK.out];exact Dec.div_group N i,by show _=_;have:=HR2.out;omega,o5.ownOnly HO5.out HT4.out,HT5.out,t4.trans (HO5.out.below t4.size hg),by omega,hr2T⟩
       case measure=>exact hml.out
theorem Mj (A:Option Addr) (n c:Nat) (xs:List Nat) (w:World) (hx:Am w A n xs) (hc:n<=c) (hm:c<=9223372036854775807) (hn:n<=1099511627776) :
   Calls Tryz.prog 118 #[.slice A n c] w (G4 (Limb.val xs) w):=by
 by_cases h0:Limb.val xs=0
 · rw[h0];exact KR A n c xs w hx hc hm hn h0
 · exact Mi A n c xs w hx hc hm hn h0
end
section

end
section
open Go.RowKit
open Limb (limb AE upto upto_succ Ap Aq)
def UC (X m base:Nat) (v:Value) (w:World) (k z:Nat) (wr:World):Prop:=
 ∃cur:List Nat,cur.length=m/\NT wr base v cur/\Below base w wr/\z<10/\Limb.val ((Limb.canon X).drop k)=10*Limb.val (cur.drop k)+z
theorem Pq {N m:Nat} (h:N<4294967296^m):Dec.dlen N<=10*m+1:=by
 obtain ⟨h1,h2,h3⟩:=Dec.dlen_is N;rcases h3 with h3|h3
 · omega
 · have:=Dec.digits_room N m _ h h3;omega
def UP (N:Nat) (w:World) (i k:Nat) (va vb:Value) (wr:World):Prop:=
 ∃(X m c:Nat) (B:Option Addr),va=.slice B m c/\vb=.string (Dec.str (Dec.low N i))/\X=N/10^i/\k=X+(if i=0 then 1 else 0)/\i<=Dec.dlen N/\Am wr B m (Limb.canon X)/\m<=c/\c<=9223372036854775807/\m<=1099511627776/\Below w.heap.size w wr
end
section
open Go.RowKit
def Kf (Z:Int):ByteArray:=if Z<0 then ⟨#[45]⟩++Dec.text Z.natAbs else Dec.text Z.natAbs
theorem Pr {Z:Int} (h:Z<0):Kf Z=⟨#[45]⟩++Dec.text Z.natAbs:=by unfold Kf;rw[if_pos h]
theorem Kg {Z:Int} (h:¬Z<0):Kf Z=Dec.text Z.natAbs:=by unfold Kf;rw[if_neg h]
def F6 (Z:Int) (w:World) (e:Ending) (w':World):Prop:=e=.returned (.string (Kf Z))/\Below w.heap.size w w'
theorem Ps {Z:Int} {k:Nat} (h:Z.natAbs<4294967296^k) (hk:k<=1099511627776):(⟨#[45]⟩:ByteArray).size+(Dec.text Z.natAbs).size<=9223372036854775807:=by rw[Dec.text_size];have:=Pq h;show 1+_<=_;omega
theorem KS (v:Value) (Z:Int) (k:Nat) (w:World) (hv:BF w v Z k) (hk:k<=1099511627776):Calls Tryz.prog 77 #[v] w (F6 Z w):=by
 have hv0:=hv;have hroom:=Ps hv.lt hk;obtain ⟨s,A,n,c,xs,rfl,hx,hc,hm,hn,hZ⟩:=hv;obtain ⟨z1,z2,z3⟩:=CV w #[.bool s,.slice A n c];have ht:=Mj A n c xs _ (hx.below z2) hc hm (by omega);unfold G4 at ht;rw[BF.abs hZ]at ht;have HS:=Ad (fun W (hb:Below w.heap.size w W)=>Cs _ Z k W (hv0.below hb) hk);unfold BA at HS;have HN:=Ad (fun (h:Z<0)=>Pr h);have HP:=Ad (fun (h:¬Z<0)=>Kg h);clear hx hZ hv0;generalize Dec.text Z.natAbs=d at *;by_cases h0:Z<0
 · have hs:Z.sign<0:=(by rw[Int.sign_eq_neg_one_of_neg h0];omega);have HE:=HN.out h0;generalize Z.sign=sgn at *;have HE2:=Ad HE;clear h0 HE HN HP;go_enter Tryz.func77,Tryz.ntmps77;go_wp2_with fail;refine ht.mono ?_;rintro e w1 ⟨rfl,b1⟩;have k1:=z1.next b1;have k1a:=k1.c0;have k1b:=k1.c1;have t1:=z2.next b1;clear ht;go_wp2_with fail;refine (HS.out w1 t1).mono ?_;rintro e w2 ⟨rfl,b2⟩;clear k1a k1b;go_wp2_with fail;go_ret
   exact ⟨by rw[HE2.out];rfl,t1.next b2⟩
 · have hs:¬Z.sign<0:=fun h=>h0 (Int.sign_neg_iff.1 h)
   have HE:=HP.out h0;generalize Z.sign=sgn at *;have HE2:=Ad HE;clear h0 HE HN HP hroom;go_enter Tryz.func77,Tryz.ntmps77;go_wp2_with fail;refine ht.mono ?_;rintro e w1 ⟨rfl,b1⟩;have k1:=z1.next b1;have k1a:=k1.c0;have k1b:=k1.c1;have t1:=z2.next b1;clear ht;go_wp2_with fail;refine (HS.out w1 t1).mono ?_;rintro e w2 ⟨rfl,b2⟩;clear k1a k1b;go_wp2_with fail;go_ret
   exact ⟨by rw[HE2.out];rfl,t1.next b2⟩
end
end Go.Proofs.YtemfjdedjcjegaaGreatDoor
