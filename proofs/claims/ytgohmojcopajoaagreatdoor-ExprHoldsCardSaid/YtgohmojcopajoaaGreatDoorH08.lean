/- Texts of one seat, put together: TwoL Trim Cmp Inc. -/
import Derived.Test.YtgohmojcopajoaaGreatDoorH06
import Derived.Test.YtgohmojcopajoaaGreatDoorH05
import Derived.Test.YtgohmojcopajoaaGreatDoorH01
set_option linter.unusedVariables false
set_option linter.unusedSimpArgs false
set_option maxRecDepth 100000
set_option maxHeartbeats 16000000
namespace Go.Proofs.YtgohmojcopajoaaGreatDoor
section
open Go.RowKit
structure K2 (r q:Nat) (w w':World):Prop where
 os:w'.os=w.os
 tape:w'.tape=w.tape
 output:w'.output=w.output
 size:w.heap.size<=w'.heap.size
 block:∀b,b<w.heap.size->b≠r->b≠q->w'.heap[b]?=w.heap[b]?
theorem K2.refl (r q:Nat) (w:World):K2 r q w w:=⟨rfl,rfl,rfl,Nat.le_refl _,fun _ _ _ _=>rfl⟩
theorem K2.trans {r q:Nat} {a b c:World} (h:K2 r q a b) (k:K2 r q b c):K2 r q a c:=
 ⟨k.os.trans h.os,k.tape.trans h.tape,k.output.trans h.output,Nat.le_trans h.size k.size,fun i hi h1 h2=>(k.block i (Nat.lt_of_lt_of_le hi h.size) h1 h2).trans (h.block i hi h1 h2)⟩
theorem K2.of_below {r q:Nat} {w w':World} (h:Below w.heap.size w w'):K2 r q w w':=⟨h.os,h.tape,h.output,h.size,fun i hi _ _=>h.block i hi⟩
theorem K2.fst {r q:Nat} {w w':World} (ho:Ai r w w'):K2 r q w w':=⟨ho.os,ho.tape,ho.output,ho.size,fun i hi h1 _=>ho.block i hi (fun e=>h1 (by injection e))⟩
theorem K2.snd {r q:Nat} {w w':World} (ho:Ai q w w'):K2 r q w w':=⟨ho.os,ho.tape,ho.output,ho.size,fun i hi _ h2=>ho.block i hi (fun e=>h2 (by injection e))⟩
theorem K2.below {r q B:Nat} {w w':World} (h:K2 r q w w') (hB:B<=w.heap.size) (hr:B<=r) (hq:B<=q):Below B w w':=
 ⟨h.os,h.tape,h.output,h.size,fun b hb=>h.block b (by omega) (by omega) (by omega)⟩
theorem K2.box {r q g:Nat} {T:TypeId} {cs:Array Value} {w w':World} (h:K2 r q w w') (hb:Am T w g cs) (hr:g≠r) (hq:g≠q):Am T w' g cs:=(h.block g hb.lt hr hq).trans hb
theorem K2.keep {r q:Nat} {S:Nat->Prop} {w w':World} (h:K2 r q w w') (hr:¬S r) (hq:¬S q):AJ S w w':=
 ⟨h.size,fun b hS hb=>h.block b hb (fun e=>hr (e▸hS)) (fun e=>hq (e▸hS))⟩
theorem K2.cell {r q g o:Nat} {w w':World} (h:K2 r q w w') (hg:g<w.heap.size) (hr:g≠r) (hq:g≠q):w'.cell? ⟨g,o,none⟩=w.cell? ⟨g,o,none⟩:=
 World.cell?_of_block (w:=w) (a:=⟨g,o,none⟩) (h.block g hg hr hq)
structure G2 (W0:World) (r s1:Nat) (T1:TypeId) (C1:Array Value) (q s2:Nat) (T2:TypeId) (C2:Array Value) (sA:Nat) (listed:Array Bool) (_σ:Nat->Value) (w:World):Prop where
 k:K2 r q W0 w
 b1:∃c,c.size=C1.size/\Am T1 w r c/\(listed.getD s1 false=true->c=C1)
 b2:∃c,c.size=C2.size/\Am T2 w q c/\(listed.getD s2 false=true->c=C2)
 sz:listed.getD sA false=false->w.heap.size=W0.heap.size
 big:sA<listed.size
section
variable {W0 w w':World} {r s1 q s2 sA:Nat} {T1 T2:TypeId} {C1 C2:Array Value} {listed:Array Bool} {σ τ:Nat->Value}
theorem G2.start {n:Nat} {c1 c2:Array Value} (h1:Am T1 w r c1) (z1:c1.size=C1.size) (h2:Am T2 w q c2) (z2:c2.size=C2.size) (hb:Below W0.heap.size W0 w) (hz:w.heap.size=W0.heap.size) (hn:sA<n):G2 W0 r s1 T1 C1 q s2 T2 C2 sA (Array.replicate n false) σ w:=
 ⟨K2.of_below hb,⟨c1,z1,h1,fun h=>by rw[BH]at h;cases h⟩,⟨c2,z2,h2,fun h=>by rw[BH]at h;cases h⟩,fun _=>hz,by simpa using hn⟩
theorem G2.next {i:Nat} (h:G2 W0 r s1 T1 C1 q s2 T2 C2 sA listed σ w) (hb:Below w.heap.size w w') (h1:i≠s1) (h2:i≠s2) (hz:i=sA\/w'.heap.size=w.heap.size):G2 W0 r s1 T1 C1 q s2 T2 C2 sA (listed.setIfInBounds i true) τ w':=by
 refine ⟨h.k.trans (K2.of_below hb),?_,?_,fun hl=>?_,by simpa using h.big⟩
 · obtain ⟨c,z,b,e⟩:=h.b1;exact ⟨c,z,b.next hb,fun hl=>e (by rw[getD_set_ne false h1]at hl;exact hl)⟩
 · obtain ⟨c,z,b,e⟩:=h.b2;exact ⟨c,z,b.next hb,fun hl=>e (by rw[getD_set_ne false h2]at hl;exact hl)⟩
 · by_cases hi:i=sA
   · subst hi;exfalso;have:=h.big;simp[Array.getD,this]at hl
   · rcases hz with hz|hz
     · exact absurd hz hi
     · rw[hz];exact h.sz (by rw[getD_set_ne false hi]at hl;exact hl)
theorem G2.st1 (h:G2 W0 r s1 T1 C1 q s2 T2 C2 sA listed σ w) (hrq:r≠q) (h12:s1≠s2) (h1A:s1≠sA) (x:Am T1 w' r C1) (ho:Ai r w w') (hz:w'.heap.size=w.heap.size):K2 r q w w'/\G2 W0 r s1 T1 C1 q s2 T2 C2 sA (listed.setIfInBounds s1 true) τ w':=by
 refine ⟨K2.fst ho,h.k.trans (K2.fst ho),⟨C1,rfl,x,fun _=>rfl⟩,?_,fun hl=>?_,by simpa using h.big⟩
 · obtain ⟨c,z,b,e⟩:=h.b2;exact ⟨c,z,b.other ho (Ne.symm hrq),fun hl=>e (by rw[getD_set_ne false h12]at hl;exact hl)⟩
 · rw[hz];exact h.sz (by rw[getD_set_ne false h1A]at hl;exact hl)
theorem G2.st2 (h:G2 W0 r s1 T1 C1 q s2 T2 C2 sA listed σ w) (hrq:r≠q) (h12:s1≠s2) (h2A:s2≠sA) (x:Am T2 w' q C2) (ho:Ai q w w') (hz:w'.heap.size=w.heap.size):K2 r q w w'/\G2 W0 r s1 T1 C1 q s2 T2 C2 sA (listed.setIfInBounds s2 true) τ w':=by
 refine ⟨K2.snd ho,h.k.trans (K2.snd ho),?_,⟨C2,rfl,x,fun _=>rfl⟩,fun hl=>?_,by simpa using h.big⟩
 · obtain ⟨c,z,b,e⟩:=h.b1;exact ⟨c,z,b.other ho hrq,fun hl=>e (by rw[getD_set_ne false (Ne.symm h12)]at hl;exact hl)⟩
 · rw[hz];exact h.sz (by rw[getD_set_ne false h2A]at hl;exact hl)
end
theorem Does.store_boxE {P:Program} {w:World} {o:Oper} {a:Act} {T:TypeId} {x y g:Nat} {cells old:Array Value} {R:Value->World->Prop} (ho:o.op=.store T (.tmp x) (.tmp y)) (hx:a.tmps.getD x undef=.pointer (some ⟨g,0,none⟩)) (hy:a.tmps.getD y undef=.agg cells) (hb:Am T w g old)
  (hi:(P.info? T).map (·.size)=some cells.size) (hold:old.size=cells.size) (h1:cells.all (·.oneCell')=true) (hR:∀w',Am T w' g cells->Ai g w w'->w'.heap.size=w.heap.size->R undef w'):Does P a o w R:=by
 refine Does.skip (w':=w.setRow g cells) ?_ (hR _ (setRow_heap w g old cells _ _ hb) (Ft w g _) (by simp[World.setRow]));unfold execOp;have hx':a.eval (.tmp x)=.pointer (some ⟨g,0,none⟩):=hx;have hy':a.eval (.tmp y)=.agg cells:=hy;simp only[ho,hx',hy',Instr.storeAt,Instr.sureAddr,Sem.run_bind,Sem.run_pure,Result.andThen_ok,run_storeVar_row w g T T old cells hb hi hold h1]
end
end Go.Proofs.YtgohmojcopajoaaGreatDoor
namespace Go.Proofs.YtgohmojcopajoaaGreatDoor.Nu
section
open Go.RowKit
def Jv (w:World) (A A':Option Addr) (n m N:Nat):Prop:=m=(Limb.canon N).length/\m<=n/\Nums w A' m (Limb.canon N)/\(A'=A\/A'=none)
def MN (A:Option Addr) (n N:Nat) (w:World) (e:Ending) (w':World):Prop:=∃A' m,e=.returned (.slice A' m m)/\Jv w A A' n m N/\w=w'
theorem Jw (w:World) (A:Option Addr) (xs:List Nat) (n:Nat) (hx:Nums w A n xs) (hz:∀j,0<=j->j<n->xs.getD j 0=0):Jv w A none n 0 (Limb.val xs):=by have hc:=Limb.canon_take xs hx.ok 0 (Nat.zero_le _) (fun i _ hi=>hz i (Nat.zero_le _) (by rw[<-hx.len];exact hi)) (fun h=>absurd h (by omega));rw[List.take_zero]at hc;unfold Jv;rw[hc];exact ⟨rfl,Nat.zero_le _,Nums.nil _ _,.inr rfl⟩
theorem Jx (w:World) (A:Option Addr) (xs:List Nat) (n k:Nat) (hk:k<=n) (hx:Nums w A n xs) (hz:∀j,k<=j->j<n->xs.getD j 0=0) (_h0:k≠0) (hnz:xs.getD (k-1) 0≠0):Jv w A A n k (Limb.val xs):=by have hl:=hx.len;have hc:=Limb.canon_take xs hx.ok k (by omega) (fun i h1 h2=>hz i h1 (by omega)) (fun _=>hnz);unfold Jv;rw[hc];exact ⟨by rw[List.length_take];omega,hk,hx.take hk,.inl rfl⟩
theorem Cj (A:Option Addr) (n c:Nat) (xs:List Nat) (w:World) (hx:Nums w A n xs) (hc:n<=c) (hm:c<=9223372036854775807) :
  Calls Tryz.prog 152 #[.slice A n c] w (MN A n (Limb.val xs) w):=by
 go_enter Tryz.func152,Tryz.ntmps152;go_wp2
 go_loop [3] (fun i=>∃k:Nat,k<=n/\i=.int .i64 k/\Hid (∀j,k<=j->j<n->xs.getD j 0=0)) (fun i=>(intOf i).toNat)
 case atStart=>exact ⟨n,Nat.le_refl _,rfl,fun j h1 h2=>by omega⟩
 case round=>
  obtain ⟨k,hk,rfl,HZ⟩:=hrel;by_cases h0:k=0
  · subst h0;go_wp2
    go_ret
    exact ⟨none,0,rfl,Jw w A xs n hx HZ.out,rfl⟩
  · obtain ⟨b,o,x,rfl,hx1,hx2,hcell⟩:=hx.at_ (i:=k-1) (by omega);have HX:=Lib.hid hx2;have HK:=Lib.hid h0;clear hx2;have hk1:1<=k:=(by omega);clear h0;by_cases hx0:x=0
    · have hb:((x:Int) != 0)=false:=(by simp[hx0]);have HX0:=Lib.hid hx0;clear hx0;go_wp2
      go_round
      case rel=>
       refine ⟨k-1,by omega,by go_num,fun j h1 h2=>?_⟩;by_cases hj:j=k-1
       · subst hj;rw[<-HX.out,HX0.out]
       · exact HZ.out j (by omega) h2
      case measure=>simp[intOf];omega
    · have hb:((x:Int) != 0)=true:=(by simp[hx0]);have HX0:=Lib.hid hx0;clear hx0;go_wp2
      go_ret
      exact ⟨_,k,rfl,Jx w _ xs n k hk hx HZ.out HK.out (by rw[<-HX.out];exact HX0.out),rfl⟩
def IG (A:Option Addr) (N:Nat):Option Addr:=if N=0 then none else A
def L (N:Nat):Nat:=(Limb.canon N).length
theorem Jy (A:Option Addr) {N:Nat} (h:N≠0):IG A N=A:=by unfold IG;rw[if_neg h]
theorem D7 (w:World) (A:Option Addr) (xs:List Nat) (n:Nat) (hx:Nums w A n xs):Jv w A (IG A (Limb.val xs)) n (L (Limb.val xs)) (Limb.val xs):=by
 have hl:(Limb.canon (Limb.val xs)).length<=n:=by have:=Limb.val_lt xs hx.ok;rw[hx.len]at this;exact Limb.canon_len_le _ _ this
 refine ⟨rfl,hl,?_,?_⟩
 · by_cases h0:Limb.val xs=0
   · rw[h0];exact Nums.nil _ _
   · rw[Jy A h0];have h1:=hx.take (k:=L (Limb.val xs)) hl;have h2:Limb.canon (Limb.val xs)=xs.take (L (Limb.val xs)):=by
      have e1:=Limb.canon_eq_fixed xs.length (Limb.val xs) (Limb.val_lt xs hx.ok);rw[Limb.fixed_of_val xs hx.ok]at e1;exact e1
     rw[h2];exact h1
 · by_cases h0:Limb.val xs=0
   · rw[h0];exact .inr rfl
   · rw[Jy A h0];exact .inl rfl
def EA (A:Option Addr) (N:Nat) (w:World) (e:Ending) (w':World):Prop:=e=.returned (.slice (IG A N) (L N) (L N))/\w=w'
theorem DN (A:Option Addr) (n c:Nat) (xs:List Nat) (w:World) (hx:Nums w A n xs) (hc:n<=c) (hm:c<=9223372036854775807) :
  Calls Tryz.prog 152 #[.slice A n c] w (EA A (Limb.val xs) w):=by
 have HI:=Aa (D7 w A xs n hx);go_enter Tryz.func152,Tryz.ntmps152;go_wp2
 go_loop [3] (fun i=>∃k:Nat,k<=n/\i=.int .i64 k/\Hid (∀j,k<=j->j<n->xs.getD j 0=0)) (fun i=>(intOf i).toNat)
 case atStart=>exact ⟨n,Nat.le_refl _,rfl,fun j h1 h2=>by omega⟩
 case round=>
  obtain ⟨k,hk,rfl,HZ⟩:=hrel;by_cases h0:k=0
  · subst h0;go_wp2
    go_ret
    have hv:Limb.val xs=0:=by have:=(Jw w A xs n hx HZ.out).1;exact (Limb.canon_len_zero _).1 this.symm
    exact ⟨by rw[hv];rfl,rfl⟩
  · obtain ⟨b,o,x,rfl,hx1,hx2,hcell⟩:=hx.at_ (i:=k-1) (by omega);have HX:=Lib.hid hx2;have HK:=Lib.hid h0;clear hx2;have hk1:1<=k:=(by omega);clear h0;by_cases hx0:x=0
    · have hb:((x:Int) != 0)=false:=(by simp[hx0]);have HX0:=Lib.hid hx0;clear hx0;go_wp2
      go_round
      case rel=>
       refine ⟨k-1,by omega,by go_num,fun j h1 h2=>?_⟩;by_cases hj:j=k-1
       · subst hj;rw[<-HX.out,HX0.out]
       · exact HZ.out j (by omega) h2
      case measure=>simp[intOf];omega
    · have hb:((x:Int) != 0)=true:=(by simp[hx0]);have HX0:=Lib.hid hx0;clear hx0;have hk2:=(Jx w _ xs n k hk hx HZ.out HK.out (by rw[<-HX.out];exact HX0.out)).1;have hv:Limb.val xs≠0:=by
       intro hv;rw[hv]at hk2;exact HK.out hk2
      have HK2:=Lib.hid hk2;have HV:=Aa hv;clear hk2 hv;go_wp2
      go_ret
      refine ⟨?_,rfl⟩;have hl:L (Limb.val xs)=k:=HK2.out.symm;rw[Jy _ HV.out,hl];rfl
theorem LS (a:Int) (w:World):Calls Tryz.prog 190 #[.int .i64 a] w fun e w'=>e=.returned (.bool false)/\w=w':=by
 go_enter Tryz.func190,Tryz.ntmps190;go_wp2
 go_ret
 exact ⟨by simp,rfl⟩
theorem LU (a:Int) (w:World):Calls Tryz.prog 195 #[.int .u32 a] w fun e w'=>e=.returned (.bool false)/\w=w':=by
 go_enter Tryz.func195,Tryz.ntmps195;go_wp2
 go_ret
 exact ⟨by simp,rfl⟩
def Cn (a b:Int):Int:=if a<b then -1 else if b<a then 1 else 0
def PO (a b:Int) (w:World) (e:Ending) (w':World):Prop:=e=.returned (.int .i64 (Cn a b))/\w=w'
theorem MO (a b:Int) (w:World):Calls Tryz.prog 177 #[.int .i64 a,.int .i64 b] w (PO a b w):=by
 rcases Int.lt_trichotomy a b with h|h|h
 · have hfin:Cn a b=-1:=(by simp[Cn,h]);have HF:=Lib.hid hfin;clear hfin;go_enter Tryz.func177,Tryz.ntmps177;go_wp2_with (go_at_call 190;refine (LS _ _).mono ?_;rintro e w' ⟨rfl,rfl⟩);go_ret
   exact ⟨by rw[HF.out];rfl,rfl⟩
 · subst h;have hfin:Cn a a=0:=(by simp[Cn]);have HF:=Lib.hid hfin;clear hfin;go_enter Tryz.func177,Tryz.ntmps177;go_wp2_with (go_at_call 190;refine (LS _ _).mono ?_;rintro e w' ⟨rfl,rfl⟩);go_ret
   exact ⟨by rw[HF.out];rfl,rfl⟩
 · have hfin:Cn a b=1:=(by simp[Cn,h];omega);have HF:=Lib.hid hfin;clear hfin;have h2:¬a<b:=(by omega);go_enter Tryz.func177,Tryz.ntmps177;go_wp2_with (go_at_call 190;refine (LS _ _).mono ?_;rintro e w' ⟨rfl,rfl⟩);go_ret
   exact ⟨by rw[HF.out];rfl,rfl⟩
theorem MP (a b:Int) (w:World):Calls Tryz.prog 182 #[.int .u32 a,.int .u32 b] w (PO a b w):=by
 rcases Int.lt_trichotomy a b with h|h|h
 · have hfin:Cn a b=-1:=(by simp[Cn,h]);have HF:=Lib.hid hfin;clear hfin;go_enter Tryz.func182,Tryz.ntmps182;go_wp2_with (go_at_call 195;refine (LU _ _).mono ?_;rintro e w' ⟨rfl,rfl⟩);go_ret
   exact ⟨by rw[HF.out];rfl,rfl⟩
 · subst h;have hfin:Cn a a=0:=(by simp[Cn]);have HF:=Lib.hid hfin;clear hfin;go_enter Tryz.func182,Tryz.ntmps182;go_wp2_with (go_at_call 195;refine (LU _ _).mono ?_;rintro e w' ⟨rfl,rfl⟩);go_ret
   exact ⟨by rw[HF.out];rfl,rfl⟩
 · have hfin:Cn a b=1:=(by simp[Cn,h];omega);have HF:=Lib.hid hfin;clear hfin;have h2:¬a<b:=(by omega);go_enter Tryz.func182,Tryz.ntmps182;go_wp2_with (go_at_call 195;refine (LU _ _).mono ?_;rintro e w' ⟨rfl,rfl⟩);go_ret
   exact ⟨by rw[HF.out];rfl,rfl⟩
end
section
open Go.RowKit
def FH (a b:Nat):Int:=Cn (a:Int) (b:Int)
theorem PP {a b:Nat} (h:a<b):FH a b<0:=by unfold FH Cn;rw[if_pos (by omega)];omega
theorem PQ {a b:Nat} (h:b<=a):0<=FH a b:=by unfold FH Cn;rw[if_neg (by omega)];split<;>omega
def SK (a b:Nat) (w:World) (e:Ending) (w':World):Prop:=e=.returned (.int .i64 (FH a b))/\∃k,w'=w.drewN k
theorem SL (a b:Nat) (h:(Limb.canon a).length≠(Limb.canon b).length):Cn ((Limb.canon a).length:Int) ((Limb.canon b).length:Int)=FH a b:=by
 unfold FH Cn;rcases Nat.lt_or_gt_of_ne h with h1|h1
 · have:=Limb.lt_of_len h1;rw[if_pos (by omega),if_pos (by omega)]
 · have:=Limb.lt_of_len h1;rw[if_neg (by omega),if_pos (by omega),if_neg (by omega),if_pos (by omega)]
theorem SN (a b i:Nat) (hl:(Limb.canon a).length=(Limb.canon b).length) (hi:i<(Limb.canon a).length) (hd:(Limb.canon a).drop (i+1)=(Limb.canon b).drop (i+1))
   (h:(Limb.canon a).getD i 0≠(Limb.canon b).getD i 0):Cn (((Limb.canon a).getD i 0:Nat):Int) (((Limb.canon b).getD i 0:Nat):Int)=FH a b:=by
 unfold FH Cn;rcases Nat.lt_or_gt_of_ne h with h1|h1
 · have:=Limb.lt_of_top _ _ (Limb.ok_canon a) i hl hi hd h1;rw[Limb.val_canon,Limb.val_canon]at this;rw[if_pos (by omega),if_pos (by omega)]
 · have:=Limb.lt_of_top _ _ (Limb.ok_canon b) i hl.symm (by omega) hd.symm h1;rw[Limb.val_canon,Limb.val_canon]at this;rw[if_neg (by omega),if_pos (by omega),if_neg (by omega),if_pos (by omega)]
theorem QG (a b:Nat) (hl:(Limb.canon a).length=(Limb.canon b).length) (hd:(Limb.canon a).drop 0=(Limb.canon b).drop 0):FH a b=0:=by have:a=b:=Limb.canon_inj (by simpa using hd);subst this;simp[FH,Cn]
theorem PR (A B:Option Addr) (n c m d:Nat) (xs ys:List Nat) (w:World) (hx:Nums w A n xs) (hc:n<=c) (hm:c<=9223372036854775807) (hy:Nums w B m ys) (hd:m<=d) (hmd:d<=9223372036854775807) :
   Calls Tryz.prog 161 #[.slice A n c,.slice B m d] w (SK (Limb.val xs) (Limb.val ys) w):=by
 generalize ha:Limb.val xs=a;generalize hb:Limb.val ys=b;have HA:=Lib.hid ha;have HB:=Lib.hid hb;clear ha hb;go_enter Tryz.func161,Tryz.ntmps161;go_wp2_with fail;refine (Cj A n c xs w hx hc hm).mono ?_;rintro e w' ⟨A1,n1,rfl,hcut1,rfl⟩;rw[HA.out]at hcut1;go_wp2_with fail;refine (Cj B m d ys w hy hd hmd).mono ?_;rintro e w' ⟨B1,m1,rfl,hcut2,rfl⟩;rw[HB.out]at hcut2;clear hx hy HA HB;obtain ⟨hn1,hn2,hx1,_⟩:=hcut1;obtain ⟨hm1,hm2,hy1,_⟩:=hcut2;have HN:=Lib.hid hn1
 have HM:=Lib.hid hm1;clear hn1 hm1;have hle1:n1<=9223372036854775807:=by omega
 have hle2:m1<=9223372036854775807:=by omega
 clear hc hm hd hmd hn2 hm2;by_cases hl:n1=m1
 · subst hl;have h0:((n1:Int) != (n1:Int))=false:=(by simp);go_wp2_with fail;go_loopw [5] (fun i wr=>∃k:Nat,k<=n1/\i=.int .i64 ((k:Int)-1)/\(∃q,wr=w.drewN q)/\Hid ((Limb.canon a).drop k=(Limb.canon b).drop k)) (fun i _=>((intOf i)+1).toNat)
   case atStart=>exact ⟨n1,Nat.le_refl _,rfl,⟨0,rfl⟩,by
    show _=_;rw[List.drop_of_length_le (by rw[<-HN.out];exact Nat.le_refl _),List.drop_of_length_le (by rw[<-HM.out];exact Nat.le_refl _)]⟩
   case round=>
    obtain ⟨k,hk,rfl,⟨q,rfl⟩,HD⟩:=hrel;by_cases hk0:k=0
    · subst hk0;go_wp2_with fail;go_ret
      refine ⟨?_,q,rfl⟩;rw[QG a b (by rw[<-HN.out,<-HM.out]) HD.out];rfl
    · have hk1:1<=k:=(by omega);obtain ⟨b1,o1,x,rfl,hxb,hxe,hxc⟩:=hx1.at_ (i:=k-1) (by omega);obtain ⟨b2,o2,y,rfl,hyb,hye,hyc⟩:=hy1.at_ (i:=k-1) (by omega);have HX:=Lib.hid hxe;have HY:=Lib.hid hye;have HK:=Lib.hid hk0;clear hxe hye hk0;by_cases hxy:x=y
      · have h1:((x:Int) != (y:Int))=false:=(by simp[hxy]);have HXY:=Lib.hid hxy;clear hxy;go_wp2_with fail;go_quiet (fail)
        go_wp2_with fail;go_roundw
        case rel=> refine ⟨k-1,by omega,by go_num,⟨_,rfl⟩,?_⟩;have e1:k-1+1=k:=(by omega);exact Limb.drop_eq_step _ _ (k-1) (by rw[<-HN.out,<-HM.out]) (by rw[<-HN.out];omega) (by rw[e1];exact HD.out) (by rw[<-HX.out,<-HY.out];exact HXY.out)
        case measure=>simp[intOf];omega
      · have h1:((x:Int) != (y:Int))=true:=(by simp;omega);have HXY:=Lib.hid hxy;clear hxy;go_wp2_with fail;go_quiet (fail)
        go_wp2_with fail;go_quiet ((go_at_call 182;exact FK (MP _ _ _)))
        go_wp2_with fail;go_ret
        refine ⟨?_,by simp only[World.drewN_drewN];exact ⟨_,rfl⟩⟩;have e1:k-1+1=k:=(by omega);have e:=SN a b (k-1) (by rw[<-HN.out,<-HM.out]) (by rw[<-HN.out];omega) (by rw[e1];exact HD.out) (by rw[<-HX.out,<-HY.out];exact HXY.out);rw[<-HX.out,<-HY.out]at e;rw[<-e];rfl
 · have h0:((n1:Int) != (m1:Int))=true:=(by simp;omega);have HL:=Lib.hid hl;clear hl;go_wp2_with (go_at_call 177;refine (MO _ _ _).mono ?_;rintro e w' ⟨rfl,rfl⟩);go_ret
   refine ⟨?_,0,rfl⟩;have e:=SL a b (by rw[<-HN.out,<-HM.out];exact HL.out);rw[<-e,HN.out,HM.out];rfl
end
section
open Go.RowKit
theorem YF (n:Nat) (h:n<4294967296):n/2147483648=(n.testBit 31).toNat:=by
 rw[Nat.testBit_eq_decide_div_mod_eq];show n/2147483648=(decide (n/2147483648%2=1)).toNat;have h1:n/2147483648<2:=by omega
 by_cases h2:n/2147483648=1
 · rw[h2];rfl
 · have:n/2147483648=0:=by omega
   rw[this];rfl
theorem Jz (n:Nat) (h:n<4294967296):n.testBit 31=decide (2147483648<=n):=by rw[Nat.testBit_eq_decide_div_mod_eq];show decide (n/2147483648%2=1)=_;rw[decide_eq_decide];omega
theorem Xs:Nat.testBit 4294967295 31=true:=by decide
theorem UP (x y z d:Nat) (hx:x<4294967296) (hy:y<4294967296) (hz:z<=1) (hd:d<4294967296) (e:(d+y+z)%4294967296=x) :
  ((4294967295 ^^^ x) &&& y ||| (4294967295 ^^^ (x ^^^ y)) &&& d)/2147483648=if x<y+z then 1 else 0:=by
 have l1:4294967295 ^^^ x<2^32:=Nat.xor_lt_two_pow (by omega) (by omega);have l2:x ^^^ y<2^32:=Nat.xor_lt_two_pow (by omega) (by omega);have l3:4294967295 ^^^ (x ^^^ y)<2^32:=Nat.xor_lt_two_pow (by omega) l2;have l4:(4294967295 ^^^ x) &&& y<2^32:=Nat.and_lt_two_pow _ (by omega);have l5:(4294967295 ^^^ (x ^^^ y)) &&& d<2^32:=Nat.and_lt_two_pow _ (by omega);have l6:(4294967295 ^^^ x) &&& y ||| (4294967295 ^^^ (x ^^^ y)) &&& d<2^32:=Nat.or_lt_two_pow l4 l5
 rw[YF _ l6];simp only[Nat.testBit_or,Nat.testBit_and,Nat.testBit_xor,Xs,Jz x hx,Jz y hy,Jz d hd];by_cases h1:2147483648<=x<;>by_cases h2:2147483648<=y<;>by_cases h3:2147483648<=d<;>simp only[h1,h2,h3,decide_true,decide_false,Bool.true_bne,Bool.false_bne,Bool.not_true,Bool.not_false,Bool.and_true,Bool.and_false,Bool.or_true,Bool.or_false,Bool.toNat_true,Bool.toNat_false]<;>split<;>omega
theorem SO (x y z:Nat) (hx:x<4294967296) (hy:y<4294967296) (hz:z<=1) :
  bits BinOp.or IntKind.u32 (bits BinOp.and IntKind.u32 (bits BinOp.xor IntKind.u32 IntKind.u32.max x) y)
   (bits BinOp.and IntKind.u32 (bits BinOp.xor IntKind.u32 IntKind.u32.max (bits BinOp.xor IntKind.u32 x y)) (((x:Int)-y-z)%4294967296))/2147483648=((if x<y+z then 1 else 0:Nat):Int):=by
 obtain ⟨d,hd⟩:∃d:Nat,((x:Int)-y-z)%4294967296=(d:Int):=⟨(((x:Int)-y-z)%4294967296).toNat,by omega⟩;have hd1:d<4294967296:=by omega
 have hd2:(d+y+z)%4294967296=x:=by omega
 rw[hd];have em:(IntKind.u32.max:Int)=((4294967295:Nat):Int):=rfl;have l1:4294967295 ^^^ x<2^32:=Nat.xor_lt_two_pow (by omega) (by omega);have l2:x ^^^ y<2^32:=Nat.xor_lt_two_pow (by omega) (by omega);have l3:4294967295 ^^^ (x ^^^ y)<2^32:=Nat.xor_lt_two_pow (by omega) l2;have l4:(4294967295 ^^^ x) &&& y<2^32:=Nat.and_lt_two_pow _ (by omega);have l5:(4294967295 ^^^ (x ^^^ y)) &&& d<2^32:=Nat.and_lt_two_pow _ (by omega)
 rw[em,u32_xor_nat _ _ (by omega) hx,u32_xor_nat _ _ hx hy,u32_xor_nat _ _ (by omega) l2,u32_and_nat _ _ l1 hy,u32_and_nat _ _ l3 hd1,u32_or_nat _ _ l4 l5];have:=UP x y z d hx hy hz hd1 hd2;omega
def QH (x y z:Nat) (w:World) (e:Ending) (w':World):Prop:=
 ∃s c:Nat,e=.returned (.tuple #[.int .u32 (s:Int),.int .u32 (c:Int)])/\s<4294967296/\c<=1/\Hid (s+4294967296*c=x+y+z)/\w=w'
theorem KZ (x y z:Nat) (w:World) (hx:x<4294967296) (hy:y<4294967296) (hz:z<=1) :
  Calls Tryz.prog 181 #[.int .u32 (x:Int),.int .u32 (y:Int),.int .u32 (z:Int)] w (QH x y z w):=by
 go_enter Tryz.func181,Tryz.ntmps181;go_wp2_with fail;go_ret2
 refine ⟨(x+y+z)%4294967296,(x+y+z)/4294967296,?_,by omega,by omega,by show _=_;omega,rfl⟩;have e1:((((x+y+z)%4294967296:Nat)):Int)=((x:Int)+(y:Int)+(z:Int))%4294967296:=by omega
 have e2:((((x+y+z)/4294967296:Nat)):Int)=((x:Int)+(y:Int)+(z:Int))/4294967296:=by omega
 rw[e1,e2];rfl
def QI (x y z:Nat) (w:World) (e:Ending) (w':World):Prop:=
 ∃s c:Nat,e=.returned (.tuple #[.int .u32 (s:Int),.int .u32 (c:Int)])/\s<4294967296/\c<=1/\Hid (s+y+z=x+4294967296*c)/\w=w'
theorem La (x y z:Nat) (w:World) (hx:x<4294967296) (hy:y<4294967296) (hz:z<=1) :
   Calls Tryz.prog 183 #[.int .u32 (x:Int),.int .u32 (y:Int),.int .u32 (z:Int)] w (QI x y z w):=by
 go_enter Tryz.func183,Tryz.ntmps183;go_wp2_with fail;go_ret2
 refine ⟨((x:Int)-y-z).toNat%4294967296+(if x<y+z then x+4294967296-y-z else 0),if x<y+z then 1 else 0,?_,?_,?_,?_,rfl⟩
 · have hb:=SO x y z hx hy hz;have e1:(((((x:Int)-y-z).toNat%4294967296+(if x<y+z then x+4294967296-y-z else 0):Nat)):Int)=((x:Int)-(y:Int)-(z:Int))%4294967296:=(by split<;>omega);rw[e1,<-hb];rfl
 · split<;>omega
 · split<;>omega
 · show _=_;split<;>omega
def put (zs:List Nat) (o:Nat) (ws:List Nat):List Nat:=zs.take o++(ws++zs.drop (o+ws.length))
theorem Bo (zs:List Nat) (o:Nat) (ws:List Nat) (h:o+ws.length<=zs.length):(put zs o ws).length=zs.length:=by simp[put];omega
theorem Fw {zs:List Nat} (hz:Limb.Ok zs) (o:Nat) {ws:List Nat} (hw:Limb.Ok ws):Limb.Ok (put zs o ws):=(hz.take o).append (hw.append (hz.drop _))
theorem J0 (zs:List Nat) (o:Nat) (ws:List Nat) (h:o+ws.length<=zs.length) (i:Nat) (hi:i<ws.length):(put zs o ws).getD (o+i) 0=ws.getD i 0:=by
 unfold put;have hl:(zs.take o).length=o:=by rw[List.length_take];omega
 rw[List.getD_eq_getElem?_getD,List.getElem?_append_right (by omega),hl,List.getElem?_append_left (by omega),List.getD_eq_getElem?_getD];have:o+i-o=i:=by omega
 rw[this]
theorem LV (zs:List Nat) (o:Nat) (ws:List Nat) (h:o+ws.length<=zs.length) (i v:Nat) (hi:i<ws.length):(put zs o ws).set (o+i) v=put zs o (ws.set i v):=by
 unfold put;have hl:(zs.take o).length=o:=by rw[List.length_take];omega
 rw[List.set_append_right _ _ (by omega),hl,List.set_append_left _ _ (by omega),List.length_set];have:o+i-o=i:=by omega
 rw[this]
theorem J1 (zs:List Nat) (o n:Nat) (h:o+n<=zs.length):put zs o ((zs.drop o).take n)=zs:=by
 unfold put;have hl:((zs.drop o).take n).length=n:=by rw[List.length_take,List.length_drop];omega
 rw[hl,<-List.drop_drop,List.take_append_drop,List.take_append_drop]
def win (zs:List Nat) (o n:Nat):List Nat:=(zs.drop o).take n
theorem win_length (zs:List Nat) (o n:Nat) (h:o+n<=zs.length):(win zs o n).length=n:=by unfold win;rw[List.length_take,List.length_drop];omega
theorem Ot {zs:List Nat} (h:Limb.Ok zs) (o n:Nat):Limb.Ok (win zs o n):=(h.drop o).take n
def Ai (g:Nat) (w w':World):Prop:=w.grownBy w' (some g)
theorem Ai.refl (g:Nat) (w:World):Ai g w w:=World.grownBy.refl w _
theorem Ai.gb {g:Nat} {w w':World} (h:Ai g w w'):w.grownBy w' (some g):=h
theorem Ai.trans {g:Nat} {a b c:World} (h:Ai g a b) (k:Ai g b c):Ai g a c:=
 ⟨k.os.trans h.os,k.tape.trans h.tape,k.output.trans h.output,Nat.le_trans h.size k.size,fun i hi hne=>(k.block i (Nat.lt_of_lt_of_le hi h.size) hne).trans (h.block i hi hne)⟩
theorem Ai.setCell {g:Nat} {a w:World} (h:Ai g a w) (i:Nat) (u:Value):Ai g a (w.setCell ⟨g,i,none⟩ u):=
 ⟨h.os,h.tape,h.output,by simpa[World.setCell] using h.size,fun k hk hne=>(Below.heap_setCell w ⟨g,i,none⟩ u k (fun hh=>hne (by rw[hh]))).trans (h.block k hk hne)⟩
theorem Ai.below {g B:Nat} {a w:World} (h:Ai g a w) (hB:B<=a.heap.size) (hg:B<=g):Below B a w:=
 ⟨h.os,h.tape,h.output,h.size,fun k hk=>h.block k (by omega) (fun hh=>by injection hh with hh;omega)⟩
def PS (g o n:Nat) (zs:List Nat) (N:Nat) (w:World) (e:Ending) (w':World):Prop:=
 e=.returned (.tuple #[])/\Row w' g (put zs o (Limb.fixed n N))/\Ai g w w'
def EK (g o n:Nat) (zs ys:List Nat) (w:World) (k c:Nat) (wr:World):Prop:=
 ∃cur:List Nat,cur.length=n/\Limb.Ok cur/\Row wr g (put zs o cur)/\Ai g w wr/\Limb.val cur+4294967296^k*c=Limb.val (win zs o n)+Limb.val (ys.take k)
theorem EK.start (g o n:Nat) (zs ys:List Nat) (w:World) (hz:Limb.Ok zs) (hr:Row w g zs) (hn:o+n<=zs.length):EK g o n zs ys w 0 0 w:=
 ⟨win zs o n,win_length zs o n hn,Ot hz o n,by unfold win;rw[J1 zs o n hn];exact hr,Ai.refl g w,by simp[Limb.val]⟩
theorem EK.at_ {g o n:Nat} {zs ys:List Nat} {w:World} {k c:Nat} {wr:World} (h:EK g o n zs ys w k c wr) (hn:o+n<=zs.length) (hk:k<n) :
   ∃z:Nat,z<4294967296/\wr.cell? ⟨g,o+k,none⟩=some (.int .u32 (z:Int))/\wr.frozen? ⟨g,o+k,none⟩=false /\
     ∀x s c':Nat,s<4294967296->s+4294967296*c'=z+x+c->(k<ys.length->x=ys.getD k 0)->(ys.length<=k->x=0) ->
       EK g o n zs ys w (k+1) c' (wr.setCell ⟨g,o+k,none⟩ (.int .u32 (s:Int))):=by
 obtain ⟨cur,hl,ho,hr,hon,hv⟩:=h;have hfit:o+cur.length<=zs.length:=by omega
 refine ⟨cur.getD k 0,ho.getD k,?_,hr.frozen _,fun x s c' hs he hx1 hx2=>?_⟩
 · rw[hr.cell (i:=o+k) (by rw[Bo _ _ _ hfit];omega),J0 zs o cur hfit k (by omega)]
 · refine ⟨cur.set k s,by simp[hl],ho.set k s hs,?_,hon.setCell _ _,?_⟩
   · rw[<-LV zs o cur hfit k s (by omega)];exact hr.set_ _ _
   · rw[Limb.step_set cur k s x c c' (by omega) _ hv he];by_cases hy:k<ys.length
     · rw[Limb.val_take_succ ys k hy,hx1 hy];omega
     · rw[hx2 (by omega),List.take_of_length_le (by omega),List.take_of_length_le (by omega)];omega
theorem EK.done {g o n:Nat} {zs ys:List Nat} {w:World} {k c:Nat} {wr:World} (h:EK g o n zs ys w k c wr) (hy:ys.length<=k) (hc:c=0\/k=n) :
  Row wr g (put zs o (Limb.fixed n (Limb.val (win zs o n)+Limb.val ys)))/\Ai g w wr:=by
 obtain ⟨cur,hl,ho,hr,hon,hv⟩:=h;refine ⟨?_,hon⟩;rw[List.take_of_length_le hy]at hv;have e:cur=Limb.fixed n (Limb.val (win zs o n)+Limb.val ys):=by
  rcases hc with rfl|rfl
  · exact Limb.eq_fixed n _ 0 ho hl (by rw[<-hv];simp)
  · exact Limb.eq_fixed _ _ c ho hl hv
 rw[<-e];exact hr
theorem Ee (g o n c:Nat) (zs:List Nat) (B:Option Addr) (m d:Nat) (ys:List Nat) (w:World) (hr:Row w g zs) (hz:Limb.Ok zs) (hn:o+n<=zs.length) (hc:n<=4611686018427387904)
  (hy:Nums w B m ys) (hmn:m<=n) (hap:0<m->Apart B g) :
  Calls Tryz.prog 160 #[.slice (some ⟨g,o,none⟩) n c,.slice B m d] w (PS g o n zs (Limb.val (win zs o n)+Limb.val ys) w):=by
 have R:=Aa (EK.start g o n zs ys w hz hr hn);clear hr hz;go_enter Tryz.func160,Tryz.ntmps160;go_wp2_with fail;go_loopw [4,10] (fun c i wr=>∃k z:Nat,k<=m/\z<=1/\i=.int .i64 (k:Int)/\c=.int .u32 (z:Int)/\Hid (EK g o n zs ys w k z wr)) (fun _ i _=>m-(intOf i).toNat)
 case atStart=>exact ⟨0,0,Nat.zero_le _,Nat.zero_le _,rfl,rfl,R.out⟩
 case round=>
  clear R;obtain ⟨k,z,hk,hz1,rfl,rfl,R⟩:=hrel;by_cases hkm:k<m
  · obtain ⟨b1,o1,y,rfl,hyb,hye,hyc⟩:=hy.at_ hkm;have hap1:=hap (by omega);have hon:Ai g w wr:=(by obtain ⟨_,_,_,_,hon,_⟩:=R.out;exact hon);have hy2:=(hy.grown hon hap1).at_ hkm;obtain ⟨b2,o2,y2,hb2,hyb2,hye2,hyc2⟩:=hy2;obtain ⟨rfl,rfl⟩:b1=b2/\o1=o2:=(by simpa using hb2);obtain rfl:y=y2:=hye.trans hye2.symm;obtain ⟨zz,hzz,hcell,hfroz,hstep⟩:=R.out.at_ hn (by omega);have HY:=Lib.hid hye;have HS:=Aa hstep;clear hye hstep hye2 hyc hb2 hon hap hap1 hyb2
    go_wp2_with (go_at_call 181;refine (KZ _ _ _ _ (by omega) (by omega) (by omega)).mono ?_;rintro e w' ⟨s,c',rfl,hs,hc',HE,rfl⟩);go_roundw
    case rel=>exact ⟨k+1,c',by omega,hc',by go_num,rfl,HS.out y s c' hs HE.out (fun _=>HY.out) (fun h=>by have:=hy.len;omega)⟩
    case measure=>simp[intOf];omega
  · have hkm2:k=m:=(by omega);subst hkm2;clear hkm;go_wp2_with fail;go_loopw [4,7] (fun c i wr=>∃j z:Nat,k<=j/\j<=n/\z<=1/\i=.int .i64 (j:Int)/\c=.int .u32 (z:Int)/\Hid (EK g o n zs ys w j z wr)) (fun _ i _=>n-(intOf i).toNat)
    case atStart=>exact ⟨k,z,Nat.le_refl _,hmn,hz1,rfl,rfl,R⟩
    case round=>
     clear R;obtain ⟨j,z2,hkj,hj,hz2,rfl,rfl,R⟩:=hrel;have hyl:=hy.len;have HYL:=Lib.hid hyl;clear hyl;by_cases hz0:z2=0
     · have h0:((z2:Int) != 0)=false:=(by simp[hz0]);have HZ0:=Lib.hid hz0;clear hz0;go_wp2_with fail;go_end0
       exact ⟨rfl,R.out.done (by rw[HYL.out];exact hkj) (.inl HZ0.out)⟩
     · have h0:((z2:Int) != 0)=true:=(by simp;omega);have hz1:1<=z2:=(by omega);clear hz0;by_cases hjn:j<n
       · obtain ⟨zz,hzz,hcell,hfroz,hstep⟩:=R.out.at_ hn hjn;have HS:=Aa hstep;clear hstep;go_wp2_with (go_at_call 181;refine (KZ zz 0 z2 _ (by omega) (by omega) (by omega)).mono ?_;rintro e w' ⟨s,c',rfl,hs,hc',HE,rfl⟩);go_roundw
         case rel=>exact ⟨j+1,c',by omega,by omega,hc',by go_num,rfl,HS.out 0 s c' hs HE.out (fun h=>by have:=HYL.out;omega) (fun _=>rfl)⟩
         case measure=>simp[intOf];omega
       · go_wp2_with fail;go_end0
         exact ⟨rfl,R.out.done (by rw[HYL.out];exact hkj) (.inr (by omega))⟩
def DX (g o n:Nat) (zs ys:List Nat) (w:World) (k c:Nat) (wr:World):Prop:=
 ∃cur:List Nat,cur.length=n/\Limb.Ok cur/\Row wr g (put zs o cur)/\Ai g w wr/\Limb.val cur+Limb.val (ys.take k)=Limb.val (win zs o n)+4294967296^k*c
theorem DX.start (g o n:Nat) (zs ys:List Nat) (w:World) (hz:Limb.Ok zs) (hr:Row w g zs) (hn:o+n<=zs.length):DX g o n zs ys w 0 0 w:=
 ⟨win zs o n,win_length zs o n hn,Ot hz o n,by unfold win;rw[J1 zs o n hn];exact hr,Ai.refl g w,by simp[Limb.val]⟩
theorem DX.at_ {g o n:Nat} {zs ys:List Nat} {w:World} {k c:Nat} {wr:World} (h:DX g o n zs ys w k c wr) (hn:o+n<=zs.length) (hk:k<n) :
   ∃z:Nat,z<4294967296/\wr.cell? ⟨g,o+k,none⟩=some (.int .u32 (z:Int))/\wr.frozen? ⟨g,o+k,none⟩=false /\
     ∀x s c':Nat,s<4294967296->s+x+c=z+4294967296*c'->(k<ys.length->x=ys.getD k 0)->(ys.length<=k->x=0) ->
       DX g o n zs ys w (k+1) c' (wr.setCell ⟨g,o+k,none⟩ (.int .u32 (s:Int))):=by
 obtain ⟨cur,hl,ho,hr,hon,hv⟩:=h;have hfit:o+cur.length<=zs.length:=by omega
 refine ⟨cur.getD k 0,ho.getD k,?_,hr.frozen _,fun x s c' hs he hx1 hx2=>?_⟩
 · rw[hr.cell (i:=o+k) (by rw[Bo _ _ _ hfit];omega),J0 zs o cur hfit k (by omega)]
 · refine ⟨cur.set k s,by simp[hl],ho.set k s hs,?_,hon.setCell _ _,?_⟩
   · rw[<-LV zs o cur hfit k s (by omega)];exact hr.set_ _ _
   · rw[<-Limb.step_unset cur k s x c c' (by omega) _ _ hv he];by_cases hy:k<ys.length
     · rw[Limb.val_take_succ ys k hy,hx1 hy]
     · rw[hx2 (by omega),List.take_of_length_le (by omega),List.take_of_length_le (by omega)];omega
theorem DX.more {g o n:Nat} {zs ys:List Nat} {w:World} {k c:Nat} {wr:World} (h:DX g o n zs ys w k c wr) (hy:ys.length<=k) (hkn:k<=n) (hle:Limb.val ys<=Limb.val (win zs o n)) (hc:1<=c):k<n:=by obtain ⟨cur,hl,ho,hr,hon,hv⟩:=h;rw[List.take_of_length_le hy]at hv;apply Nat.lt_of_le_of_ne hkn;rintro rfl;have h1:=Limb.val_lt cur ho;rw[hl]at h1;have h2:4294967296^k*1<=4294967296^k*c:=Nat.mul_le_mul_left _ hc;omega
theorem DX.done {g o n:Nat} {zs ys:List Nat} {w:World} {k:Nat} {wr:World} (h:DX g o n zs ys w k 0 wr) (hy:ys.length<=k) :
  Row wr g (put zs o (Limb.fixed n (Limb.val (win zs o n)-Limb.val ys)))/\Ai g w wr:=by
 obtain ⟨cur,hl,ho,hr,hon,hv⟩:=h;refine ⟨?_,hon⟩;rw[List.take_of_length_le hy]at hv;have e:cur=Limb.fixed n (Limb.val (win zs o n)-Limb.val ys):=Limb.eq_fixed n _ 0 ho hl (by omega);rw[<-e];exact hr
theorem Fx (g o n c:Nat) (zs:List Nat) (B:Option Addr) (m d:Nat) (ys:List Nat) (w:World) (hr:Row w g zs) (hz:Limb.Ok zs) (hn:o+n<=zs.length) (hc:n<=4611686018427387904)
  (hy:Nums w B m ys) (hmn:m<=n) (hap:0<m->Apart B g) (hle:Limb.val ys<=Limb.val (win zs o n)) :
  Calls Tryz.prog 162 #[.slice (some ⟨g,o,none⟩) n c,.slice B m d] w (PS g o n zs (Limb.val (win zs o n)-Limb.val ys) w):=by
 have R:=Aa (DX.start g o n zs ys w hz hr hn);have HLE:=Aa hle;clear hr hz hle;go_enter Tryz.func162,Tryz.ntmps162;go_wp2_with fail;go_loopw [4,10] (fun c i wr=>∃k z:Nat,k<=m/\z<=1/\i=.int .i64 (k:Int)/\c=.int .u32 (z:Int)/\Hid (DX g o n zs ys w k z wr)) (fun _ i _=>m-(intOf i).toNat)
 case atStart=>exact ⟨0,0,Nat.zero_le _,Nat.zero_le _,rfl,rfl,R.out⟩
 case round=>
  clear R;obtain ⟨k,z,hk,hz1,rfl,rfl,R⟩:=hrel;by_cases hkm:k<m
  · obtain ⟨b1,o1,y,rfl,hyb,hye,hyc⟩:=hy.at_ hkm;have hap1:=hap (by omega);have hon:Ai g w wr:=(by obtain ⟨_,_,_,_,hon,_⟩:=R.out;exact hon);have hy2:=(hy.grown hon hap1).at_ hkm;obtain ⟨b2,o2,y2,hb2,hyb2,hye2,hyc2⟩:=hy2;obtain ⟨rfl,rfl⟩:b1=b2/\o1=o2:=(by simpa using hb2);obtain rfl:y=y2:=hye.trans hye2.symm;obtain ⟨zz,hzz,hcell,hfroz,hstep⟩:=R.out.at_ hn (by omega);have HY:=Lib.hid hye;have HS:=Aa hstep;clear hye hstep hye2 hyc hb2 hon hap hap1 hyb2
    go_wp2_with (go_at_call 183;refine (La _ _ _ _ (by omega) (by omega) (by omega)).mono ?_;rintro e w' ⟨s,c',rfl,hs,hc',HE,rfl⟩);go_roundw
    case rel=>exact ⟨k+1,c',by omega,hc',by go_num,rfl,HS.out y s c' hs HE.out (fun _=>HY.out) (fun h=>by have:=hy.len;omega)⟩
    case measure=>simp[intOf];omega
  · have hkm2:k=m:=(by omega);subst hkm2;clear hkm;go_wp2_with fail;go_loopw [4,7] (fun c i wr=>∃j z:Nat,k<=j/\j<=n/\z<=1/\i=.int .i64 (j:Int)/\c=.int .u32 (z:Int)/\Hid (DX g o n zs ys w j z wr)) (fun _ i _=>n-(intOf i).toNat)
    case atStart=>exact ⟨k,z,Nat.le_refl _,hmn,hz1,rfl,rfl,R⟩
    case round=>
     clear R;obtain ⟨j,z2,hkj,hj,hz2,rfl,rfl,R⟩:=hrel;have hyl:=hy.len;have HYL:=Lib.hid hyl;clear hyl;by_cases hz0:z2=0
     · subst hz0;go_wp2_with fail;go_end0
       exact ⟨rfl,R.out.done (by rw[HYL.out];exact hkj)⟩
     · have h0:((z2:Int) != 0)=true:=(by simp;omega);have hz1:1<=z2:=(by omega);clear hz0;have hjn:j<n:=R.out.more (by rw[HYL.out];exact hkj) hj HLE.out hz1;obtain ⟨zz,hzz,hcell,hfroz,hstep⟩:=R.out.at_ hn hjn;have HS:=Aa hstep;clear hstep;go_wp2_with (go_at_call 183;refine (La zz 0 z2 _ (by omega) (by omega) (by omega)).mono ?_;rintro e w' ⟨s,c',rfl,hs,hc',HE,rfl⟩);go_roundw
       case rel=>exact ⟨j+1,c',by omega,by omega,hc',by go_num,rfl,HS.out 0 s c' hs HE.out (fun h=>by have:=HYL.out;omega) (fun _=>rfl)⟩
       case measure=>simp[intOf];omega
theorem LW (A B:Option Addr) (c d:Nat) (w:World) :
  Calls Tryz.prog 162 #[.slice A 0 c,.slice B 0 d] w fun e w'=>e=.returned (.tuple #[])/\w=w':=by
 go_enter Tryz.func162,Tryz.ntmps162;go_wp2_with fail;refine wp_loop_rounds 1 ?_;rw[rounds_succ];go_wp2_with fail;refine wp_loop_rounds 1 ?_;rw[rounds_succ];go_wp2_with fail;go_end0
 exact ⟨rfl,rfl⟩
end
end Go.Proofs.YtgohmojcopajoaaGreatDoor.Nu
