/- Texts of one seat, put together: ZBox Late DivMath DivZ CeilZ ParseZ Region RegionZ. -/
import Derived.Test.YtgohmojcopajoaaGreatDoorH13
import Derived.Test.YtgohmojcopajoaaGreatDoorH12
import Derived.Test.YtgohmojcopajoaaGreatDoorH11
set_option linter.unusedVariables false
set_option linter.unusedSimpArgs false
set_option maxRecDepth 100000
set_option maxHeartbeats 16000000
namespace Go.Proofs.YtgohmojcopajoaaGreatDoor.Nu
section
open Go.RowKit
def XC (w:World) (L:List (Nat×Value×Value)) (W:World):Prop:=Below w.heap.size w W/\∀p∈L,CE W p.1 #[p.2.1,p.2.2]/\w.heap.size<=p.1
variable {w W W':World} {L:List (Nat×Value×Value)} {g:Nat} {a b:Value}
def YN (w:World) (B:Nat) (L:List (Nat×Value×Value)) (W:World):Prop:=XC w L W/\B<=W.heap.size/\w.heap.size<=B/\∀p∈L,p.1<B
variable {B:Nat}
def st2 (W:World) (g:Nat) (x y:Value):World:=(W.setCell ⟨g,0,none⟩ x).setCell ⟨g,1,none⟩ y
theorem AL.alloc {v:Value} {Z:Int} {k:Nat} (h:AL W v Z k) (o:Obj):AL (W.alloc o) v Z k:=h.below (Ae W o)
end
section
open Go.RowKit
section
variable {P:Program} {ops:Array Oper} {Q:Exit->Act->World->Prop} {md:Region.Mode} {S:World->Prop} {late:List Nat}
def Wn (P:Program) (md:Region.Mode) (ops:Array Oper) (Q:Exit->Act->World->Prop) (S:World->Prop) (late:List Nat):Nat->Array Bool->Act->World->Prop
 |0,listed,a,w=>Region.ready md ops listed=[]/\Q .normal a w
 |fuel+1,listed,a,w=>(Region.ready md ops listed=[]->Q .normal a w) /\
  ∀i∈Region.ready md ops listed,wpOp P ops Q i (fun a' w'=>(i ∉ late->S w')/\Wn P md ops Q S late fuel (listed.setIfInBounds i true) a' w') a w
def AQ (md:Region.Mode) (ops:Array Oper) (listed:Array Bool):Prop:=
 ∀k o,ops[k]?=some o->listed.getD k false=true->∀e∈o.after,Region.binds md e=true->listed.getD e.on false=true
def UN (md:Region.Mode) (ops:Array Oper) (late:List Nat) (i:Nat):Bool:=
 late.all fun j=>match ops[j]? with
  |none=>true
  |some oj=>oj.after.any fun e=>Region.binds md e&&(e.on==i || match ops[e.on]? with
   |none=>false
   |some ok=>ok.after.any fun e2=>Region.binds md e2&&e2.on==i)
theorem Dz {listed:Array Bool} {k:Nat} (h1:listed.getD k false=true) (h0:listed.getD k true=false):False:=by
 rcases Nat.lt_or_ge k listed.size with h|h
 · simp[h]at h0 h1;rw[h0]at h1;cases h1
 · simp[Array.getElem?_eq_none h]at h1
theorem AQ.next {listed:Array Bool} {j:Nat} (hc:AQ md ops listed) (hr:j∈Region.ready md ops listed):AQ md ops (listed.setIfInBounds j true):=by
 intro k o ho hk e he hb;obtain ⟨-,oj,hoj,hall⟩:=mem_ready.1 hr;by_cases hjk:j=k
 · subst hjk;rw[hoj]at ho;injection ho with ho
   subst ho;exact getD_set_true (hall e he hb)
 · rw[getD_set_ne false hjk]at hk;exact getD_set_true (hc k o ho hk e he hb)
theorem AQ.zero (n:Nat):AQ md ops (Array.replicate n false):=by
 intro k o _ hk;rcases Nat.lt_or_ge k n with h|h
 · simp[h]at hk
 · simp[Nat.not_lt.2 h]at hk
end
end
section
open Go.RowKit
def Z9 (Z Y:Int):Int:=-((-Z).fdiv Y)
def ZA (Z Y:Int):Int:=if Y<=2*Z.fmod Y then Z.fmod Y-Y else Z.fmod Y
end
section
open Go.RowKit
open Limb (limb AK upto upto_succ Az AA)
theorem O5 {fn:Func} {p t:Tmp} (h:fn.results=#[.cell p 54,.tmp t]) (tmps:Array Value) (w:World) (g:Nat) (x y:Value)
  (hp:tmps.getD p undef=.pointer (some ⟨g,0,none⟩)) (hg:CE w g #[x,y]) :
  (results fn tmps).run Tryz.prog w=.ok (.tuple #[.agg #[x,y],tmps.getD t undef]) w:=by
 have hp':tmps[p]?.getD undef=.pointer (some ⟨g,0,none⟩):=by simpa using hp
 simp[results,h,hp',asAddr,run_loadVar_row w g 54 54 #[x,y] (0,0) _ hg Tryz.underlying54 rfl (by kernel_rfl)]
theorem CG {fn:Func} {R:Ending->World->Prop} {a:Act} {w:World} {g p t:Nat} {x y v:Value} (hres:fn.results=#[.cell p 54,.tmp t]) (hp:a.tmps.getD p undef=.pointer (some ⟨g,0,none⟩))
  (hv:a.tmps.getD t undef=v) (hb:CE w g #[x,y]) (hd:a.defers=[]) (hR:R (.returned (.tuple #[.agg #[x,y],v])) w):bodyPost Tryz.prog fn R .ret a w:=
 bodyPost_ret (by rw[O5 hres _ _ g x y hp hb,hv]) hd hR
def YO (w:World) (e:Ending) (w':World):Prop:=e=.returned (.tuple #[.agg #[.bool false,.slice none 0 0],.agg #[.bool false,.slice none 0 0],.int .i64 10])/\Below w.heap.size w w'
def Y0 (Z Y:Int) (k j:Nat) (w:World) (e:Ending) (w':World):Prop:=∃u v,e=.returned (.tuple #[u,v,.int .i64 0])/\AL w' u (Z.fdiv Y) k/\AL w' v (Z.fmod Y) j/\Below w.heap.size w w'
end
section
open Go.RowKit
def ZB (k:Int) (w:World) (e:Ending) (w':World):Prop:=e=.returned (.tuple #[.agg #[.bool false,.slice none 0 0],.int .i64 k])/\Below w.heap.size w w'
def ZT (Z:Int) (k:Nat) (w:World) (e:Ending) (w':World):Prop:=∃v,e=.returned (.tuple #[v,.int .i64 0])/\AL w' v Z k/\Below w.heap.size w w'
end
section
open Go.RowKit
instance (s:ByteArray):Decidable (CW s):=by unfold CW;infer_instance
def BF (r:ByteArray):Int:=if 4000<r.size then 2 else if CW r/\r.size≠0 then 0 else 20
def Hs (r:ByteArray):Nat:=if BF r=0 then numOf r r.size else 0
theorem Gc {r:ByteArray} (h:BF r≠0):Hs r=0:=by unfold Hs;rw[if_neg h]
theorem QU (N k j:Nat) (hN:N<10^k) (hk:k<=4000) (hj:446<=j):N<4294967296^j:=by obtain ⟨M,hM⟩:∃M:Nat,M=4000:=⟨_,rfl⟩;refine Nat.lt_of_lt_of_le hN (Nat.le_of_lt (Nat.lt_of_le_of_lt (Nat.pow_le_pow_right (by omega) (show k<=M by omega)) (Nat.lt_of_lt_of_le (Dec.limbs_room M) (Nat.pow_le_pow_right (by omega) (by omega)))))
theorem Qb (r:ByteArray) (j:Nat) (hj:446<=j):Hs r<4294967296^j:=by
 unfold Hs;split
 · rename_i h
   unfold BF at h;split at h
   · omega
   · rename_i hl
     split at h
     · rename_i hd
       exact QU _ r.size j (Ng r hd.1 _ (Nat.le_refl _)) (by omega) hj
     · omega
 · exact Nat.pow_pos (by omega)
def Lh (r:ByteArray) (w:World) (e:Ending) (w':World):Prop:=∃A n,e=.returned (.tuple #[.slice A n n,.int .i64 (BF r)])/\Own w' w.heap.size A n n (Hs r)/\Below w.heap.size w w'
theorem QV (r:ByteArray) (w:World) (hs:r.size<=9223372036854775807):Calls Tryz.prog 122 #[.string r] w (Lh r w):=by
 unfold Lh;by_cases h1:4000<r.size
 · have e1:BF r=2:=(by unfold BF;rw[if_pos h1]);refine (Oy r w h1 hs).mono ?_;rintro e w' ⟨rfl,hb⟩;rw[e1,Gc (by rw[e1];omega)];exact ⟨none,0,rfl,Own.zero _ _ _ _ (by omega),hb⟩
 · by_cases h2:CW r/\r.size≠0
   · have e1:BF r=0:=(by unfold BF;rw[if_neg h1,if_pos h2]);have e2:Hs r=numOf r r.size:=(by unfold Hs;rw[if_pos e1]);rw[e1,e2];exact Tn r w (by omega) h2.1 h2.2
   · have e1:BF r=20:=(by unfold BF;rw[if_neg h1,if_neg h2]);refine (Oz r w (by omega) h2).mono ?_;rintro e w' ⟨rfl,hb⟩;rw[e1,Gc (by rw[e1];omega)];exact ⟨none,0,rfl,Own.zero _ _ _ _ (by omega),hb⟩
def JB (r:ByteArray) (w:World) (e:Ending) (w':World):Prop:=∃A n c,e=.returned (.tuple #[.slice A n c,.int .i64 (BF r)])/\Nums w' A n (Limb.canon (Hs r))/\n<=c/\c<=9223372036854775807/\Below w.heap.size w w'
theorem O6 (r:ByteArray) (w:World) (hs:r.size<=9223372036854775807):Calls Tryz.prog 116 #[.string r] w (JB r w):=by
 unfold JB;by_cases h1:4000<r.size
 · have e1:BF r=2:=(by unfold BF;rw[if_pos h1]);refine (Nh r w h1 hs).mono ?_;rintro e w' ⟨rfl,hb⟩;rw[e1,Gc (by rw[e1];omega),Limb.canon_zero];exact ⟨none,0,0,rfl,Nums.nil _ _,by omega,by omega,hb⟩
 · refine (O0 r w (by omega)).mono ?_;intro e w' hp;by_cases h2:CW r/\r.size≠0
   · have e1:BF r=0:=(by unfold BF;rw[if_neg h1,if_pos h2]);have e2:Hs r=numOf r r.size:=(by unfold Hs;rw[if_pos e1]);rw[e1,e2];exact hp.1 h2
   · have e1:BF r=20:=(by unfold BF;rw[if_neg h1,if_neg h2]);obtain ⟨rfl,hb⟩:=hp.2 h2;rw[e1,Gc (by rw[e1];omega),Limb.canon_zero];exact ⟨none,0,0,rfl,Nums.nil _ _,by omega,by omega,hb⟩
theorem Li (s:ByteArray):(body s).size<=s.size:=by
 unfold body;split
 · simp
 · exact Nat.le_refl _
def Gd (s:ByteArray):Int:=sg (Kl s) (Hs (body s))
def Tz (s:ByteArray):Int:=BF (body s)
def JC (s:ByteArray) (w:World) (e:Ending) (w':World):Prop:=∃v k,e=.returned (.tuple #[v,.int .i64 (Tz s)])/\AL w' v (Gd s) k/\k<=500/\Below w.heap.size w w'
theorem CH (s:ByteArray) (w:World) (hs:s.size<=9223372036854775807):Calls Tryz.prog 85 #[.string s] w (JC s w):=by
 obtain ⟨z1,z2,z3⟩:=Dn w #[.bool false,.slice none 0 0];have hb:=Li s;have hcut:=UZ s (w.alloc (.cells #[.bool false,.slice none 0 0] 54)) hs;have HP:=Aa (fun W=>QV (body s) W (by omega));obtain ⟨k,hk⟩:∃k:Nat,k=446:=⟨_,rfl⟩;have hlt:=Aa (Qb (body s) k (by omega));have hZ:=Aa (show Gd s=sg (Kl s) (Hs (body s)) from rfl);have hC:=Aa (show Tz s=BF (body s) from rfl);have hk5:k<=500:=by omega
 unfold Ma at hcut;generalize body s=r at *;generalize Kl s=neg at *;clear hb hk;go_enter Tryz.func85,Tryz.ntmps85;go_wp2_with fail;refine hcut.mono ?_;rintro e w' ⟨rfl,rfl⟩;clear hcut;go_wp2_with fail;refine (HP.out _).mono ?_;rintro e w1 ⟨A1,n1,rfl,o1,b1⟩;have l1:=I7 o1;have k1:=z1.next b1;generalize BF r=q at *;go_wp2_with fail;refine (CF neg A1 n1 n1 (Hs r) w1 o1.len (by omega)).mono ?_;rintro e w2 ⟨rfl,b2⟩;have k2:=k1.next b2;have r2:=(DR (s:=neg) o1 hlt.out).below b2
 go_wp2_with (with_reducible refine Aj rfl _ _ rfl w.heap.size _ _ _ _ rfl rfl _ _ k2 ?_;intro w3 k3 ho3);exact CG rfl rfl rfl k3 rfl ⟨_,k,by rw[hC.out];rfl,(r2.only k2 ho3).ofEq hZ.out.symm,hk5,Bg ((z2.next b1).next b2) (Nat.le_refl _) ho3⟩
theorem Nn (s:ByteArray) (w:World) (hs:s.size<=9223372036854775807):Calls Tryz.prog 79 #[.string s] w (JC s w):=by
 obtain ⟨z1,z2,z3⟩:=Dn w #[.bool false,.slice none 0 0];have hb:=Li s;have HP:=Aa (fun W=>O6 (body s) W (by omega));obtain ⟨k,hk⟩:∃k:Nat,k=446:=⟨_,rfl⟩;have hlt:=Aa (Qb (body s) k (by omega));have hZ:=Aa (show Gd s=sg (Kl s) (Hs (body s)) from rfl);have hC:=Aa (show Tz s=BF (body s) from rfl);have hbad:=Aa (fun h=>Gc (r:=body s) h);have hk5:k<=500:=by omega
 have hcase:(s.size=0/\Kl s=false/\body s=s)\/(∃h0:0<s.size,(((s[0]'h0).toNat:Int)==45)=false/\Kl s=false/\body s=s)\/(∃h0:0<s.size,(((s[0]'h0).toNat:Int)==45)=true/\Kl s=true/\body s=s.extract 1 s.size):=by
   rcases Nat.eq_zero_or_pos s.size with h0|h0
   · have hn:¬Kk s:=fun h=>by have:=h.1;omega
     exact Or.inl ⟨h0,decide_eq_false hn,if_neg hn⟩
   · right
     have hbe:=Bp s 0 h0;by_cases h1:Ad s 0=45
     · have hd:Kk s:=⟨h0,h1⟩;exact Or.inr ⟨h0,by simp only[beq_iff_eq];omega,decide_eq_true hd,if_pos hd⟩
     · have hn:¬Kk s:=fun h=>h1 h.2
       exact Or.inl ⟨h0,by simp only[beq_eq_false_iff_ne];omega,decide_eq_false hn,if_neg hn⟩
 rcases hcase with ⟨h0,h1,h2⟩|⟨h0,hc,h1,h2⟩|⟨h0,hc,h1,h2⟩
 · rw[h1,h2]at hZ;rw[h2]at hC hlt HP hbad;clear h1 h2 hb;go_enter Tryz.func79,Tryz.ntmps79;go_wp2_with fail;refine (HP.out _).mono ?_;rintro e w1 ⟨A1,n1,c1,rfl,o1,l1,m1,b1⟩;have k1:=z1.next b1;have t1:=z2.next b1;by_cases hq:BF s=0
   · rw[hq]at hC;rw[hq];clear hq hbad;go_wp2_with fail;refine (BV false A1 n1 c1 k _ w1 o1 (Bj o1 hlt.out) (by omega)).mono ?_;rintro e w2 ⟨v2,rfl,r2,b2⟩;rw[Limb.val_canon]at r2;obtain ⟨s2,A2,n2,c2,rfl⟩:=r2.form;have k2:=k1.next b2;go_wp2_with (with_reducible refine Aj rfl _ _ rfl w.heap.size _ _ _ _ rfl rfl _ _ k2 ?_;intro w3 k3 ho3);exact CG rfl rfl rfl k3 rfl ⟨_,k,by rw[hC.out];rfl,(r2.only k2 ho3).ofEq hZ.out.symm,hk5,Bg (t1.next b2) (Nat.le_refl _) ho3⟩
   · have hv:=hbad.out hq;have hq2:(BF s==0)=false:=(by simpa using hq);have hq3:(BF s != 0)=true:=(by simpa using hq);rw[hv]at hZ;clear hq hbad hv;generalize BF s=q at *;go_wp2_with (with_reducible refine Aj rfl _ _ rfl w.heap.size _ _ _ _ rfl rfl _ _ k1 ?_;intro w3 k3 ho3);exact CG rfl rfl rfl k3 rfl ⟨_,k,by rw[hC.out];rfl,(AL.zero w3 k).ofEq (by rw[hZ.out,Gr]),hk5,Bg t1 (Nat.le_refl _) ho3⟩
 · rw[h1,h2]at hZ;rw[h2]at hC hlt HP hbad;clear h1 h2 hb;go_enter Tryz.func79,Tryz.ntmps79;go_wp2_with fail;refine (HP.out _).mono ?_;rintro e w1 ⟨A1,n1,c1,rfl,o1,l1,m1,b1⟩;have k1:=z1.next b1;have t1:=z2.next b1;by_cases hq:BF s=0
   · rw[hq]at hC;rw[hq];clear hq hbad;go_wp2_with fail;refine (BV false A1 n1 c1 k _ w1 o1 (Bj o1 hlt.out) (by omega)).mono ?_;rintro e w2 ⟨v2,rfl,r2,b2⟩;rw[Limb.val_canon]at r2;obtain ⟨s2,A2,n2,c2,rfl⟩:=r2.form;have k2:=k1.next b2;go_wp2_with (with_reducible refine Aj rfl _ _ rfl w.heap.size _ _ _ _ rfl rfl _ _ k2 ?_;intro w3 k3 ho3);exact CG rfl rfl rfl k3 rfl ⟨_,k,by rw[hC.out];rfl,(r2.only k2 ho3).ofEq hZ.out.symm,hk5,Bg (t1.next b2) (Nat.le_refl _) ho3⟩
   · have hv:=hbad.out hq;have hq2:(BF s==0)=false:=(by simpa using hq);have hq3:(BF s != 0)=true:=(by simpa using hq);rw[hv]at hZ;clear hq hbad hv;generalize BF s=q at *;go_wp2_with (with_reducible refine Aj rfl _ _ rfl w.heap.size _ _ _ _ rfl rfl _ _ k1 ?_;intro w3 k3 ho3);exact CG rfl rfl rfl k3 rfl ⟨_,k,by rw[hC.out];rfl,(AL.zero w3 k).ofEq (by rw[hZ.out,Gr]),hk5,Bg t1 (Nat.le_refl _) ho3⟩
 · rw[h1,h2]at hZ;rw[h2]at hC hlt HP hbad;clear h1 h2 hb;go_enter Tryz.func79,Tryz.ntmps79;go_wp2_with fail;refine (HP.out _).mono ?_;rintro e w1 ⟨A1,n1,c1,rfl,o1,l1,m1,b1⟩;have k1:=z1.next b1;have t1:=z2.next b1;by_cases hq:BF (s.extract 1 s.size)=0
   · rw[hq]at hC;rw[hq];clear hq hbad;go_wp2_with fail;refine (BV true A1 n1 c1 k _ w1 o1 (Bj o1 hlt.out) (by omega)).mono ?_;rintro e w2 ⟨v2,rfl,r2,b2⟩;rw[Limb.val_canon]at r2;obtain ⟨s2,A2,n2,c2,rfl⟩:=r2.form;have k2:=k1.next b2;go_wp2_with (with_reducible refine Aj rfl _ _ rfl w.heap.size _ _ _ _ rfl rfl _ _ k2 ?_;intro w3 k3 ho3);exact CG rfl rfl rfl k3 rfl ⟨_,k,by rw[hC.out];rfl,(r2.only k2 ho3).ofEq hZ.out.symm,hk5,Bg (t1.next b2) (Nat.le_refl _) ho3⟩
   · have hv:=hbad.out hq;have hq2:(BF (s.extract 1 s.size)==0)=false:=(by simpa using hq);have hq3:(BF (s.extract 1 s.size) != 0)=true:=(by simpa using hq);rw[hv]at hZ;clear hq hbad hv;generalize BF (s.extract 1 s.size)=q at *;go_wp2_with (with_reducible refine Aj rfl _ _ rfl w.heap.size _ _ _ _ rfl rfl _ _ k1 ?_;intro w3 k3 ho3);exact CG rfl rfl rfl k3 rfl ⟨_,k,by rw[hC.out];rfl,(AL.zero w3 k).ofEq (by rw[hZ.out,Gr]),hk5,Bg t1 (Nat.le_refl _) ho3⟩
end
section
open Go.RowKit
section
variable {P:Program} {ops:Array Oper} {Q:Exit->Act->World->Prop}
def FS (ops:Array Oper):Bool:=(List.range ops.size).all fun i=>match ops[i]? with
 |none=>true
 |some o=>o.after.all fun e=>!Region.binds .any e || decide (e.on<i)
theorem Em (h:FS ops=true) {i:Nat} {o:Oper} (ho:ops[i]?=some o):∀e∈o.after,Region.binds .any e=true->e.on<i:=by intro e he hbd;have hlt:i<ops.size:=(Array.getElem?_eq_some_iff.1 ho).1;have h1:=List.all_eq_true.1 h i (List.mem_range.2 hlt);simp only[ho]at h1;have h2:=Array.all_eq_true_iff_forall_mem.1 h1 e he;rw[hbd]at h2;simpa using h2
def En (n:Nat) (listed:Array Bool):Prop:=∀j,j<n->listed.getD j false=true
theorem ready_nil {listed:Array Bool} (hb:FS ops=true) (hs:listed.size=ops.size) (h:Region.ready .any ops listed=[]):En ops.size listed:=by
 intro j;induction j using Nat.strongRecOn with
 |_ j ih=>
  intro hj;by_cases hl:listed.getD j false=true
  · exact hl
  · have hm:j∈Region.ready .any ops listed:=mem_ready.2 ⟨by
     have h1:j<listed.size:=(by omega);simp[h1]at hl ⊢;exact hl,ops[j],Array.getElem?_eq_getElem hj,fun e he hbd=>ih e.on (Em hb (Array.getElem?_eq_getElem hj) e he hbd) (by have:=Em hb (Array.getElem?_eq_getElem hj) e he hbd;omega)⟩
    rw[h]at hm;cases hm
theorem Ip {md:Region.Mode} {listed:Array Bool} (h:En ops.size listed):Region.ready md ops listed=[]:=by
 rcases hr:Region.ready md ops listed with _|⟨i,is⟩
 · rfl
 · have hm:i∈Region.ready md ops listed:=(by rw[hr];exact List.mem_cons_self ..);obtain ⟨h1,o,ho,_⟩:=mem_ready.1 hm;have h2:=h i (Array.getElem?_eq_some_iff.1 ho).1;exact (Dz h2 h1).elim
def FT (listed:Array Bool):Nat:=listed.toList.countP (fun b=>!b)
theorem Jr {listed:Array Bool} {i:Nat} (h:listed.getD i true=false):FT (listed.setIfInBounds i true)+1=FT listed:=by
 have hi:i<listed.size:=by
  rcases Nat.lt_or_ge i listed.size with h1|h1
  · exact h1
  · simp[Array.getElem?_eq_none h1]at h
 have h1:listed.toList[i]?=some false:=by simp[hi]at h;simp[hi,h]
 unfold FT;rw[Array.toList_setIfInBounds];generalize listed.toList=l at *;clear h hi;induction l generalizing i with
 |nil=>simp at h1
 |cons b l ih=>
  cases i with
  |zero=>simp at h1;subst h1;simp
  |succ i=> simp at h1;have:=ih h1;simp only[List.set_cons_succ,List.countP_cons];omega
theorem Iq {listed:Array Bool} (h:FT listed=0):En listed.size listed:=by intro j hj;unfold FT at h;rw[List.countP_eq_zero]at h;have:=h listed[j] (by simp);simp at this;simp[hj,this]
theorem GH (n:Nat):FT (Array.replicate n false)=n:=by unfold FT;simp[List.countP_replicate]
theorem CP {id:Nat} {a:Act} {w:World} (hm:P.follows .mixedOrders=true) (hb:FS ops=true) (I:Array Bool->Act->World->Prop)
  (h0:I (Array.replicate ops.size false) a w.drew)
  (hstep:∀(i:Nat) (o:Oper) (listed:Array Bool) (a:Act) (w:World),ops[i]?=some o->listed.size=ops.size->listed.getD i true=false->AQ .any ops listed->(∀e∈o.after,Region.binds .any e=true->listed.getD e.on false=true)->I listed a w ->
   wpOp P ops Q i (I (listed.setIfInBounds i true)) a w)
  (hend:∀(listed:Array Bool) (a:Act) (w:World),listed.size=ops.size->En ops.size listed->I listed a w->Q .normal a w):(Code.region id ops true).wp P Q a w:=by
 have main:∀(fuel:Nat) (listed:Array Bool) (a:Act) (w:World),listed.size=ops.size->FT listed<=fuel->AQ .any ops listed->I listed a w->wpAny P .any ops Q fuel listed a w:=by
  intro fuel;induction fuel with
  |zero=>
   intro listed a w hs hf hc hI;have hall:En ops.size listed:=(by rw[<-hs];exact Iq (by omega));exact ⟨Ip hall,hend listed a w hs hall hI⟩
  |succ fuel ih=> intro listed a w hs hf hc hI;refine ⟨fun h=>hend listed a w hs (ready_nil hb hs h) hI,fun i hi=>?_⟩;obtain ⟨h1,o,ho,h2⟩:=mem_ready.1 hi;refine wpOp_mono (fun a' w' hI'=>?_) (hstep i o listed a w ho hs h1 hc h2 hI);exact ih _ a' w' (by simp[hs]) (by have:=Jr h1;omega) (hc.next hi) hI'
 refine wp_region_any hm (main ops.size _ a _ (by simp) (by rw[GH];exact Nat.le_refl _) (AQ.zero _) h0)
def An (ops:Array Oper) (j:Nat):Option Tmp:=(ops[j]?).bind (·.dst)
def upd (σ:Nat->Value) (i:Nat) (v:Value):Nat->Value:=fun j=>if j=i then v else σ j
theorem C8 (σ:Nat->Value) (i:Nat) (v:Value):upd σ i v i=v:=by unfold upd;rw[if_pos rfl]
theorem upd_ne (σ:Nat->Value) {i j:Nat} (v:Value) (h:j≠i):upd σ i v j=σ j:=by unfold upd;rw[if_neg h]
def fill (ops:Array Oper) (σ:Nat->Value) (listed:Array Bool):List Nat->Act->Act
 |[],a=>a
 |j::js,a=>fill ops σ listed js (if listed.getD j false then a.put (An ops j) (σ j) else a)
def CV:Option Tmp->Option Tmp->Bool
 |some d,some e=>d != e
 |_,_=>true
theorem Ir (a:Act) (d e:Option Tmp) (u v:Value) (h:CV d e=true):(a.put d u).put e v=(a.put e v).put d u:=by
 cases d with
 |none=>rfl
 |some d=>cases e with
  |none=>rfl
  |some e=>
   have:d≠e:=by simpa[CV] using h
   simp only[Act.put,Act.mk.injEq,and_true];exact Array.setIfInBounds_comm _ _ this
def ownB (ops:Array Oper) (size:Nat):Bool:=(List.range ops.size).all fun i=>(match An ops i with|none=>true|some d=>decide (d<size))&&(List.range ops.size).all fun j=>i==j || CV (An ops i) (An ops j)
theorem Eo {size i j:Nat} (h:ownB ops size=true) (hi:i<ops.size) (hj:j<ops.size) (hne:i≠j):CV (An ops i) (An ops j)=true:=by have h1:=List.all_eq_true.1 h i (List.mem_range.2 hi);simp only[Bool.and_eq_true]at h1;have h2:=List.all_eq_true.1 h1.2 j (List.mem_range.2 hj);simpa[hne] using h2
theorem LP {size i d:Nat} (h:ownB ops size=true) (hi:i<ops.size) (hd:An ops i=some d):d<size:=by have h1:=List.all_eq_true.1 h i (List.mem_range.2 hi);simp only[Bool.and_eq_true,hd]at h1;exact of_decide_eq_true h1.1
theorem Ep {σ:Nat->Value} {listed:Array Bool} {d:Option Tmp} {v:Value}:∀(js:List Nat) (a:Act),(∀j∈js,CV d (An ops j)=true)->fill ops σ listed js (a.put d v)=(fill ops σ listed js a).put d v
 |[],_,_=>rfl
 |j::js,a,h=>by
  have hj:=h j (List.mem_cons_self ..);have hjs:∀x∈js,CV d (An ops x)=true:=fun x hx=>h x (List.mem_cons_of_mem _ hx)
  unfold fill;split
  · rw[Ir _ _ _ _ _ hj];exact Ep js _ hjs
  · exact Ep js _ hjs
theorem ET {σ:Nat->Value} {listed:Array Bool} {i:Nat} {v:Value}:∀(js:List Nat) (a:Act),i ∉ js->fill ops (upd σ i v) (listed.setIfInBounds i true) js a=fill ops σ listed js a
 |[],_,_=>rfl
 |j::js,a,h=>by
  have hji:j≠i:=fun e=>h (e▸List.mem_cons_self ..)
  unfold fill;rw[getD_set_ne false (Ne.symm hji),upd_ne σ v hji];exact ET js _ (fun hh=>h (List.mem_cons_of_mem _ hh))
theorem Dk {size:Nat} {σ:Nat->Value} {listed:Array Bool} {i:Nat} {v:Value} (ho:ownB ops size=true) (hi:i<ops.size) (hl:listed.getD i true=false) :
  ∀(js:List Nat) (a:Act),js.Nodup->(∀j∈js,j<ops.size)->i∈js->fill ops (upd σ i v) (listed.setIfInBounds i true) js a=(fill ops σ listed js a).put (An ops i) v
 |[],_,_,_,h=>by cases h
 |j::js,a,hn,hlt,h=>by
  obtain ⟨hn1,hn2⟩:=List.nodup_cons.1 hn;by_cases hji:j=i
  · subst hji;have hls:j<listed.size:=by
     rcases Nat.lt_or_ge j listed.size with h1|h1
     · exact h1
     · simp[Array.getElem?_eq_none h1]at hl
    have h1:(listed.setIfInBounds j true).getD j false=true:=(by simp[hls]);have h2:listed.getD j false=false:=(by simp[hls]at hl ⊢;exact hl);unfold fill;rw[h1,h2,C8];simp only[if_true,Bool.false_eq_true,if_false];rw[ET js _ hn1];exact Ep js a (fun x hx=>Eo ho hi (hlt x (List.mem_cons_of_mem _ hx)) (fun e=>hn1 (e▸hx)))
  · have hjs:i∈js:=(List.mem_cons.1 h).resolve_left (fun e=>hji e.symm);unfold fill;rw[getD_set_ne false (Ne.symm hji),upd_ne σ v hji];exact Dk ho hi hl js _ hn2 (fun x hx=>hlt x (List.mem_cons_of_mem _ hx)) hjs
theorem Js (a:Act) (d:Option Tmp) (v:Value):(a.put d v).tmps.size=a.tmps.size:=by cases d<;>simp[Act.put]
theorem eval_put_ne (a:Act) (d:Option Tmp) (t:Tmp) (v:Value) (h:d≠some t):(a.put d v).eval (.tmp t)=a.eval (.tmp t):=by
 cases d with
 |none=>rfl
 |some d=>
  have:d≠t:=fun e=>h (by rw[e])
  simp[Act.put,Act.eval,Array.getElem?_setIfInBounds_ne this]
theorem FU (a:Act) (t:Tmp) (v:Value) (h:t<a.tmps.size):(a.put (some t) v).eval (.tmp t)=v:=by simp[Act.put,Act.eval,h]
theorem FV {σ:Nat->Value} {listed:Array Bool} {t:Tmp}:∀(js:List Nat) (a:Act),(∀j∈js,An ops j≠some t)->(fill ops σ listed js a).eval (.tmp t)=a.eval (.tmp t)
 |[],_,_=>rfl
 |j::js,a,h=>by
  unfold fill;rw[FV js _ (fun x hx=>h x (List.mem_cons_of_mem _ hx))];split
  · exact eval_put_ne _ _ _ _ (h j (List.mem_cons_self ..))
  · rfl
theorem Hl {size:Nat} {σ:Nat->Value} {listed:Array Bool} {t:Tmp} {i:Nat} (ho:ownB ops size=true) (hi:i<ops.size) (hd:An ops i=some t) (hl:listed.getD i false=true) :
    ∀(js:List Nat) (a:Act),a.tmps.size=size->js.Nodup->(∀j∈js,j<ops.size)->i∈js->(fill ops σ listed js a).eval (.tmp t)=σ i
  |[],_,_,_,_,h=>by cases h
  |j::js,a,hs,hn,hlt,h=>by
    obtain ⟨hn1,hn2⟩:=List.nodup_cons.1 hn;by_cases hji:j=i
    · subst hji;unfold fill;rw[hl];simp only[if_true];rw[FV js _ (fun x hx e=>by
        have h1:=Eo ho hi (hlt x (List.mem_cons_of_mem _ hx)) (fun e=>hn1 (e▸hx));rw[hd,e]at h1;simp[CV]at h1),hd]
      exact FU _ _ _ (by rw[hs];exact LP ho hi hd)
    · have hjs:i∈js:=(List.mem_cons.1 h).resolve_left (fun e=>hji e.symm);unfold fill;exact Hl ho hi hd hl js _ (by
                                         split;· rw[Js];exact hs
                                         · exact hs) hn2 (fun x hx=>hlt x (List.mem_cons_of_mem _ hx)) hjs
def mid (ops:Array Oper) (σ:Nat->Value) (listed:Array Bool) (a:Act):Act:=fill ops σ listed (List.range ops.size) a
theorem GI {a:Act} {σ:Nat->Value} {listed:Array Bool} {t:Tmp} {i:Nat} (ho:ownB ops a.tmps.size=true) (hd:An ops i=some t) (hl:listed.getD i false=true):(mid ops σ listed a).eval (.tmp t)=σ i:=by
 have hi:i<ops.size:=by
  rcases Nat.lt_or_ge i ops.size with h|h
  · exact h
  · simp[An,Array.getElem?_eq_none h]at hd
 exact Hl ho hi hd hl _ a rfl List.nodup_range (fun j hj=>List.mem_range.1 hj) (List.mem_range.2 hi)
def Oo (ops:Array Oper) (t:Tmp):Bool:=(List.range ops.size).all fun j=>An ops j != some t
def Each (R:Nat->Oper->Prop):Nat->List Oper->Prop
 |_,[]=>True
 |i,o::os=>R i o/\Each R (i+1) os
theorem Each.get {R:Nat->Oper->Prop}:∀(os:List Oper) (k:Nat),Each R k os->∀i o,os[i]?=some o->R (k+i) o
 |[],_,_,i,o,h=>by simp at h
 |x::os,k,h,i,o,ho=>by
  cases i with
  |zero=>simp at ho;subst ho;exact h.1
  |succ i=> have:=Each.get os (k+1) h.2 i o (by simpa using ho);rw[show k+(i+1)=k+1+i by omega];exact this
def Does (P:Program) (a:Act) (o:Oper) (w:World) (R:Value->World->Prop):Prop:=
 (∃v w',(execOp a.eval o).run P w=.ok (.value v) w'/\R v w')\/(∃w',(execOp a.eval o).run P w=.ok .skip w'/\R undef w') \/
 ∃(f:FuncId) (args:Array Value) (R':Ending->World->Prop),(execOp a.eval o).run P w=.ok (.enter f args) w/\Calls P f args w R'/\∀e w',R' e w'->∃v,e=.returned v/\R v w'
theorem Does.val {a:Act} {o:Oper} {w w':World} {R:Value->World->Prop} (v:Value) (h:(execOp a.eval o).run P w=.ok (.value v) w') (hR:R v w'):Does P a o w R:=Or.inl ⟨v,w',h,hR⟩
theorem Does.skip {a:Act} {o:Oper} {w w':World} {R:Value->World->Prop} (h:(execOp a.eval o).run P w=.ok .skip w') (hR:R undef w'):Does P a o w R:=Or.inr (Or.inl ⟨w',h,hR⟩)
theorem Does.call {a:Act} {o:Oper} {w:World} {R:Value->World->Prop} {f:FuncId} {args:Array Value} {R':Ending->World->Prop} (h:(execOp a.eval o).run P w=.ok (.enter f args) w) (hc:Calls P f args w R') (hR:∀e w',R' e w'->∃v,e=.returned v/\R v w'):Does P a o w R:=Or.inr (Or.inr ⟨f,args,R',h,hc,hR⟩)
theorem Does.step {i:Nat} {o:Oper} {K:Act->World->Prop} {a:Act} {w:World} {R:Value->World->Prop} (ho:ops[i]?=some o) (hg:Region.wanted o (yielded ops a.tmps)=true) (h:Does P a o w R) (hK:∀v w',R v w'->K (a.put o.dst v) w'):wpOp P ops Q i K a w:=
 wpOp_step ho fun K' hK'=>by
  rw[if_pos hg];unfold Oper.wp;rcases h with ⟨v,w',hr,hR⟩|⟨w',hr,hR⟩|⟨f,args,R',hr,hc,hR⟩
  · rw[hr];exact hK' _ _ (hK _ _ hR)
  · rw[hr];exact hK' _ _ (hK _ _ hR)
  · rw[hr];refine hc.mono fun e w' he=>?_
    obtain ⟨v,rfl,hv⟩:=hR e w' he;exact hK' _ _ (hK _ _ hv)
def Ac (ops:Array Oper) (a:Act) (o:Oper) (w:World) (R:Value->World->Prop) (D:Prop):Prop:=
 match o.guard with
 |none=>D
 |some (g,want)=>∃(d:Tmp) (b:Bool),An ops g=some d/\a.tmps.getD d undef=.bool b/\(b=want->D)/\(b≠want->R undef w)
theorem Ac.step {i:Nat} {o:Oper} {K:Act->World->Prop} {a:Act} {w:World} {R:Value->World->Prop} (ho:ops[i]?=some o) (h:Ac ops a o w R (Does P a o w R)) (hK:∀v w',R v w'->K (a.put o.dst v) w'):wpOp P ops Q i K a w:=by
 unfold Ac at h;cases hg:o.guard with
 |none=>
  rw[hg]at h;exact Does.step ho (by simp[Region.wanted,hg]) h hK
 |some gw=>
  obtain ⟨g,want⟩:=gw;rw[hg]at h;obtain ⟨d,b,hd,hv,h1,h2⟩:=h;have hy:yielded ops a.tmps g=some b:=by
    have h3:a.tmps[d]?=some (.bool b):=by
     rcases hx:a.tmps[d]? with _|x
     · simp[hx]at hv;exact absurd hv (by unfold undef;simp)
     · simp[hx]at hv;rw[hv]
    unfold An at hd;unfold yielded;rw[hd];show (match a.tmps[d]? with|some (.bool b)=>some b|_=>none)=_;rw[h3]
  by_cases hb:b=want
  · exact Does.step ho (by simp[Region.wanted,hg,hy,hb]) (h1 hb) hK
  · refine wpOp_step ho fun K' hK'=>?_
    rw[if_neg (by simp[Region.wanted,hg,hy,hb])];exact hK' _ _ (hK _ _ (h2 hb))
def Wo (P:Program) (ops:Array Oper) (a0:Act) (T:World->World->Prop) (F:Nat->Value->World->Prop) (G:Array Bool->(Nat->Value)->World->Prop) (i:Nat) (o:Oper):Prop:=
 ∀(listed:Array Bool) (σ:Nat->Value) (w:World) (a:Act),(∀j t,An ops j=some t->listed.getD j false=true->a.tmps.getD t undef=σ j)->(∀t,Oo ops t=true->a.tmps.getD t undef=a0.tmps.getD t undef) ->
  listed.getD i true=false->AQ .any ops listed->(∀e∈o.after,Region.binds .any e=true->listed.getD e.on false=true)->G listed σ w->(∀j,listed.getD j false=true->F j (σ j) w) ->
  Ac ops a o w (fun v w'=>T w w'/\F i v w'/\G (listed.setIfInBounds i true) (upd σ i v) w') (Does P a o w (fun v w'=>T w w'/\F i v w'/\G (listed.setIfInBounds i true) (upd σ i v) w'))
theorem BH (n j:Nat):(Array.replicate n false).getD j false=false:=by
 rcases Nat.lt_or_ge j n with h|h
 · simp[h]
 · simp[Nat.not_lt.2 h]
theorem Ca {listed:Array Bool} {σ:Nat->Value} {a:Act} (h:En ops.size listed):mid ops σ listed a=(List.range ops.size).foldl (fun a j=>a.put (An ops j) (σ j)) a:=by
 unfold mid;have:∀(js:List Nat) (a:Act),(∀j∈js,j<ops.size)->fill ops σ listed js a=js.foldl (fun a j=>a.put (An ops j) (σ j)) a:=by
  intro js;induction js with
  |nil=>intro a _;rfl
  |cons j js ih=> intro a hlt;unfold fill;rw[if_pos (h j (hlt j (List.mem_cons_self ..))),List.foldl_cons];exact ih _ (fun x hx=>hlt x (List.mem_cons_of_mem _ hx))
 exact this _ a (fun j hj=>List.mem_range.1 hj)
def G1 (W0:World) (b s:Nat) (Fr Fu:World->Nat->Prop) (listed:Array Bool) (σ:Nat->Value) (w:World):Prop:=
 Below W0.heap.size W0 w/\(listed.getD b false=true->∃g,σ b=.pointer (some ⟨g,0,none⟩)/\W0.heap.size<=g/\(listed.getD s false=false->Fr w g)/\(listed.getD s false=true->Fu w g))
theorem Ac.none {a:Act} {o:Oper} {w:World} {R:Value->World->Prop} {D:Prop} (h:o.guard=none) (hD:D):Ac ops a o w R D:=by unfold Ac;rw[h];exact hD
theorem FW {listed:Array Bool} {i:Nat} (h:listed.getD i true=false):i<listed.size:=by
 rcases Nat.lt_or_ge i listed.size with h1|h1
 · exact h1
 · simp[Array.getElem?_eq_none h1]at h
theorem FX {listed:Array Bool} {i:Nat} (h:listed.getD i true=false):listed.getD i false=false:=by have:=FW h;simp[this]at h ⊢;exact h
end
end
section
open Go.RowKit
def YP (w:World) (g:Nat) (Z:Int) (k:Nat):Prop:=∃s A n c,CE w g #[.bool s,.slice A n c]/\AL w (.agg #[.bool s,.slice A n c]) Z k
structure IZ where
 made:Nat
 filled:Nat
 num:Int
 lim:Nat
def GZ (W0:World) (Bs:List IZ) (listed:Array Bool) (σ:Nat->Value) (w:World):Prop:=
 Below W0.heap.size W0 w/\(∀p∈Bs,listed.getD p.made false=true->∃g,σ p.made=.pointer (some ⟨g,0,none⟩)/\W0.heap.size<=g/\(listed.getD p.filled false=false->CE w g #[.bool false,.slice none 0 0])/\(listed.getD p.filled false=true->YP w g p.num p.lim)) /\
 (∀p∈Bs,∀q∈Bs,p.made≠q.made->listed.getD p.made false=true->listed.getD q.made false=true->σ p.made≠σ q.made)
variable {W0:World} {Bs:List IZ} {listed:Array Bool} {σ:Nat->Value} {w w':World} {i:Nat} {v:Value}
def ZC (Bs:List IZ) (i:Nat):Bool:=Bs.all fun p=>p.made != i&&p.filled != i
def Zr (Bs:List IZ):Bool:=Bs.all fun p=>Bs.all fun q=>(p.made != q.filled)&&(p.made==q.made || p.filled != q.filled)
end
end Go.Proofs.YtgohmojcopajoaaGreatDoor.Nu
