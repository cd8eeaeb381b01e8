/- Texts of one seat, put together: ExprHl ExprHn Region3. -/
import Derived.Test.YtgohmojcopajoaaGreatDoorH38
import Derived.Test.YtgohmojcopajoaaGreatDoorH30
import Derived.Test.YtgohmojcopajoaaGreatDoorH35
import Derived.Test.YtgohmojcopajoaaGreatDoorH15
import Derived.Test.YtgohmojcopajoaaGreatDoorH16
set_option linter.unusedVariables false
set_option linter.unusedSimpArgs false
set_option maxRecDepth 100000
set_option maxHeartbeats 16000000
namespace Go.Proofs.YtgohmojcopajoaaGreatDoor
section
open Go.RowKit
open Lx Ex
theorem Jc (b:Bool) (w0:World):Calls Tryz.prog 43 #[.bool b] w0 (VD (Cx (if b then 0 else 1) []) w0):=by
 obtain ⟨xf,hb,-⟩:=Ap 61 w0 #[.int .i64 0,.slice none 0 0,.bool false,.slice none 0 0,.bool false,.slice none 0 0];have HB:=Aa hb;clear hb;have HZ:=Aa (fun W k=>BN.nokids (BG w0.heap.size) (w:=W) (k:=k) (e:=false) (JY W 30000) (Nat.zero_le _));cases b
 ·
   go_enter Tryz.func43,Tryz.ntmps43;go_wp2_with (with_reducible refine Ab rfl 61 _ _ rfl w0.heap.size #[.int .i64 1,.slice none 0 0,.bool false,.slice none 0 0,.bool false,.slice none 0 0] rfl rfl _ xf (by kernel_rfl) rfl (by simp[Value.oneCell']) ?_;intro w9 k9 o9);refine Be rfl rfl k9 rfl ?_;exact ⟨_,_,_,_,_,_,_,_,_,_,_,_,rfl,HZ.out _ 1,HB.out.trans (o9.below HB.out.size (Nat.le_refl _))⟩
 ·
   go_enter Tryz.func43,Tryz.ntmps43;go_wp2_with (with_reducible refine Ab rfl 61 _ _ rfl w0.heap.size #[.int .i64 0,.slice none 0 0,.bool false,.slice none 0 0,.bool false,.slice none 0 0] rfl rfl _ xf (by kernel_rfl) rfl (by simp[Value.oneCell']) ?_;intro w9 k9 o9);refine Be rfl rfl k9 rfl ?_;exact ⟨_,_,_,_,_,_,_,_,_,_,_,_,rfl,HZ.out _ 0,HB.out.trans (o9.below HB.out.size (Nat.le_refl _))⟩
def KC:Tr->Prop
 |.leaf _=>True
 |.cmp l o r=>Bl l=true/\Bl r=true/\JQ l/\JQ r/\o<6
 |.deny t=>KC t
 |.both a b=>KC a/\KC b
 |.any a b=>KC a/\KC b
def Fe (V:Option Addr) (mv dv:Nat) (vs:List ByteArray) (u:Tr):Prop:=∀(S:Nat->Prop) (cs:List Value) (w:World),AW S w (gt u) cs->EN w V mv vs->mv<=9223372036854775807->Calls Tryz.prog 44 #[.agg cs.toArray,.slice V mv dv] w (RQ (AX vs u) w)
theorem Pw {S:Nat->Prop} {kd:Int} {us:List Tr} {Al:Option Addr} {nl cl:Nat} {Ar:Option Addr} {nr cr:Nat} {op:Int} {p q:ByteArray} {A:Option Addr} {n c:Nat} {V:Option Addr} {mv dv:Nat} {vs:List ByteArray} {w0 W1:World} (h:AW S w0 (.mk kd [] [] 0 ⟨#[]⟩ ⟨#[]⟩ (us.map gt)) [.int .i64 kd,.slice Al nl cl,.slice Ar nr cr,.int .i64 op,.string p,.string q,.slice A n c]) (hS:EN w0 V mv vs) (hm:mv<=9223372036854775807) (hb:Below w0.heap.size w0 W1) (hf:∀u∈us,Fe V mv dv vs u) :
  us.length=n/\n<=c/\c<=9223372036854775807/\∀j,j<n->∃(ba oa:Nat) (k2:Int) (Al2:Option Addr) (BO cl2:Nat) (Ar2:Option Addr) (nr2 cr2:Nat) (op2:Int) (p2 q2:ByteArray) (A2:Option Addr) (n2 c2:Nat) (rq:Option Fm),(us.map (AX vs))[j]?=some rq/\A=some ⟨ba,oa,none⟩/\ba<W1.heap.size/\W1.cell? ⟨ba,oa+j*7,none⟩=some (.int .i64 k2)/\W1.cell? ⟨ba,oa+j*7+1,none⟩=some (.slice Al2 BO cl2)/\W1.cell? ⟨ba,oa+j*7+2,none⟩=some (.slice Ar2 nr2 cr2)/\W1.cell? ⟨ba,oa+j*7+3,none⟩=some (.int .i64 op2)/\W1.cell? ⟨ba,oa+j*7+4,none⟩=some (.string p2)/\W1.cell? ⟨ba,oa+j*7+5,none⟩=some (.string q2)/\W1.cell? ⟨ba,oa+j*7+6,none⟩=some (.slice A2 n2 c2)/\∀W,Below W1.heap.size W1 W->Calls Tryz.prog 44 #[.agg #[.int .i64 k2,.slice Al2 BO cl2,.slice Ar2 nr2 cr2,.int .i64 op2,.string p2,.string q2,.slice A2 n2 c2],.slice V mv dv] W (RQ rq W):=by
 obtain ⟨l',r',ks,e,hl,hr,hk,hl1,hl2,hr1,hr2,hn1,hn2,hkid⟩:=h.parts;injection e with e1 e2 e3 e4 e5 e6 e7
 subst e7;rw[List.length_map]at hk;refine ⟨hk,hn1,hn2,fun j hj=>?_⟩;obtain ⟨ba,oa,u,k2,Al2,BO,cl2,Ar2,nr2,cr2,op2,p2,q2,A2,n2,c2,hA,-,hlt,hu,hti,e0,e1,e2,e3,e4,e5,e6⟩:=hkid j hj;rw[List.getElem?_map]at hu;cases hx:us[j]? with
 |none=>rw[hx]at hu;cases hu
 |some u'=>
  rw[hx]at hu;injection hu with hu
  subst hu;exact ⟨ba,oa,k2,Al2,BO,cl2,Ar2,nr2,cr2,op2,p2,q2,A2,n2,c2,AX vs u',(by rw[List.getElem?_map,hx];rfl),hA,Nat.lt_of_lt_of_le hlt hb.size,(Af hb hlt).trans e0,(Af hb hlt).trans e1,(Af hb hlt).trans e2,(Af hb hlt).trans e3,(Af hb hlt).trans e4,(Af hb hlt).trans e5,(Af hb hlt).trans e6,fun W hW=>hf u' (List.mem_of_getElem? hx) S _ W (hti.keep (AJ.of_below (hb.next hW))) (hS.below (hb.next hW)) hm⟩
theorem Px {V:Option Addr} {mv dv:Nat} {vs:List ByteArray}:Fe V mv dv vs (.leaf true):=by
 intro S cs w0 h hS hm;obtain ⟨kd,Al,nl,cl,Ar,nr,cr,op,p,q,A,n,c,rfl⟩:=h.shape;obtain ⟨l',r',ks,e,hl,hr,hk,hl1,hl2,hr1,hr2,hn1,hn2,hkid⟩:=h.parts;have e:GT.mk 0 [] [] 0 ⟨#[]⟩ ⟨#[]⟩ []=GT.mk kd l' r' op p q ks:=e;injection e with e1 e2 e3 e4 e5 e6 e7
 subst e1 e2 e3 e4 e5 e6 e7;clear hkid;obtain ⟨x1,xf,hb,hsz⟩:=Ax 33 61 w0 #[.int .i64 0,.slice Al nl cl,.slice Ar nr cr,.int .i64 0,.string ⟨#[]⟩,.string ⟨#[]⟩,.slice A n c] #[.int .i64 0,.slice none 0 0,.bool false,.slice none 0 0,.bool false,.slice none 0 0];have HB:=Aa hb;have XF:=Aa xf;have g0:=x1.cell 0 _ rfl;have g1:=x1.cell 1 _ rfl;have g2:=x1.cell 2 _ rfl;have g3:=x1.cell 3 _ rfl;have g4:=x1.cell 4 _ rfl;have g5:=x1.cell 5 _ rfl;have g6:=x1.cell 6 _ rfl
 have HT:=Aa (fun W=>Jc true W);have HSM:=Aa (show (AX vs (.leaf true)).isSome=true from rfl);have HFF:=Aa (fun F (h:AX vs (.leaf true)=some F)=>(show F=Cx (if true then 0 else 1) [] from by rw[AX]at h;injection h with h;exact h.symm));generalize AX vs (.leaf true)=R at *;clear hl hr hk h hS x1 xf hb;go_enter Tryz.func44,Tryz.ntmps44;go_wp2_with fail;refine (HT.out _).mono ?_;rintro e w4 ⟨kq9,fA9,fn9,fc9,fs9,fB9,fm9,fd9,ff9,fC9,fp9,fq9,rfl,hf4,b4⟩;have xf4:=XF.out.next b4
 have XF4:=Aa xf4;have HF4:=Aa (fun F hF=>by rw[HFF.out F hF];exact hf4:∀F,R=some F->BN _ w4 F _);have HB4:=Aa (HB.out.next b4);have HS4:=Aa (XF.out.lt);clear b4 hf4 g0 g1 g2 g3 g4 g5 g6;go_wp2_with (with_reducible refine Ab rfl 61 _ _ rfl (w0.heap.size+1) #[.int .i64 kq9,.slice fA9 fn9 fc9,.bool fs9,.slice fB9 fm9 fd9,.bool ff9,.slice fC9 fp9 fq9] rfl rfl _ xf4 (by kernel_rfl) rfl (by simp[Value.oneCell']) ?_;intro w9 k9 o9);refine A0 (v:=.bool true) rfl rfl rfl k9 rfl ?_
 exact ⟨kq9,fA9,fn9,fc9,fs9,fB9,fm9,fd9,ff9,fC9,fp9,fq9,by rw[HSM.out],fun F hF=>((HF4.out F hF).onlyF XF4.out o9 (fun b (hb:_<=b)=>by have:=HS4.out;omega)).sub (fun b _ (hb:_<=b)=>by have:=HS4.out;show _<=b;omega),HB4.out.trans (o9.below HB4.out.size (by omega))⟩
theorem NV {V:Option Addr} {mv dv:Nat} {vs:List ByteArray}:Fe V mv dv vs (.leaf false):=by
 intro S cs w0 h hS hm;obtain ⟨kd,Al,nl,cl,Ar,nr,cr,op,p,q,A,n,c,rfl⟩:=h.shape;obtain ⟨l',r',ks,e,hl,hr,hk,hl1,hl2,hr1,hr2,hn1,hn2,hkid⟩:=h.parts;have e:GT.mk 1 [] [] 0 ⟨#[]⟩ ⟨#[]⟩ []=GT.mk kd l' r' op p q ks:=e;injection e with e1 e2 e3 e4 e5 e6 e7
 subst e1 e2 e3 e4 e5 e6 e7;clear hkid;obtain ⟨x1,xf,hb,hsz⟩:=Ax 33 61 w0 #[.int .i64 1,.slice Al nl cl,.slice Ar nr cr,.int .i64 0,.string ⟨#[]⟩,.string ⟨#[]⟩,.slice A n c] #[.int .i64 0,.slice none 0 0,.bool false,.slice none 0 0,.bool false,.slice none 0 0];have HB:=Aa hb;have XF:=Aa xf;have g0:=x1.cell 0 _ rfl;have g1:=x1.cell 1 _ rfl;have g2:=x1.cell 2 _ rfl;have g3:=x1.cell 3 _ rfl;have g4:=x1.cell 4 _ rfl;have g5:=x1.cell 5 _ rfl;have g6:=x1.cell 6 _ rfl
 have HT:=Aa (fun W=>Jc false W);have HSM:=Aa (show (AX vs (.leaf false)).isSome=true from rfl);have HFF:=Aa (fun F (h:AX vs (.leaf false)=some F)=>(show F=Cx (if false then 0 else 1) [] from by rw[AX]at h;injection h with h;exact h.symm));generalize AX vs (.leaf false)=R at *;clear hl hr hk h hS x1 xf hb;go_enter Tryz.func44,Tryz.ntmps44;go_wp2_with fail;refine (HT.out _).mono ?_;rintro e w4 ⟨kq9,fA9,fn9,fc9,fs9,fB9,fm9,fd9,ff9,fC9,fp9,fq9,rfl,hf4,b4⟩
 have xf4:=XF.out.next b4;have XF4:=Aa xf4;have HF4:=Aa (fun F hF=>by rw[HFF.out F hF];exact hf4:∀F,R=some F->BN _ w4 F _);have HB4:=Aa (HB.out.next b4);have HS4:=Aa (XF.out.lt);clear b4 hf4 g0 g1 g2 g3 g4 g5 g6;go_wp2_with (with_reducible refine Ab rfl 61 _ _ rfl (w0.heap.size+1) #[.int .i64 kq9,.slice fA9 fn9 fc9,.bool fs9,.slice fB9 fm9 fd9,.bool ff9,.slice fC9 fp9 fq9] rfl rfl _ xf4 (by kernel_rfl) rfl (by simp[Value.oneCell']) ?_;intro w9 k9 o9)
 refine A0 (v:=.bool true) rfl rfl rfl k9 rfl ?_;exact ⟨kq9,fA9,fn9,fc9,fs9,fB9,fm9,fd9,ff9,fC9,fp9,fq9,by rw[HSM.out],fun F hF=>((HF4.out F hF).onlyF XF4.out o9 (fun b (hb:_<=b)=>by have:=HS4.out;omega)).sub (fun b _ (hb:_<=b)=>by have:=HS4.out;show _<=b;omega),HB4.out.trans (o9.below HB4.out.size (by omega))⟩
theorem RZ {V:Option Addr} {mv dv:Nat} {vs:List ByteArray} (l r:List Mn) (o:Nat) (hf:KC (.cmp l o r)):Fe V mv dv vs (.cmp l o r):=by
 intro S cs w0 h hS hm;obtain ⟨kd,Al,nl,cl,Ar,nr,cr,op,p,q,A,n,c,rfl⟩:=h.shape;obtain ⟨l',r',ks,e,hl,hr,hk,hl1,hl2,hr1,hr2,hn1,hn2,hkid⟩:=h.parts;have e:GT.mk 2 l r (o:Int) ⟨#[]⟩ ⟨#[]⟩ []=GT.mk kd l' r' op p q ks:=e;injection e with e1 e2 e3 e4 e5 e6 e7
 subst e1 e2 e3 e4 e5 e6 e7;clear hkid;obtain ⟨f1,f2,f3,f4,ho⟩:=hf;have h64:=GD f1;have h65:=GD f2;rw[hl.1]at h64;rw[hr.1]at h65;obtain ⟨x1,xf,hb,hsz⟩:=Ax 33 61 w0 #[.int .i64 2,.slice Al nl cl,.slice Ar nr cr,.int .i64 (o:Int),.string ⟨#[]⟩,.string ⟨#[]⟩,.slice A n c] #[.int .i64 0,.slice none 0 0,.bool false,.slice none 0 0,.bool false,.slice none 0 0];have HB:=Aa hb;have XF:=Aa xf;have g0:=x1.cell 0 _ rfl;have g1:=x1.cell 1 _ rfl;have g2:=x1.cell 2 _ rfl
 have g3:=x1.cell 3 _ rfl;have g4:=x1.cell 4 _ rfl;have g5:=x1.cell 5 _ rfl;have g6:=x1.cell 6 _ rfl;have HC:=Aa (RU (t:=gt (.cmp l o r)) (S:=S) (kd:=2) (op:=(o:Int)) (p:=⟨#[]⟩) (q:=⟨#[]⟩) (A:=A) (n:=n) (c:=c) (cl:=cl) (cr:=cr) V mv dv vs _ l r (hl.keep (AJ.of_below hb)) (hr.keep (AJ.of_below hb)) f3 f4 h64 h65 (hS.below hb) hm f1 f2 o ho rfl);show Calls _ _ _ _ (RQ (RR o (Ef vs l ([],0)) (Ef vs r ([],0))) w0);generalize RR o (Ef vs l ([],0)) (Ef vs r ([],0))=R at *
 clear hl hr hk h hS x1 xf hb f1 f2 f3 f4;go_enter Tryz.func44,Tryz.ntmps44;go_wp2_with fail;refine HC.out.mono ?_;rintro e w4 ⟨kq9,fA9,fn9,fc9,fs9,fB9,fm9,fd9,ff9,fC9,fp9,fq9,rfl,hf4,b4⟩;have xf4:=XF.out.next b4;have XF4:=Aa xf4;have HF4:=Aa hf4;have HB4:=Aa (HB.out.next b4);have HS4:=Aa (XF.out.lt);clear b4 hf4 g0 g1 g2 g3 g4 g5 g6
 go_wp2_with (with_reducible refine Ab rfl 61 _ _ rfl (w0.heap.size+1) #[.int .i64 kq9,.slice fA9 fn9 fc9,.bool fs9,.slice fB9 fm9 fd9,.bool ff9,.slice fC9 fp9 fq9] rfl rfl _ xf4 (by kernel_rfl) rfl (by simp[Value.oneCell']) ?_;intro w9 k9 o9);refine A0 (v:=.bool R.isSome) rfl rfl rfl k9 rfl ?_
 exact ⟨kq9,fA9,fn9,fc9,fs9,fB9,fm9,fd9,ff9,fC9,fp9,fq9,rfl,fun F hF=>((HF4.out F hF).onlyF XF4.out o9 (fun b (hb:_<=b)=>by have:=HS4.out;omega)).sub (fun b _ (hb:_<=b)=>by have:=HS4.out;show _<=b;omega),HB4.out.trans (o9.below HB4.out.size (by omega))⟩
theorem Py {V:Option Addr} {mv dv:Nat} {vs:List ByteArray} (t:Tr) (ht:Fe V mv dv vs t):Fe V mv dv vs (.deny t):=by
 intro S cs w0 h hS hm;obtain ⟨kd,Al,nl,cl,Ar,nr,cr,op,p,q,A,n,c,rfl⟩:=h.shape;obtain ⟨l',r',ks,e,hl,hr,hk,hl1,hl2,hr1,hr2,hn1,hn2,hkid⟩:=h.parts;have e:GT.mk 3 [] [] 0 ⟨#[]⟩ ⟨#[]⟩ [gt t]=GT.mk kd l' r' op p q ks:=e;injection e with e1 e2 e3 e4 e5 e6 e7
 subst e1 e2 e3 e4 e5 e6 e7;clear hkid;obtain ⟨x1,xf,hb,hsz⟩:=Ax 33 61 w0 #[.int .i64 3,.slice Al nl cl,.slice Ar nr cr,.int .i64 0,.string ⟨#[]⟩,.string ⟨#[]⟩,.slice A n c] #[.int .i64 0,.slice none 0 0,.bool false,.slice none 0 0,.bool false,.slice none 0 0];have HB:=Aa hb;have XF:=Aa xf;have g0:=x1.cell 0 _ rfl;have g1:=x1.cell 1 _ rfl;have g2:=x1.cell 2 _ rfl;have g3:=x1.cell 3 _ rfl;have g4:=x1.cell 4 _ rfl;have g5:=x1.cell 5 _ rfl;have g6:=x1.cell 6 _ rfl
 obtain ⟨hn9,hc1,hc2,hkk⟩:=Pw (us:=[t]) (dv:=dv) h hS hm hb (by intro u hu;simp only[List.mem_cons,List.not_mem_nil,or_false]at hu;subst hu;exact ht)
 have HJ:=Aa (JZ 3 A n c V mv dv vs (List.map (AX vs) [t]) _ (by rw[<-hn9];simp) (by rw[<-hn9];simp) hc1 hc2 hkk);rw[show AX vs (.deny t)=(Ic (List.map (AX vs) [t])).map (Cx 3) from by rw[AX];simp only[List.map_cons,List.map_nil];cases AX vs t<;>rfl]
 generalize (Ic (List.map (AX vs) [t])).map (Cx 3)=R at *;clear hl hr hk h hS x1 xf hb hkk hn9;go_enter Tryz.func44,Tryz.ntmps44;go_wp2_with fail;refine HJ.out.mono ?_;rintro e w4 ⟨kq9,fA9,fn9,fc9,fs9,fB9,fm9,fd9,ff9,fC9,fp9,fq9,rfl,hf4,b4⟩;have xf4:=XF.out.next b4;have XF4:=Aa xf4;have HF4:=Aa hf4;have HB4:=Aa (HB.out.next b4);have HS4:=Aa (XF.out.lt);clear b4 hf4 g0 g1 g2 g3 g4 g5 g6
 go_wp2_with (with_reducible refine Ab rfl 61 _ _ rfl (w0.heap.size+1) #[.int .i64 kq9,.slice fA9 fn9 fc9,.bool fs9,.slice fB9 fm9 fd9,.bool ff9,.slice fC9 fp9 fq9] rfl rfl _ xf4 (by kernel_rfl) rfl (by simp[Value.oneCell']) ?_;intro w9 k9 o9);refine A0 (v:=.bool R.isSome) rfl rfl rfl k9 rfl ?_
 exact ⟨kq9,fA9,fn9,fc9,fs9,fB9,fm9,fd9,ff9,fC9,fp9,fq9,rfl,fun F hF=>((HF4.out F hF).onlyF XF4.out o9 (fun b (hb:_<=b)=>by have:=HS4.out;omega)).sub (fun b _ (hb:_<=b)=>by have:=HS4.out;show _<=b;omega),HB4.out.trans (o9.below HB4.out.size (by omega))⟩
theorem Pz {V:Option Addr} {mv dv:Nat} {vs:List ByteArray} (a b:Tr) (ha:Fe V mv dv vs a) (hb2:Fe V mv dv vs b):Fe V mv dv vs (.both a b):=by
 intro S cs w0 h hS hm;obtain ⟨kd,Al,nl,cl,Ar,nr,cr,op,p,q,A,n,c,rfl⟩:=h.shape;obtain ⟨l',r',ks,e,hl,hr,hk,hl1,hl2,hr1,hr2,hn1,hn2,hkid⟩:=h.parts;have e:GT.mk 4 [] [] 0 ⟨#[]⟩ ⟨#[]⟩ [gt a,gt b]=GT.mk kd l' r' op p q ks:=e;injection e with e1 e2 e3 e4 e5 e6 e7
 subst e1 e2 e3 e4 e5 e6 e7;clear hkid;obtain ⟨x1,xf,hb,hsz⟩:=Ax 33 61 w0 #[.int .i64 4,.slice Al nl cl,.slice Ar nr cr,.int .i64 0,.string ⟨#[]⟩,.string ⟨#[]⟩,.slice A n c] #[.int .i64 0,.slice none 0 0,.bool false,.slice none 0 0,.bool false,.slice none 0 0];have HB:=Aa hb;have XF:=Aa xf;have g0:=x1.cell 0 _ rfl;have g1:=x1.cell 1 _ rfl;have g2:=x1.cell 2 _ rfl;have g3:=x1.cell 3 _ rfl;have g4:=x1.cell 4 _ rfl;have g5:=x1.cell 5 _ rfl;have g6:=x1.cell 6 _ rfl
 obtain ⟨hn9,hc1,hc2,hkk⟩:=Pw (us:=[a,b]) (dv:=dv) h hS hm hb (by intro u hu;simp only[List.mem_cons,List.not_mem_nil,or_false]at hu;rcases hu with rfl|rfl<;>first|exact ha|exact hb2)
 have HJ:=Aa (JZ 4 A n c V mv dv vs (List.map (AX vs) [a,b]) _ (by rw[<-hn9];simp) (by rw[<-hn9];simp) hc1 hc2 hkk);rw[show AX vs (.both a b)=(Ic (List.map (AX vs) [a,b])).map (Cx 4) from by rw[AX];simp only[List.map_cons,List.map_nil];cases AX vs a<;>cases AX vs b<;>rfl]
 generalize (Ic (List.map (AX vs) [a,b])).map (Cx 4)=R at *;clear hl hr hk h hS x1 xf hb hkk hn9;go_enter Tryz.func44,Tryz.ntmps44;go_wp2_with fail;refine HJ.out.mono ?_;rintro e w4 ⟨kq9,fA9,fn9,fc9,fs9,fB9,fm9,fd9,ff9,fC9,fp9,fq9,rfl,hf4,b4⟩;have xf4:=XF.out.next b4;have XF4:=Aa xf4;have HF4:=Aa hf4;have HB4:=Aa (HB.out.next b4);have HS4:=Aa (XF.out.lt);clear b4 hf4 g0 g1 g2 g3 g4 g5 g6
 go_wp2_with (with_reducible refine Ab rfl 61 _ _ rfl (w0.heap.size+1) #[.int .i64 kq9,.slice fA9 fn9 fc9,.bool fs9,.slice fB9 fm9 fd9,.bool ff9,.slice fC9 fp9 fq9] rfl rfl _ xf4 (by kernel_rfl) rfl (by simp[Value.oneCell']) ?_;intro w9 k9 o9);refine A0 (v:=.bool R.isSome) rfl rfl rfl k9 rfl ?_
 exact ⟨kq9,fA9,fn9,fc9,fs9,fB9,fm9,fd9,ff9,fC9,fp9,fq9,rfl,fun F hF=>((HF4.out F hF).onlyF XF4.out o9 (fun b (hb:_<=b)=>by have:=HS4.out;omega)).sub (fun b _ (hb:_<=b)=>by have:=HS4.out;show _<=b;omega),HB4.out.trans (o9.below HB4.out.size (by omega))⟩
theorem Sa {V:Option Addr} {mv dv:Nat} {vs:List ByteArray} (a b:Tr) (ha:Fe V mv dv vs a) (hb2:Fe V mv dv vs b):Fe V mv dv vs (.any a b):=by
 intro S cs w0 h hS hm;obtain ⟨kd,Al,nl,cl,Ar,nr,cr,op,p,q,A,n,c,rfl⟩:=h.shape;obtain ⟨l',r',ks,e,hl,hr,hk,hl1,hl2,hr1,hr2,hn1,hn2,hkid⟩:=h.parts;have e:GT.mk 5 [] [] 0 ⟨#[]⟩ ⟨#[]⟩ [gt a,gt b]=GT.mk kd l' r' op p q ks:=e;injection e with e1 e2 e3 e4 e5 e6 e7
 subst e1 e2 e3 e4 e5 e6 e7;clear hkid;obtain ⟨x1,xf,hb,hsz⟩:=Ax 33 61 w0 #[.int .i64 5,.slice Al nl cl,.slice Ar nr cr,.int .i64 0,.string ⟨#[]⟩,.string ⟨#[]⟩,.slice A n c] #[.int .i64 0,.slice none 0 0,.bool false,.slice none 0 0,.bool false,.slice none 0 0];have HB:=Aa hb;have XF:=Aa xf;have g0:=x1.cell 0 _ rfl;have g1:=x1.cell 1 _ rfl;have g2:=x1.cell 2 _ rfl;have g3:=x1.cell 3 _ rfl;have g4:=x1.cell 4 _ rfl;have g5:=x1.cell 5 _ rfl;have g6:=x1.cell 6 _ rfl
 obtain ⟨hn9,hc1,hc2,hkk⟩:=Pw (us:=[a,b]) (dv:=dv) h hS hm hb (by intro u hu;simp only[List.mem_cons,List.not_mem_nil,or_false]at hu;rcases hu with rfl|rfl<;>first|exact ha|exact hb2)
 have HJ:=Aa (JZ 5 A n c V mv dv vs (List.map (AX vs) [a,b]) _ (by rw[<-hn9];simp) (by rw[<-hn9];simp) hc1 hc2 hkk);rw[show AX vs (.any a b)=(Ic (List.map (AX vs) [a,b])).map (Cx 5) from by rw[AX];simp only[List.map_cons,List.map_nil];cases AX vs a<;>cases AX vs b<;>rfl]
 generalize (Ic (List.map (AX vs) [a,b])).map (Cx 5)=R at *;clear hl hr hk h hS x1 xf hb hkk hn9;go_enter Tryz.func44,Tryz.ntmps44;go_wp2_with fail;refine HJ.out.mono ?_;rintro e w4 ⟨kq9,fA9,fn9,fc9,fs9,fB9,fm9,fd9,ff9,fC9,fp9,fq9,rfl,hf4,b4⟩;have xf4:=XF.out.next b4;have XF4:=Aa xf4;have HF4:=Aa hf4;have HB4:=Aa (HB.out.next b4);have HS4:=Aa (XF.out.lt);clear b4 hf4 g0 g1 g2 g3 g4 g5 g6
 go_wp2_with (with_reducible refine Ab rfl 61 _ _ rfl (w0.heap.size+1) #[.int .i64 kq9,.slice fA9 fn9 fc9,.bool fs9,.slice fB9 fm9 fd9,.bool ff9,.slice fC9 fp9 fq9] rfl rfl _ xf4 (by kernel_rfl) rfl (by simp[Value.oneCell']) ?_;intro w9 k9 o9);refine A0 (v:=.bool R.isSome) rfl rfl rfl k9 rfl ?_
 exact ⟨kq9,fA9,fn9,fc9,fs9,fB9,fm9,fd9,ff9,fC9,fp9,fq9,rfl,fun F hF=>((HF4.out F hF).onlyF XF4.out o9 (fun b (hb:_<=b)=>by have:=HS4.out;omega)).sub (fun b _ (hb:_<=b)=>by have:=HS4.out;show _<=b;omega),HB4.out.trans (o9.below HB4.out.size (by omega))⟩
theorem Xd {V:Option Addr} {mv dv:Nat} {vs:List ByteArray} (u:Tr) (hf:KC u):Fe V mv dv vs u:=by
 induction u with
 |leaf b=>
  cases b
  · exact NV
  · exact Px
 |cmp l o r=>exact RZ l r o hf
 |deny t ih=>exact Py t (ih hf)
 |both a b iha ihb=>exact Pz a b (iha hf.1) (ihb hf.2)
 |any a b iha ihb=>exact Sa a b (iha hf.1) (ihb hf.2)
end
section
open Go.RowKit
open Lx Ex
theorem Wi {S:Nat->Prop} {w:World} {k:Int} {vs:List Value} (h:BN S w (Cx (if false then 0 else 1) []) (.int .i64 k::vs)):k=1:=by cases h;rfl
theorem Qn (u:Tr):∀lv,right lv u->IK (gt u)->KC u:=by
 induction u with
 |leaf b=>intro lv _ _;trivial
 |cmp l o r=>
  intro lv h hz;rw[right]at h;cases hz with
  |mk _ _ _ _ _ _ _ z1 z2 z3 z4 z5=>exact ⟨(H2 l).2 h.1,(H2 r).2 h.2.2,z1,z2,h.2.1⟩
 |deny t ih=>
  intro lv h hz;rw[right]at h;obtain ⟨lv',h'⟩:∃lv',right lv' t:=by
   split at h
   · exact ⟨_,h.2⟩
   · exact ⟨_,h.2⟩
  cases hz with
  |mk _ _ _ _ _ _ _ z1 z2 z3 z4 z5=>exact ih _ h' (z5 _ (List.mem_cons_self ..))
 |both a b iha ihb=>
  intro lv h hz;rw[right]at h;obtain ⟨lv1,h1⟩:∃lv',right lv' a:=by
   have:=h.1;split at this
   · exact ⟨_,this.2⟩
   · exact ⟨_,this⟩
  obtain ⟨lv2,h2⟩:∃lv',right lv' b:=by
   have:=h.2;split at this
   · exact ⟨_,this.2⟩
   · exact ⟨_,this⟩
  cases hz with
  |mk _ _ _ _ _ _ _ z1 z2 z3 z4 z5=>exact ⟨iha _ h1 (z5 _ (List.mem_cons_self ..)),ihb _ h2 (z5 _ (List.mem_cons_of_mem _ (List.mem_cons_self ..)))⟩
 |any a b iha ihb=>
  intro lv h hz;rw[right]at h;obtain ⟨lv2,h2⟩:∃lv',right lv' b:=by
   have:=h.2;split at this
   · exact ⟨_,this.2⟩
   · exact ⟨_,this⟩
  cases hz with
  |mk _ _ _ _ _ _ _ z1 z2 z3 z4 z5=>exact ⟨iha _ h.1 (z5 _ (List.mem_cons_self ..)),ihb _ h2 (z5 _ (List.mem_cons_of_mem _ (List.mem_cons_self ..)))⟩
def VF (r:Option Fm) (w:World) (e:Ending) (w':World):Prop:=∃(k:Int) (A:Option Addr) (n c:Nat) (s:Bool) (B:Option Addr) (m d:Nat) (f:Bool) (C:Option Addr) (p q:Nat),e=.returned (.tuple #[.agg #[.int .i64 k,.slice A n c,.bool s,.slice B m d,.bool f,.slice C p q],.bool r.isSome])/\(∀F,r=some F->BN (BG w.heap.size) w' F [.int .i64 k,.slice A n c,.bool s,.slice B m d,.bool f,.slice C p q])/\(r=none->k=1)/\Below w.heap.size w w'
theorem VG {S:Nat->Prop} {t:GT} {kd:Int} {Al:Option Addr} {nl cl:Nat} {Ar:Option Addr} {nr cr:Nat} {op:Int} {p q:ByteArray} {A:Option Addr} {n c:Nat} (V:Option Addr) (mv dv:Nat) (vs:List ByteArray) (w0:World) (h:AW S w0 t [.int .i64 kd,.slice Al nl cl,.slice Ar nr cr,.int .i64 op,.string p,.string q,.slice A n c]) (hz:IK t) (hr:AF t 60=false):Calls Tryz.prog 21 #[.agg #[.int .i64 kd,.slice Al nl cl,.slice Ar nr cr,.int .i64 op,.string p,.string q,.slice A n c],.slice V mv dv] w0 (VF none w0):=by
 obtain ⟨x1,xf,hb,hsz⟩:=Ax 33 61 w0 #[.int .i64 kd,.slice Al nl cl,.slice Ar nr cr,.int .i64 op,.string p,.string q,.slice A n c] #[.int .i64 0,.slice none 0 0,.bool false,.slice none 0 0,.bool false,.slice none 0 0];have HB:=Aa hb;have X1:=Aa x1;have XF:=Aa xf;have g0:=x1.cell 0 _ rfl;have g1:=x1.cell 1 _ rfl;have g2:=x1.cell 2 _ rfl;have g3:=x1.cell 3 _ rfl;have g4:=x1.cell 4 _ rfl;have g5:=x1.cell 5 _ rfl;have g6:=x1.cell 6 _ rfl
 have HR:=Aa (Fb _ (h.keep (AJ.of_below hb)) hz);rw[hr]at HR;have HTF:=Aa (fun W=>Jc false W);clear h hz hr x1 xf hb;go_enter Tryz.func21,Tryz.ntmps21;go_wp2_with fail;refine HR.out.mono ?_;rintro e w2 ⟨rfl,b2⟩;have HB2:=Aa (HB.out.next b2);have XF2:=Aa (XF.out.next b2);clear b2 g0 g1 g2 g3 g4 g5 g6;go_wp2_with fail;refine (HTF.out _).mono ?_;rintro e w5 ⟨k5,A5,n5,c5,s5,B5,m5,d5,f5,C5,p5,q5,rfl,hf5,b5⟩;obtain rfl:k5=1:=Wi hf5;have xf5:=XF2.out.next b5
 have HB5:=Aa (HB2.out.next b5);clear b5 hf5;go_wp2_with (with_reducible refine Ab rfl 61 _ _ rfl (w0.heap.size+1) #[.int .i64 1,.slice A5 n5 c5,.bool s5,.slice B5 m5 d5,.bool f5,.slice C5 p5 q5] rfl rfl _ xf5 (by kernel_rfl) rfl (by simp[Value.oneCell']) ?_;intro w9 k9 o9);refine A0 (v:=.bool false) rfl rfl rfl k9 rfl ?_;exact ⟨1,A5,n5,c5,s5,B5,m5,d5,f5,C5,p5,q5,rfl,(fun F hF=>by cases hF),(fun _=>rfl),HB5.out.trans (o9.below HB5.out.size (by omega))⟩
theorem Xe {S:Nat->Prop} {u:Tr} {kd:Int} {Al:Option Addr} {nl cl:Nat} {Ar:Option Addr} {nr cr:Nat} {op:Int} {p q:ByteArray} {A:Option Addr} {n c:Nat} (V:Option Addr) (mv dv:Nat) (vs:List ByteArray) (w0:World) (h:AW S w0 (gt u) [.int .i64 kd,.slice Al nl cl,.slice Ar nr cr,.int .i64 op,.string p,.string q,.slice A n c]) (hz:IK (gt u)) (hr:right 60 u) (hS:EN w0 V mv vs) (hm:mv<=9223372036854775807):Calls Tryz.prog 21 #[.agg #[.int .i64 kd,.slice Al nl cl,.slice Ar nr cr,.int .i64 op,.string p,.string q,.slice A n c],.slice V mv dv] w0 (VF (AX vs u) w0):=by
 obtain ⟨x1,xf,hb,hsz⟩:=Ax 33 61 w0 #[.int .i64 kd,.slice Al nl cl,.slice Ar nr cr,.int .i64 op,.string p,.string q,.slice A n c] #[.int .i64 0,.slice none 0 0,.bool false,.slice none 0 0,.bool false,.slice none 0 0];have HB:=Aa hb;have X1:=Aa x1;have XF:=Aa xf;have g0:=x1.cell 0 _ rfl;have g1:=x1.cell 1 _ rfl;have g2:=x1.cell 2 _ rfl;have g3:=x1.cell 3 _ rfl;have g4:=x1.cell 4 _ rfl;have g5:=x1.cell 5 _ rfl;have g6:=x1.cell 6 _ rfl
 have HR:=Aa (Fb _ (h.keep (AJ.of_below hb)) hz);rw[show AF (gt u) 60=true from (Fa u 60).2 hr]at HR;have HTF:=Aa (fun W=>Jc false W);have HFM:=Aa (fun W (hW:Below w0.heap.size w0 W)=>Xd (V:=V) (mv:=mv) (dv:=dv) (vs:=vs) u (Qn u 60 hr hz) S _ W (h.keep (AJ.of_below hW)) (hS.below hW) hm);generalize AX vs u=R at *;clear h hz hr hS hm x1 xf hb;cases R with
 |none=>
  go_enter Tryz.func21,Tryz.ntmps21;go_wp2_with fail;refine HR.out.mono ?_;rintro e w2 ⟨rfl,b2⟩;have HB2:=Aa (HB.out.next b2);have X2:=Aa (X1.out.next b2);have XF2:=Aa (XF.out.next b2);clear b2 g0 g1 g2 g3 g4 g5 g6;have g0:=X2.out.cell 0 _ rfl;have g1:=X2.out.cell 1 _ rfl;have g2:=X2.out.cell 2 _ rfl;have g3:=X2.out.cell 3 _ rfl;have g4:=X2.out.cell 4 _ rfl;have g5:=X2.out.cell 5 _ rfl;have g6:=X2.out.cell 6 _ rfl;go_wp2_with fail;refine (HFM.out _ HB2.out).mono ?_
  rintro e w4 ⟨kq9,fA9,fn9,fc9,fs9,fB9,fm9,fd9,ff9,fC9,fp9,fq9,rfl,hf4,b4⟩;have hb5:=Ae w4 (.cells #[.int .i64 kq9,.slice fA9 fn9 fc9,.bool fs9,.slice fB9 fm9 fd9,.bool ff9,.slice fC9 fp9 fq9] 61);have XF4:=Aa ((XF2.out.next b4).next hb5);have HB4:=Aa ((HB2.out.next b4).next hb5);clear b4 hb5 hf4 g0 g1 g2 g3 g4 g5 g6;go_wp2_with fail;refine (HTF.out _).mono ?_;rintro e w5 ⟨k5,A5,n5,c5,s5,B5,m5,d5,f5,C5,p5,q5,rfl,hf5,b5⟩;obtain rfl:k5=1:=Wi hf5;have xf5:=XF4.out.next b5
  have HB5:=Aa (HB4.out.next b5);clear b5 hf5;go_wp2_with (with_reducible refine Ab rfl 61 _ _ rfl (w0.heap.size+1) #[.int .i64 1,.slice A5 n5 c5,.bool s5,.slice B5 m5 d5,.bool f5,.slice C5 p5 q5] rfl rfl _ xf5 (by kernel_rfl) rfl (by simp[Value.oneCell']) ?_;intro w9 k9 o9);refine A0 (v:=.bool false) rfl rfl rfl k9 rfl ?_;exact ⟨1,A5,n5,c5,s5,B5,m5,d5,f5,C5,p5,q5,rfl,(fun F hF=>by cases hF),(fun _=>rfl),HB5.out.trans (o9.below HB5.out.size (by omega))⟩
 |some F0=>
  go_enter Tryz.func21,Tryz.ntmps21;go_wp2_with fail;refine HR.out.mono ?_;rintro e w2 ⟨rfl,b2⟩;have HB2:=Aa (HB.out.next b2);have X2:=Aa (X1.out.next b2);have XF2:=Aa (XF.out.next b2);clear b2 g0 g1 g2 g3 g4 g5 g6;have g0:=X2.out.cell 0 _ rfl;have g1:=X2.out.cell 1 _ rfl;have g2:=X2.out.cell 2 _ rfl;have g3:=X2.out.cell 3 _ rfl;have g4:=X2.out.cell 4 _ rfl;have g5:=X2.out.cell 5 _ rfl;have g6:=X2.out.cell 6 _ rfl;go_wp2_with fail;refine (HFM.out _ HB2.out).mono ?_
  rintro e w4 ⟨kq9,fA9,fn9,fc9,fs9,fB9,fm9,fd9,ff9,fC9,fp9,fq9,rfl,hf4,b4⟩;have hb5:=Ae w4 (.cells #[.int .i64 kq9,.slice fA9 fn9 fc9,.bool fs9,.slice fB9 fm9 fd9,.bool ff9,.slice fC9 fp9 fq9] 61);have xf5:=(XF2.out.next b4).next hb5;have XF5:=Aa xf5;have HF5:=Aa ((hf4 F0 rfl).blw hb5);have HS5:=Aa (XF2.out.lt);have HB5:=Aa ((HB2.out.next b4).next hb5);clear b4 hb5 hf4 g0 g1 g2 g3 g4 g5 g6
  go_wp2_with (with_reducible refine Ab rfl 61 _ _ rfl (w0.heap.size+1) #[.int .i64 kq9,.slice fA9 fn9 fc9,.bool fs9,.slice fB9 fm9 fd9,.bool ff9,.slice fC9 fp9 fq9] rfl rfl _ xf5 (by kernel_rfl) rfl (by simp[Value.oneCell']) ?_;intro w9 k9 o9);refine A0 (v:=.bool true) rfl rfl rfl k9 rfl ?_;refine ⟨kq9,fA9,fn9,fc9,fs9,fB9,fm9,fd9,ff9,fC9,fp9,fq9,rfl,fun F hF=>?_,(fun h=>by cases h),HB5.out.trans (o9.below HB5.out.size (by omega))⟩;injection hF with hF
  subst hF;exact (HF5.out.onlyF XF5.out o9 (fun b (hb:_<=b)=>by have:=HS5.out;omega)).sub (fun b _ (hb:_<=b)=>by have:=HS5.out;show _<=b;omega)
end
end Go.Proofs.YtgohmojcopajoaaGreatDoor
namespace Go.Proofs.YtgohmojcopajoaaGreatDoor.Nu
section
open Go.RowKit
section
variable {P:Program} {ops:Array Oper} {Q:Exit->Act->World->Prop}
def Ym (P:Program) (ops:Array Oper) (a0:Act) (F:Nat->Value->World->Prop) (G:Array Bool->(Nat->Value)->World->Prop) (i:Nat) (o:Oper):Prop:=
 ∀(listed:Array Bool) (σ:Nat->Value) (w:World) (a:Act),(∀j t,An ops j=some t->listed.getD j false=true->a.tmps.getD t undef=σ j)->(∀t,(∀j,An ops j=some t->listed.getD j false=false)->a.tmps.getD t undef=a0.tmps.getD t undef) ->
  listed.getD i true=false->AQ .any ops listed->(∀e∈o.after,Region.binds .any e=true->listed.getD e.on false=true)->G listed σ w->(∀j,listed.getD j false=true->F j (σ j) w) ->
  Ac ops a o w (fun v w'=>(∀j,listed.getD j false=true->F j (σ j) w')/\F i v w'/\G (listed.setIfInBounds i true) (upd σ i v) w') (Does P a o w (fun v w'=>(∀j,listed.getD j false=true->F j (σ j) w')/\F i v w'/\G (listed.setIfInBounds i true) (upd σ i v) w'))
def Z7 (P:Program) (ops:Array Oper) (a0:Act) (T:World->World->Prop) (F:Nat->Value->World->Prop) (G:Array Bool->(Nat->Value)->World->Prop) (app:Nat) (i:Nat) (o:Oper):Prop:=
 (i≠app->KW P ops a0 T F G i o)/\(i=app->Ym P ops a0 F G i o)
end
def GM (app:Nat) (M:Nat->Value->World->Prop) (W0:World) (listed:Array Bool) (σ:Nat->Value) (w:World):Prop:=
 Below W0.heap.size W0 w/\(listed.getD app false=false->∀j,listed.getD j false=true->M j (σ j) w)
def Yn (w:World) (base:Nat) (v:Value) (n:Nat) (L:List (Int×Int)) (k:Nat):Prop:=∃rs:List PV,Ak 157 3 w base v n (flat rs)/\rs.length=n/\DC rs=L/\∀p∈rs,AL w p.num p.Z k
end
end Go.Proofs.YtgohmojcopajoaaGreatDoor.Nu
