/- Texts of one seat, put together: ExprFp ExprC12. -/
import Derived.Test.YtgohmojcopajoaaGreatDoorH29
import Derived.Test.YtgohmojcopajoaaGreatDoorH25
set_option linter.unusedVariables false
set_option linter.unusedSimpArgs false
set_option maxRecDepth 100000
set_option maxHeartbeats 16000000
namespace Go.Proofs.YtgohmojcopajoaaGreatDoor
section
open Go.RowKit
open Lx Ex
def NJ:Tr->Int
 |.leaf true=>0
 |.leaf false=>1
 |.cmp _ _ _=>2
 |.deny _=>3
 |.both _ _=>4
 |.any _ _=>5
def V1 (vs:List ByteArray):Tr->Prop
 |.leaf _=>True
 |.cmp l o r=>Bl l=true/\Bl r=true/\JQ l/\JQ r/\(Ef vs l ([],0)).isSome=true/\(Ef vs r ([],0)).isSome=true/\(o=0\/o=3)
 |.deny t=>V1 vs t
 |.both a b=>V1 vs a/\V1 vs b
 |.any a b=>V1 vs a/\V1 vs b
def DF (V:Option Addr) (mv dv:Nat) (vs:List ByteArray) (u:Tr):Prop:=∀(S:Nat->Prop) (cs:List Value) (w:World),AW S w (gt u) cs->EN w V mv vs->mv<=9223372036854775807->Calls Tryz.prog 44 #[.agg cs.toArray,.slice V mv dv] w (Xn (NJ u) true w)
theorem Mp {S:Nat->Prop} {kd:Int} {us:List Tr} {Al:Option Addr} {nl cl:Nat} {Ar:Option Addr} {nr cr:Nat} {op:Int} {p q:ByteArray} {A:Option Addr} {n c:Nat} {V:Option Addr} {mv dv:Nat} {vs:List ByteArray} {w0 W1:World} (h:AW S w0 (.mk kd [] [] 0 ⟨#[]⟩ ⟨#[]⟩ (us.map gt)) [.int .i64 kd,.slice Al nl cl,.slice Ar nr cr,.int .i64 op,.string p,.string q,.slice A n c]) (hS:EN w0 V mv vs) (hm:mv<=9223372036854775807) (hb:Below w0.heap.size w0 W1) (hf:∀u∈us,DF V mv dv vs u) :
  us.length=n/\n<=c/\c<=9223372036854775807/\∀j,j<n->∃(ba oa:Nat) (k2:Int) (Al2:Option Addr) (BO cl2:Nat) (Ar2:Option Addr) (nr2 cr2:Nat) (op2:Int) (p2 q2:ByteArray) (A2:Option Addr) (n2 c2:Nat) (kq:Int),A=some ⟨ba,oa,none⟩/\ba<W1.heap.size/\W1.cell? ⟨ba,oa+j*7,none⟩=some (.int .i64 k2)/\W1.cell? ⟨ba,oa+j*7+1,none⟩=some (.slice Al2 BO cl2)/\W1.cell? ⟨ba,oa+j*7+2,none⟩=some (.slice Ar2 nr2 cr2)/\W1.cell? ⟨ba,oa+j*7+3,none⟩=some (.int .i64 op2)/\W1.cell? ⟨ba,oa+j*7+4,none⟩=some (.string p2)/\W1.cell? ⟨ba,oa+j*7+5,none⟩=some (.string q2)/\W1.cell? ⟨ba,oa+j*7+6,none⟩=some (.slice A2 n2 c2)/\∀W,Below W1.heap.size W1 W->Calls Tryz.prog 44 #[.agg #[.int .i64 k2,.slice Al2 BO cl2,.slice Ar2 nr2 cr2,.int .i64 op2,.string p2,.string q2,.slice A2 n2 c2],.slice V mv dv] W (Xn kq true W):=by
 obtain ⟨l',r',ks,e,hl,hr,hk,hl1,hl2,hr1,hr2,hn1,hn2,hkid⟩:=h.parts;injection e with e1 e2 e3 e4 e5 e6 e7
 subst e7;rw[List.length_map]at hk;refine ⟨hk,hn1,hn2,fun j hj=>?_⟩;obtain ⟨ba,oa,u,k2,Al2,BO,cl2,Ar2,nr2,cr2,op2,p2,q2,A2,n2,c2,hA,-,hlt,hu,hti,e0,e1,e2,e3,e4,e5,e6⟩:=hkid j hj;rw[List.getElem?_map]at hu;cases hx:us[j]? with
 |none=>rw[hx]at hu;cases hu
 |some u'=>
  rw[hx]at hu;injection hu with hu
  subst hu;exact ⟨ba,oa,k2,Al2,BO,cl2,Ar2,nr2,cr2,op2,p2,q2,A2,n2,c2,NJ u',hA,Nat.lt_of_lt_of_le hlt hb.size,(Af hb hlt).trans e0,(Af hb hlt).trans e1,(Af hb hlt).trans e2,(Af hb hlt).trans e3,(Af hb hlt).trans e4,(Af hb hlt).trans e5,(Af hb hlt).trans e6,fun W hW=>hf u' (List.mem_of_getElem? hx) S _ W (hti.keep (AJ.of_below (hb.next hW))) (hS.below (hb.next hW)) hm⟩
theorem Rr {V:Option Addr} {mv dv:Nat} {vs:List ByteArray}:DF V mv dv vs (.leaf true):=by
 intro S cs w0 h hS hm;obtain ⟨kd,Al,nl,cl,Ar,nr,cr,op,p,q,A,n,c,rfl⟩:=h.shape;obtain ⟨l',r',ks,e,hl,hr,hk,hl1,hl2,hr1,hr2,hn1,hn2,hkid⟩:=h.parts;have e:GT.mk 0 [] [] 0 ⟨#[]⟩ ⟨#[]⟩ []=GT.mk kd l' r' op p q ks:=e;injection e with e1 e2 e3 e4 e5 e6 e7
 subst e1 e2 e3 e4 e5 e6 e7;clear hkid;obtain ⟨x1,xf,hb,hsz⟩:=Ax 33 61 w0 #[.int .i64 0,.slice Al nl cl,.slice Ar nr cr,.int .i64 0,.string ⟨#[]⟩,.string ⟨#[]⟩,.slice A n c] #[.int .i64 0,.slice none 0 0,.bool false,.slice none 0 0,.bool false,.slice none 0 0];have HB:=Aa hb;have XF:=Aa xf;have g0:=x1.cell 0 _ rfl;have g1:=x1.cell 1 _ rfl;have g2:=x1.cell 2 _ rfl;have g3:=x1.cell 3 _ rfl;have g4:=x1.cell 4 _ rfl;have g5:=x1.cell 5 _ rfl;have g6:=x1.cell 6 _ rfl
 have HT:=Aa (fun W=>NH true W);clear hl hr hk h hS x1 xf hb;go_enter Tryz.func44,Tryz.ntmps44;go_wp2_with fail;refine (HT.out _).mono ?_;rintro e w4 ⟨fA9,fn9,fc9,fs9,fB9,fm9,fd9,ff9,fC9,fp9,fq9,rfl,b4⟩;have xf4:=XF.out.next b4;have HB4:=Aa (HB.out.next b4);clear b4 g0 g1 g2 g3 g4 g5 g6
 go_wp2_with (with_reducible refine Ab rfl 61 _ _ rfl (w0.heap.size+1) #[.int .i64 0,.slice fA9 fn9 fc9,.bool fs9,.slice fB9 fm9 fd9,.bool ff9,.slice fC9 fp9 fq9] rfl rfl _ xf4 (by kernel_rfl) rfl (by simp[Value.oneCell']) ?_;intro w9 k9 o9);refine A0 rfl rfl rfl k9 rfl ?_;exact ⟨_,_,_,_,_,_,_,_,_,_,_,rfl,HB4.out.trans (o9.below HB4.out.size (by omega))⟩
theorem form_false {V:Option Addr} {mv dv:Nat} {vs:List ByteArray}:DF V mv dv vs (.leaf false):=by
 intro S cs w0 h hS hm;obtain ⟨kd,Al,nl,cl,Ar,nr,cr,op,p,q,A,n,c,rfl⟩:=h.shape;obtain ⟨l',r',ks,e,hl,hr,hk,hl1,hl2,hr1,hr2,hn1,hn2,hkid⟩:=h.parts;have e:GT.mk 1 [] [] 0 ⟨#[]⟩ ⟨#[]⟩ []=GT.mk kd l' r' op p q ks:=e;injection e with e1 e2 e3 e4 e5 e6 e7
 subst e1 e2 e3 e4 e5 e6 e7;clear hkid;obtain ⟨x1,xf,hb,hsz⟩:=Ax 33 61 w0 #[.int .i64 1,.slice Al nl cl,.slice Ar nr cr,.int .i64 0,.string ⟨#[]⟩,.string ⟨#[]⟩,.slice A n c] #[.int .i64 0,.slice none 0 0,.bool false,.slice none 0 0,.bool false,.slice none 0 0];have HB:=Aa hb;have XF:=Aa xf;have g0:=x1.cell 0 _ rfl;have g1:=x1.cell 1 _ rfl;have g2:=x1.cell 2 _ rfl;have g3:=x1.cell 3 _ rfl;have g4:=x1.cell 4 _ rfl;have g5:=x1.cell 5 _ rfl;have g6:=x1.cell 6 _ rfl
 have HT:=Aa (fun W=>NH false W);clear hl hr hk h hS x1 xf hb;go_enter Tryz.func44,Tryz.ntmps44;go_wp2_with fail;refine (HT.out _).mono ?_;rintro e w4 ⟨fA9,fn9,fc9,fs9,fB9,fm9,fd9,ff9,fC9,fp9,fq9,rfl,b4⟩;have xf4:=XF.out.next b4;have HB4:=Aa (HB.out.next b4);clear b4 g0 g1 g2 g3 g4 g5 g6
 go_wp2_with (with_reducible refine Ab rfl 61 _ _ rfl (w0.heap.size+1) #[.int .i64 1,.slice fA9 fn9 fc9,.bool fs9,.slice fB9 fm9 fd9,.bool ff9,.slice fC9 fp9 fq9] rfl rfl _ xf4 (by kernel_rfl) rfl (by simp[Value.oneCell']) ?_;intro w9 k9 o9);refine A0 rfl rfl rfl k9 rfl ?_;exact ⟨_,_,_,_,_,_,_,_,_,_,_,rfl,HB4.out.trans (o9.below HB4.out.size (by omega))⟩
theorem Uo {V:Option Addr} {mv dv:Nat} {vs:List ByteArray} (l r:List Mn) (o:Nat) (hf:V1 vs (.cmp l o r)):DF V mv dv vs (.cmp l o r):=by
 intro S cs w0 h hS hm;obtain ⟨kd,Al,nl,cl,Ar,nr,cr,op,p,q,A,n,c,rfl⟩:=h.shape;obtain ⟨l',r',ks,e,hl,hr,hk,hl1,hl2,hr1,hr2,hn1,hn2,hkid⟩:=h.parts;have e:GT.mk 2 l r (o:Int) ⟨#[]⟩ ⟨#[]⟩ []=GT.mk kd l' r' op p q ks:=e;injection e with e1 e2 e3 e4 e5 e6 e7
 subst e1 e2 e3 e4 e5 e6 e7;clear hkid;obtain ⟨f1,f2,f3,f4,f5,f6,f7⟩:=hf;have hop:Qk (o:Int):=by
  rcases f7 with rfl|rfl
  · exact WV
  · exact WW
 have h64:=GD f1;have h65:=GD f2;rw[hl.1]at h64;rw[hr.1]at h65;obtain ⟨x1,xf,hb,hsz⟩:=Ax 33 61 w0 #[.int .i64 2,.slice Al nl cl,.slice Ar nr cr,.int .i64 (o:Int),.string ⟨#[]⟩,.string ⟨#[]⟩,.slice A n c] #[.int .i64 0,.slice none 0 0,.bool false,.slice none 0 0,.bool false,.slice none 0 0];have HB:=Aa hb;have XF:=Aa xf;have g0:=x1.cell 0 _ rfl;have g1:=x1.cell 1 _ rfl;have g2:=x1.cell 2 _ rfl;have g3:=x1.cell 3 _ rfl;have g4:=x1.cell 4 _ rfl;have g5:=x1.cell 5 _ rfl
 have g6:=x1.cell 6 _ rfl;have HC:=Aa (Pm (t:=gt (.cmp l o r)) (S:=S) (kd:=2) (op:=(o:Int)) (p:=⟨#[]⟩) (q:=⟨#[]⟩) (A:=A) (n:=n) (c:=c) (cl:=cl) (cr:=cr) V mv dv vs _ l r (hl.keep (AJ.of_below hb)) (hr.keep (AJ.of_below hb)) f3 f4 h64 h65 (hS.below hb) hm f1 f2 hop);rw[f5,f6]at HC;clear hl hr hk h hS x1 xf hb f1 f2 f3 f4 f5 f6 f7 hop;go_enter Tryz.func44,Tryz.ntmps44;go_wp2_with fail;refine HC.out.mono ?_;rintro e w4 ⟨fA9,fn9,fc9,fs9,fB9,fm9,fd9,ff9,fC9,fp9,fq9,rfl,b4⟩
 have xf4:=XF.out.next b4;have HB4:=Aa (HB.out.next b4);clear b4 g0 g1 g2 g3 g4 g5 g6;go_wp2_with (with_reducible refine Ab rfl 61 _ _ rfl (w0.heap.size+1) #[.int .i64 2,.slice fA9 fn9 fc9,.bool fs9,.slice fB9 fm9 fd9,.bool ff9,.slice fC9 fp9 fq9] rfl rfl _ xf4 (by kernel_rfl) rfl (by simp[Value.oneCell']) ?_;intro w9 k9 o9);refine A0 rfl rfl rfl k9 rfl ?_;exact ⟨_,_,_,_,_,_,_,_,_,_,_,rfl,HB4.out.trans (o9.below HB4.out.size (by omega))⟩
theorem Rs {V:Option Addr} {mv dv:Nat} {vs:List ByteArray} (t:Tr) (ht:DF V mv dv vs t):DF V mv dv vs (.deny t):=by
 intro S cs w0 h hS hm;obtain ⟨kd,Al,nl,cl,Ar,nr,cr,op,p,q,A,n,c,rfl⟩:=h.shape;obtain ⟨l',r',ks,e,hl,hr,hk,hl1,hl2,hr1,hr2,hn1,hn2,hkid⟩:=h.parts;have e:GT.mk 3 [] [] 0 ⟨#[]⟩ ⟨#[]⟩ [gt t]=GT.mk kd l' r' op p q ks:=e;injection e with e1 e2 e3 e4 e5 e6 e7
 subst e1 e2 e3 e4 e5 e6 e7;clear hkid;obtain ⟨x1,xf,hb,hsz⟩:=Ax 33 61 w0 #[.int .i64 3,.slice Al nl cl,.slice Ar nr cr,.int .i64 0,.string ⟨#[]⟩,.string ⟨#[]⟩,.slice A n c] #[.int .i64 0,.slice none 0 0,.bool false,.slice none 0 0,.bool false,.slice none 0 0];have HB:=Aa hb;have XF:=Aa xf;have g0:=x1.cell 0 _ rfl;have g1:=x1.cell 1 _ rfl;have g2:=x1.cell 2 _ rfl;have g3:=x1.cell 3 _ rfl;have g4:=x1.cell 4 _ rfl;have g5:=x1.cell 5 _ rfl;have g6:=x1.cell 6 _ rfl
 obtain ⟨hn9,hc1,hc2,hkk⟩:=Mp (us:=[t]) (dv:=dv) h hS hm hb (by intro u hu;simp only[List.mem_cons,List.not_mem_nil,or_false]at hu;subst hu;exact ht)
 have HJ:=Aa (Iz 3 A n c V mv dv vs _ (by rw[<-hn9];simp) hc1 hc2 hkk);clear hl hr hk h hS x1 xf hb hkk hn9;go_enter Tryz.func44,Tryz.ntmps44;go_wp2_with fail;refine HJ.out.mono ?_;rintro e w4 ⟨fA9,fn9,fc9,fs9,fB9,fm9,fd9,ff9,fC9,fp9,fq9,rfl,b4⟩;have xf4:=XF.out.next b4;have HB4:=Aa (HB.out.next b4);clear b4 g0 g1 g2 g3 g4 g5 g6
 go_wp2_with (with_reducible refine Ab rfl 61 _ _ rfl (w0.heap.size+1) #[.int .i64 3,.slice fA9 fn9 fc9,.bool fs9,.slice fB9 fm9 fd9,.bool ff9,.slice fC9 fp9 fq9] rfl rfl _ xf4 (by kernel_rfl) rfl (by simp[Value.oneCell']) ?_;intro w9 k9 o9);refine A0 rfl rfl rfl k9 rfl ?_;exact ⟨_,_,_,_,_,_,_,_,_,_,_,rfl,HB4.out.trans (o9.below HB4.out.size (by omega))⟩
theorem Rt {V:Option Addr} {mv dv:Nat} {vs:List ByteArray} (a b:Tr) (ha:DF V mv dv vs a) (hb2:DF V mv dv vs b):DF V mv dv vs (.both a b):=by
 intro S cs w0 h hS hm;obtain ⟨kd,Al,nl,cl,Ar,nr,cr,op,p,q,A,n,c,rfl⟩:=h.shape;obtain ⟨l',r',ks,e,hl,hr,hk,hl1,hl2,hr1,hr2,hn1,hn2,hkid⟩:=h.parts;have e:GT.mk 4 [] [] 0 ⟨#[]⟩ ⟨#[]⟩ [gt a,gt b]=GT.mk kd l' r' op p q ks:=e;injection e with e1 e2 e3 e4 e5 e6 e7
 subst e1 e2 e3 e4 e5 e6 e7;clear hkid;obtain ⟨x1,xf,hb,hsz⟩:=Ax 33 61 w0 #[.int .i64 4,.slice Al nl cl,.slice Ar nr cr,.int .i64 0,.string ⟨#[]⟩,.string ⟨#[]⟩,.slice A n c] #[.int .i64 0,.slice none 0 0,.bool false,.slice none 0 0,.bool false,.slice none 0 0];have HB:=Aa hb;have XF:=Aa xf;have g0:=x1.cell 0 _ rfl;have g1:=x1.cell 1 _ rfl;have g2:=x1.cell 2 _ rfl;have g3:=x1.cell 3 _ rfl;have g4:=x1.cell 4 _ rfl;have g5:=x1.cell 5 _ rfl;have g6:=x1.cell 6 _ rfl
 obtain ⟨hn9,hc1,hc2,hkk⟩:=Mp (us:=[a,b]) (dv:=dv) h hS hm hb (by intro u hu;simp only[List.mem_cons,List.not_mem_nil,or_false]at hu;rcases hu with rfl|rfl<;>first|exact ha|exact hb2)
 have HJ:=Aa (Iz 4 A n c V mv dv vs _ (by rw[<-hn9];simp) hc1 hc2 hkk);clear hl hr hk h hS x1 xf hb hkk hn9;go_enter Tryz.func44,Tryz.ntmps44;go_wp2_with fail;refine HJ.out.mono ?_;rintro e w4 ⟨fA9,fn9,fc9,fs9,fB9,fm9,fd9,ff9,fC9,fp9,fq9,rfl,b4⟩;have xf4:=XF.out.next b4;have HB4:=Aa (HB.out.next b4);clear b4 g0 g1 g2 g3 g4 g5 g6
 go_wp2_with (with_reducible refine Ab rfl 61 _ _ rfl (w0.heap.size+1) #[.int .i64 4,.slice fA9 fn9 fc9,.bool fs9,.slice fB9 fm9 fd9,.bool ff9,.slice fC9 fp9 fq9] rfl rfl _ xf4 (by kernel_rfl) rfl (by simp[Value.oneCell']) ?_;intro w9 k9 o9);refine A0 rfl rfl rfl k9 rfl ?_;exact ⟨_,_,_,_,_,_,_,_,_,_,_,rfl,HB4.out.trans (o9.below HB4.out.size (by omega))⟩
theorem Uq {V:Option Addr} {mv dv:Nat} {vs:List ByteArray} (a b:Tr) (ha:DF V mv dv vs a) (hb2:DF V mv dv vs b):DF V mv dv vs (.any a b):=by
 intro S cs w0 h hS hm;obtain ⟨kd,Al,nl,cl,Ar,nr,cr,op,p,q,A,n,c,rfl⟩:=h.shape;obtain ⟨l',r',ks,e,hl,hr,hk,hl1,hl2,hr1,hr2,hn1,hn2,hkid⟩:=h.parts;have e:GT.mk 5 [] [] 0 ⟨#[]⟩ ⟨#[]⟩ [gt a,gt b]=GT.mk kd l' r' op p q ks:=e;injection e with e1 e2 e3 e4 e5 e6 e7
 subst e1 e2 e3 e4 e5 e6 e7;clear hkid;obtain ⟨x1,xf,hb,hsz⟩:=Ax 33 61 w0 #[.int .i64 5,.slice Al nl cl,.slice Ar nr cr,.int .i64 0,.string ⟨#[]⟩,.string ⟨#[]⟩,.slice A n c] #[.int .i64 0,.slice none 0 0,.bool false,.slice none 0 0,.bool false,.slice none 0 0];have HB:=Aa hb;have XF:=Aa xf;have g0:=x1.cell 0 _ rfl;have g1:=x1.cell 1 _ rfl;have g2:=x1.cell 2 _ rfl;have g3:=x1.cell 3 _ rfl;have g4:=x1.cell 4 _ rfl;have g5:=x1.cell 5 _ rfl;have g6:=x1.cell 6 _ rfl
 obtain ⟨hn9,hc1,hc2,hkk⟩:=Mp (us:=[a,b]) (dv:=dv) h hS hm hb (by intro u hu;simp only[List.mem_cons,List.not_mem_nil,or_false]at hu;rcases hu with rfl|rfl<;>first|exact ha|exact hb2)
 have HJ:=Aa (Iz 5 A n c V mv dv vs _ (by rw[<-hn9];simp) hc1 hc2 hkk);clear hl hr hk h hS x1 xf hb hkk hn9;go_enter Tryz.func44,Tryz.ntmps44;go_wp2_with fail;refine HJ.out.mono ?_;rintro e w4 ⟨fA9,fn9,fc9,fs9,fB9,fm9,fd9,ff9,fC9,fp9,fq9,rfl,b4⟩;have xf4:=XF.out.next b4;have HB4:=Aa (HB.out.next b4);clear b4 g0 g1 g2 g3 g4 g5 g6
 go_wp2_with (with_reducible refine Ab rfl 61 _ _ rfl (w0.heap.size+1) #[.int .i64 5,.slice fA9 fn9 fc9,.bool fs9,.slice fB9 fm9 fd9,.bool ff9,.slice fC9 fp9 fq9] rfl rfl _ xf4 (by kernel_rfl) rfl (by simp[Value.oneCell']) ?_;intro w9 k9 o9);refine A0 rfl rfl rfl k9 rfl ?_;exact ⟨_,_,_,_,_,_,_,_,_,_,_,rfl,HB4.out.trans (o9.below HB4.out.size (by omega))⟩
theorem V2 {V:Option Addr} {mv dv:Nat} {vs:List ByteArray} (u:Tr) (hf:V1 vs u):DF V mv dv vs u:=by
 induction u with
 |leaf b=>
  cases b
  · exact form_false
  · exact Rr
 |cmp l o r=>exact Uo l r o hf
 |deny t ih=>exact Rs t (ih hf)
 |both a b iha ihb=>exact Rt a b (iha hf.1) (ihb hf.2)
 |any a b iha ihb=>exact Uq a b (iha hf.1) (ihb hf.2)
theorem V3 {S:Nat->Prop} {u:Tr} {kd:Int} {Al:Option Addr} {nl cl:Nat} {Ar:Option Addr} {nr cr:Nat} {op:Int} {p q:ByteArray} {A:Option Addr} {n c:Nat} (V:Option Addr) (mv dv:Nat) (vs:List ByteArray) (w0:World) (h:AW S w0 (gt u) [.int .i64 kd,.slice Al nl cl,.slice Ar nr cr,.int .i64 op,.string p,.string q,.slice A n c]) (hz:IK (gt u)) (hr:right 60 u) (hf:V1 vs u) (hS:EN w0 V mv vs) (hm:mv<=9223372036854775807):Calls Tryz.prog 21 #[.agg #[.int .i64 kd,.slice Al nl cl,.slice Ar nr cr,.int .i64 op,.string p,.string q,.slice A n c],.slice V mv dv] w0 (Xn (NJ u) true w0):=by
 obtain ⟨x1,xf,hb,hsz⟩:=Ax 33 61 w0 #[.int .i64 kd,.slice Al nl cl,.slice Ar nr cr,.int .i64 op,.string p,.string q,.slice A n c] #[.int .i64 0,.slice none 0 0,.bool false,.slice none 0 0,.bool false,.slice none 0 0];have HB:=Aa hb;have X1:=Aa x1;have XF:=Aa xf;have g0:=x1.cell 0 _ rfl;have g1:=x1.cell 1 _ rfl;have g2:=x1.cell 2 _ rfl;have g3:=x1.cell 3 _ rfl;have g4:=x1.cell 4 _ rfl;have g5:=x1.cell 5 _ rfl;have g6:=x1.cell 6 _ rfl
 have HR:=Aa (Fb _ (h.keep (AJ.of_below hb)) hz);rw[show AF (gt u) 60=true from (Fa u 60).2 hr]at HR;have HFM:=Aa (fun W (hW:Below w0.heap.size w0 W)=>V2 (V:=V) (mv:=mv) (dv:=dv) u hf S _ W (h.keep (AJ.of_below hW)) (hS.below hW) hm);generalize NJ u=ku at *;clear h hz hr hf hS hm x1 xf hb;go_enter Tryz.func21,Tryz.ntmps21;go_wp2_with fail;refine HR.out.mono ?_;rintro e w2 ⟨rfl,b2⟩;have HB2:=Aa (HB.out.next b2);have X2:=Aa (X1.out.next b2);have XF2:=Aa (XF.out.next b2)
 clear b2 g0 g1 g2 g3 g4 g5 g6;have g0:=X2.out.cell 0 _ rfl;have g1:=X2.out.cell 1 _ rfl;have g2:=X2.out.cell 2 _ rfl;have g3:=X2.out.cell 3 _ rfl;have g4:=X2.out.cell 4 _ rfl;have g5:=X2.out.cell 5 _ rfl;have g6:=X2.out.cell 6 _ rfl;go_wp2_with fail;refine (HFM.out _ HB2.out).mono ?_;rintro e w4 ⟨fA9,fn9,fc9,fs9,fB9,fm9,fd9,ff9,fC9,fp9,fq9,rfl,b4⟩;have hb5:=Ae w4 (.cells #[.int .i64 ku,.slice fA9 fn9 fc9,.bool fs9,.slice fB9 fm9 fd9,.bool ff9,.slice fC9 fp9 fq9] 61)
 have xf5:=(XF2.out.next b4).next hb5;have HB5:=Aa ((HB2.out.next b4).next hb5);clear b4 hb5 g0 g1 g2 g3 g4 g5 g6;go_wp2_with (with_reducible refine Ab rfl 61 _ _ rfl (w0.heap.size+1) #[.int .i64 ku,.slice fA9 fn9 fc9,.bool fs9,.slice fB9 fm9 fd9,.bool ff9,.slice fC9 fp9 fq9] rfl rfl _ xf5 (by kernel_rfl) rfl (by simp[Value.oneCell']) ?_;intro w9 k9 o9);refine A0 rfl rfl rfl k9 rfl ?_;exact ⟨_,_,_,_,_,_,_,_,_,_,_,rfl,HB5.out.trans (o9.below HB5.out.size (by omega))⟩
end
section
open Go.RowKit
open Lx Ex
theorem AG.up {D:CD} {g j:Nat} {o:Out Tr} {W w2:World} {e:Ending} (h:AG D g o j W e w2):∃(code:Int) (kd:Int) (Al:Option Addr) (nl cl:Nat) (Ar:Option Addr) (nr cr:Nat) (op:Int) (p q:ByteArray) (A:Option Addr) (n c:Nat),
   e=.returned (.tuple #[.agg #[.int .i64 kd,.slice Al nl cl,.slice Ar nr cr,.int .i64 op,.string p,.string q,.slice A n c],.int .i64 code])/\Ai g W w2 /\
    (∀w9 w i,Cg D g w i->AB D g j w W->w.heap.size<W.heap.size->Aq D i (rd D.ts j) j->Ai w.heap.size w2 w9->AG D g o i w (.returned (.tuple #[.agg #[.int .i64 kd,.slice Al nl cl,.slice Ar nr cr,.int .i64 op,.string p,.string q,.slice A n c],.int .i64 code])) w9):=by
 obtain ⟨i',code,kd,Al,nl,cl,Ar,nr,cr,op,p,q,A,n,c,he,hw,hor⟩:=AG.any h;refine ⟨code,kd,Al,nl,cl,Ar,nr,cr,op,p,q,A,n,c,he,hw.1,fun w9 w i hc hq hlt hs ho=>?_⟩;have hw9:=AB.fresh hc (hq.trans hw) ho (Nat.le_refl _);rcases hor with ⟨h0,t,r1,h1,hT,h3⟩|⟨cd,r1,h0,hcd,h1,h3⟩
 · subst h0;exact AG.ok (vs:=#[.int .i64 kd,.slice Al nl cl,.slice Ar nr cr,.int .i64 op,.string p,.string q,.slice A n c]) h1 ((hT.keep (AJ.of_only ho hlt)).mono (Nat.le_of_lt hlt)) (hs.trans h3) hw9
 · subst h0;subst h1;obtain ⟨i2,he2,_⟩:=h;rw[he]at he2;injection he2 with he2
   injection he2 with he2
   have e1:Value.agg #[.int .i64 kd,.slice Al nl cl,.slice Ar nr cr,.int .i64 op,.string p,.string q,.slice A n c]=Value.agg #[.int .i64 0,.slice none 0 0,.slice none 0 0,.int .i64 0,.string ⟨#[]⟩,.string ⟨#[]⟩,.slice none 0 0]:=(by have:=congrArg (fun a=>a[0]?) he2;simpa using this);rw[e1];exact AG.err rfl hcd (hs.trans h3) hw9
theorem Ur (D:CD) (g i:Nat) (l:Int) (o:Out Tr) (w:World) (h:Cg D g w i) (htab:Bc w)
   (hone:∀W,Cg D g W i->Bc W->Calls Tryz.prog 140 #[.pointer (some ⟨g,0,none⟩),.int .i64 l] W (AG D g o i W)) :
   Calls Tryz.prog 164 #[.pointer (some ⟨g,0,none⟩),.int .i64 l] w (AG D g (bind o (fun t r1=>.ok (.deny t) r1)) i w):=by
 have HH:=Aa h;have HB:=Aa (Ae w (.cells #[.int .i64 0,.slice none 0 0,.slice none 0 0,.int .i64 0,.string ⟨#[]⟩,.string ⟨#[]⟩,.slice none 0 0] 33));have hsz:(w.alloc (.cells #[.int .i64 0,.slice none 0 0,.slice none 0 0,.int .i64 0,.string ⟨#[]⟩,.string ⟨#[]⟩,.slice none 0 0] 33)).heap.size=w.heap.size+1:=World.size_alloc _ _;have X0:=Aa (Am.new 33 w #[.int .i64 0,.slice none 0 0,.slice none 0 0,.int .i64 0,.string ⟨#[]⟩,.string ⟨#[]⟩,.slice none 0 0])
 have HTB:=Aa (htab.below HB.out);have hgw:=h.lt;have HC0:=Aa (h.below HB.out);have s1:=(hone _ HC0.out HTB.out).mono (fun _ _ hh=>AG.any hh);clear h htab hone;go_enter Tryz.func164,Tryz.ntmps164;go_wp2_with fail;generalize hW0:w.alloc (.cells #[.int .i64 0,.slice none 0 0,.slice none 0 0,.int .i64 0,.string ⟨#[]⟩,.string ⟨#[]⟩,.slice none 0 0] 33)=W0 at *;clear hW0;refine s1.mono ?_;rintro e w2 ⟨i2,code,kd,Al,nl,cl,Ar,nr,cr,op,p,q,A,n,c,rfl,q2,hor⟩
 have X2:=Aa (X0.out.other q2.1 (Nat.ne_of_gt hgw));have Q2:=Aa ((AB.of_below HH.out HB.out).trans q2);have hs2:=q2.1.size;clear s1 q2;rcases hor with ⟨h0,t,r1,h1,hT,h3⟩|⟨cd,r1,h0,hcd,h1,h3⟩
 · subst h0 h1;have hb3:=Ae w2 (.cells #[.int .i64 kd,.slice Al nl cl,.slice Ar nr cr,.int .i64 op,.string p,.string q,.slice A n c] 33);have hb4:=Ae (w2.alloc (.cells #[.int .i64 kd,.slice Al nl cl,.slice Ar nr cr,.int .i64 op,.string p,.string q,.slice A n c] 33)) (.cells #[.int .i64 kd,.slice Al nl cl,.slice Ar nr cr,.int .i64 op,.string p,.string q,.slice A n c] 33)
   have hz3:(w2.alloc (.cells #[.int .i64 kd,.slice Al nl cl,.slice Ar nr cr,.int .i64 op,.string p,.string q,.slice A n c] 33)).heap.size=w2.heap.size+1:=World.size_alloc _ _;have x4:=(X2.out.next hb3).next hb4;have G4:=Aa (Am.new 33 (w2.alloc (.cells #[.int .i64 kd,.slice Al nl cl,.slice Ar nr cr,.int .i64 op,.string p,.string q,.slice A n c] 33)) #[.int .i64 kd,.slice Al nl cl,.slice Ar nr cr,.int .i64 op,.string p,.string q,.slice A n c])
   have T4:=Aa ((hT.keep (AJ.of_below hb3)).keep (AJ.of_below hb4));have Q4:=Aa ((Q2.out.below hb3).below hb4);have HS:=Aa h3;rw[hz3]at G4;clear hb3 hb4 hz3 hT h3;go_wp2_with (with_reducible refine Ab rfl 33 _ _ rfl w.heap.size #[.int .i64 3,.slice none 0 0,.slice none 0 0,.int .i64 0,.string ⟨#[]⟩,.string ⟨#[]⟩,.slice (some ⟨w2.heap.size+1,0,none⟩) 1 1] rfl rfl _ x4 (by kernel_rfl) rfl (by simp[Value.oneCell']) ?_;intro w9 k9 ho9);refine Ay rfl rfl rfl k9 rfl ?_
   refine AG.ok (vs:=#[.int .i64 3,.slice none 0 0,.slice none 0 0,.int .i64 0,.string ⟨#[]⟩,.string ⟨#[]⟩,.slice (some ⟨w2.heap.size+1,0,none⟩) 1 1]) rfl ?_ HS.out (AB.fresh HH.out Q4.out ho9 (Nat.le_refl _));refine AW.kids (T:=33) 3 [gt t] [[.int .i64 kd,.slice Al nl cl,.slice Ar nr cr,.int .i64 op,.string p,.string q,.slice A n c]] rfl (by unfold BG;omega) (G4.out.other ho9 (by omega)) (fun j x hx=>?_) (by simp);match j,hx with
   |0,hx=>
    injection hx with hx;subst hx
    exact ⟨_,rfl,(T4.out.keep (AJ.of_only ho9 (by omega))).mono (by omega)⟩
   |j+1,hx=>simp at hx
 · have gc:=F7 hcd;subst h0 h1;have x3:=X2.out.alloc (.cells #[.int .i64 kd,.slice Al nl cl,.slice Ar nr cr,.int .i64 op,.string p,.string q,.slice A n c] 33);have HP:=Aa (fun w9 ho9=>AG.err (o:=bind (Out.err cd r1) (fun t r1=>.ok (.deny t) r1)) (w':=w9) rfl hcd h3 (AB.fresh HH.out (Q2.out.below (Ae w2 (.cells #[.int .i64 kd,.slice Al nl cl,.slice Ar nr cr,.int .i64 op,.string p,.string q,.slice A n c] 33))) ho9 (Nat.le_refl _)));clear h3 hcd
   go_wp2_with (with_reducible refine Ab rfl 33 _ _ rfl w.heap.size #[.int .i64 0,.slice none 0 0,.slice none 0 0,.int .i64 0,.string ⟨#[]⟩,.string ⟨#[]⟩,.slice none 0 0] rfl rfl _ x3 (by kernel_rfl) rfl (by simp[Value.oneCell']) ?_;intro w9 k9 ho9);refine Ay rfl rfl rfl k9 rfl ?_;exact HP.out _ ho9
theorem Ru (D:CD) (g i:Nat) (l:Int) (o:Out Tr) (w:World) (h:Cg D g w i) (htab:Bc w)
   (hcond:∀W,Cg D g W i->Bc W->Calls Tryz.prog 62 #[.pointer (some ⟨g,0,none⟩),.int .i64 l] W (AG D g o i W)) :
   Calls Tryz.prog 165 #[.pointer (some ⟨g,0,none⟩),.int .i64 l] w (AG D g (bind o (fun t r1=>if AV ⟨#[41]⟩ r1=true then .ok t r1.tail else .err 101 r1)) i w):=by
 have HH:=Aa h;have HB:=Aa (Ae w (.cells #[.int .i64 0,.slice none 0 0,.slice none 0 0,.int .i64 0,.string ⟨#[]⟩,.string ⟨#[]⟩,.slice none 0 0] 33));have hsz:(w.alloc (.cells #[.int .i64 0,.slice none 0 0,.slice none 0 0,.int .i64 0,.string ⟨#[]⟩,.string ⟨#[]⟩,.slice none 0 0] 33)).heap.size=w.heap.size+1:=World.size_alloc _ _;have X0:=Aa (Am.new 33 w #[.int .i64 0,.slice none 0 0,.slice none 0 0,.int .i64 0,.string ⟨#[]⟩,.string ⟨#[]⟩,.slice none 0 0])
 have HTB:=Aa (htab.below HB.out);have hgw:=h.lt;have HC0:=Aa (h.below HB.out);have s1:=(hcond _ HC0.out HTB.out).mono (fun _ _ hh=>AG.any hh);clear h htab hcond;go_enter Tryz.func165,Tryz.ntmps165;go_wp2_with fail;generalize hW0:w.alloc (.cells #[.int .i64 0,.slice none 0 0,.slice none 0 0,.int .i64 0,.string ⟨#[]⟩,.string ⟨#[]⟩,.slice none 0 0] 33)=W0 at *;clear hW0;refine s1.mono ?_;rintro e w2 ⟨i2,code,kd,Al,nl,cl,Ar,nr,cr,op,p,q,A,n,c,rfl,q2,hor⟩
 have X2:=Aa (X0.out.other q2.1 (Nat.ne_of_gt hgw));have Q2:=Aa ((AB.of_below HH.out HB.out).trans q2);have hs2:=q2.1.size;clear s1 q2;rcases hor with ⟨h0,t,r1,h1,hT,h3⟩|⟨cd,r1,h0,hcd,h1,h3⟩
 · subst h0 h1;have hb3:=Ae w2 (.cells #[.int .i64 kd,.slice Al nl cl,.slice Ar nr cr,.int .i64 op,.string p,.string q,.slice A n c] 33);have X3:=Aa (X2.out.next hb3);have Y3:=Aa (Am.new 33 w2 #[.int .i64 kd,.slice Al nl cl,.slice Ar nr cr,.int .i64 op,.string p,.string q,.slice A n c]);have T3:=Aa (hT.keep (AJ.of_below hb3));have Q3:=Aa (Q2.out.below hb3);have HS:=Aa h3;have hwa:=SJ D g i2 ⟨#[41]⟩ _ Q3.out.2;unfold Ju at hwa;have hrd:=h3.1;rw[hrd]at hwa
   cases hs:AV ⟨#[41]⟩ r1 with
   |true=>
    rw[hs]at hwa;simp only[if_true]at hwa;have hst:=BZ HH.out.good.ends (show AV ⟨#[41]⟩ (rd D.ts i2)=true by rw[hrd];exact hs);have HST:=Aa (show Aq D i r1.tail (i2+1) from h3.trans' (by rw[hst.1,hrd]) (by have:=hst.2.1;have e2:=hst.1;rw[hrd]at e2 this ⊢;rw[<-e2];omega));have HO:=Aa (show bind (Out.ok t r1) (fun t r1=>if AV ⟨#[41]⟩ r1=true then Out.ok t r1.tail else .err 101 r1)=.ok t r1.tail from if_pos hs);clear hs hst hrd h3 hT hb3;go_wp2_with fail;refine hwa.mono ?_
    rintro e w4 ⟨rfl,q4⟩;have x4:=X3.out.other q4.1 (Nat.ne_of_gt hgw);have Y4:=Y3.out.other q4.1 (by omega);have l0:=Y4.cell 0 _ rfl;have l1:=Y4.cell 1 _ rfl;have l2:=Y4.cell 2 _ rfl;have l3:=Y4.cell 3 _ rfl;have l4:=Y4.cell 4 _ rfl;have l5:=Y4.cell 5 _ rfl;have l6:=Y4.cell 6 _ rfl;have T4:=Aa (T3.out.keep (AJ.of_only q4.1 (by omega)));have Q4:=Aa (Q3.out.trans q4);clear q4 hwa Y4
    go_wp2_with (with_reducible refine Ab rfl 33 _ _ rfl w.heap.size #[.int .i64 kd,.slice Al nl cl,.slice Ar nr cr,.int .i64 op,.string p,.string q,.slice A n c] rfl rfl _ x4 (by kernel_rfl) rfl (by simp[Value.oneCell']) ?_;intro w9 k9 ho9);refine Ay rfl rfl rfl k9 rfl ?_
    exact AG.ok (vs:=#[.int .i64 kd,.slice Al nl cl,.slice Ar nr cr,.int .i64 op,.string p,.string q,.slice A n c]) HO.out ((T4.out.keep (AJ.of_only ho9 (by omega))).mono (by omega)) HST.out (AB.fresh HH.out Q4.out ho9 (Nat.le_refl _))
   |false=>
    rw[hs]at hwa;simp only[Bool.false_eq_true,if_false]at hwa;have HO:=Aa (show bind (Out.ok t r1) (fun t r1=>if AV ⟨#[41]⟩ r1=true then Out.ok t r1.tail else .err 101 r1)=.err 101 r1 from if_neg (by rw[hs];decide));clear hs hrd h3 hT hb3;go_wp2_with fail;refine hwa.mono ?_;rintro e w4 ⟨rfl,q4⟩;have x4:=X3.out.other q4.1 (Nat.ne_of_gt hgw);have Q4:=Aa (Q3.out.trans q4);clear q4 hwa
    go_wp2_with (with_reducible refine Ab rfl 33 _ _ rfl w.heap.size #[.int .i64 0,.slice none 0 0,.slice none 0 0,.int .i64 0,.string ⟨#[]⟩,.string ⟨#[]⟩,.slice none 0 0] rfl rfl _ x4 (by kernel_rfl) rfl (by simp[Value.oneCell']) ?_;intro w9 k9 ho9);refine Ay rfl rfl rfl k9 rfl ?_;exact AG.err (c:=101) HO.out (by decide) HS.out (AB.fresh HH.out Q4.out ho9 (Nat.le_refl _))
 · have gc:=F7 hcd;have gc2:=Ja hcd;subst h0 h1;have x3:=X2.out.alloc (.cells #[.int .i64 kd,.slice Al nl cl,.slice Ar nr cr,.int .i64 op,.string p,.string q,.slice A n c] 33)
   have HP:=Aa (fun w9 ho9=>AG.err (o:=bind (Out.err cd r1) (fun t r1=>if AV ⟨#[41]⟩ r1=true then .ok t r1.tail else .err 101 r1)) (w':=w9) rfl hcd h3 (AB.fresh HH.out (Q2.out.below (Ae w2 (.cells #[.int .i64 kd,.slice Al nl cl,.slice Ar nr cr,.int .i64 op,.string p,.string q,.slice A n c] 33))) ho9 (Nat.le_refl _)));clear h3 hcd
   go_wp2_with (with_reducible refine Ab rfl 33 _ _ rfl w.heap.size #[.int .i64 0,.slice none 0 0,.slice none 0 0,.int .i64 0,.string ⟨#[]⟩,.string ⟨#[]⟩,.slice none 0 0] rfl rfl _ x3 (by kernel_rfl) rfl (by simp[Value.oneCell']) ?_;intro w9 k9 ho9);refine Ay rfl rfl rfl k9 rfl ?_;exact HP.out _ ho9
end
end Go.Proofs.YtgohmojcopajoaaGreatDoor
