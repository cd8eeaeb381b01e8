/- Texts of one seat, put together: ExprRu ExprC5 ExprC6 ExprC7. -/
import Derived.Test.YtgohmojcopajoaaGreatDoorH21
import Derived.Test.YtgohmojcopajoaaGreatDoorH07
set_option linter.unusedVariables false
set_option linter.unusedSimpArgs false
set_option maxRecDepth 100000
set_option maxHeartbeats 16000000
namespace Go.Proofs.YtgohmojcopajoaaGreatDoor
section
open Go.RowKit
open Lx Ex
def JQ (l:List Mn):Prop:=∀m∈l,m.num.size<=4611686018427387904/\m.var.size<=4611686018427387904
theorem Rm (m:Mn) (w0:World) (hn:m.num.size<=4611686018427387904) (hv:m.var.size<=4611686018427387904):Calls Tryz.prog 38 #[.agg #[.bool m.neg,.string m.num,.string m.var]] w0 (Av (!Ke m) w0):=by
 obtain ⟨x1,hb,-⟩:=Ap 88 w0 #[.bool m.neg,.string m.num,.string m.var];have c0:=x1.cell 0 _ rfl;have c1:=x1.cell 1 _ rfl;have c2:=x1.cell 2 _ rfl;have HB:=Aa hb;have HR:=Aa (fun W=>Rl m W hn hv);clear hb x1;go_enter Tryz.func38,Tryz.ntmps38;go_wp2_with fail;refine (HR.out _).mono ?_;rintro e w2 ⟨rfl,b2⟩;have HB2:=Aa (HB.out.next b2);clear b2;go_wp2_with fail;go_ret
 exact ⟨rfl,HB2.out⟩
def OT (l:List Mn) (w:World) (e:Ending) (w':World):Prop:=∃i:Int,e=.returned (.int .i64 i)/\decide (0<=i)=!(l.all Ke)/\Below w.heap.size w w'
theorem OU (S:Nat->Prop) (A:Option Addr) (n c:Nat) (l:List Mn) (w0:World) (h:Du S w0 A n l) (hn9:n<=4611686018427387903) (hz:JQ l):Calls Tryz.prog 68 #[.slice A n c,.func (.func 38) #[] #[]] w0 (OT l w0):=by
 have hF:∀args W,(callFunc 38 args).run Tryz.prog W=.ok (.enter 38 args) W:=fun _ _=>rfl
 have HS:=Aa h;have HZ:=Aa hz;have HL:=Aa h.1;have HB:=Aa (Below.refl w0.heap.size w0);clear h hz;go_enter Tryz.func68,Tryz.ntmps68;go_wp2_with fail;go_loopw [8] (fun i wr=>∃q:Nat,q<=n/\i=.int .i64 q/\Hid ((l.take q).all Ke=true)/\Hid (Below w0.heap.size w0 wr)) (fun i _=>n-(intOf i).toNat)
 case atStart=>exact ⟨0,Nat.zero_le _,rfl,Aa rfl,HB⟩
 case round=>
  obtain ⟨q,hq,rfl,HE,HR⟩:=hrel;by_cases hqn:q<n
  · obtain ⟨b,o,m,hA,hlt,hm,d0,d1,d2⟩:=(HS.out.keep (AJ.of_below HR.out)).at_ hqn;subst hA;have hmz:=HZ.out m (List.mem_of_getElem? hm);have HW:=Aa (fun W=>Rm m W hmz.1 hmz.2);have HM:=Aa hm;clear hm hmz;have g1:(q:Int)<(n:Int):=(by omega);go_wp2_with fail;refine (HW.out _).mono ?_;rintro e w2 ⟨rfl,b2⟩;have HB2:=Aa (HR.out.next b2);clear b2 d0 d1 d2;cases hmb:Ke m
    · have HP:=Aa (show OT l w0 (.returned (.int .i64 (q:Int))) w2 from ⟨q,rfl,by
       have:l.all Ke=false:=by rw[List.all_eq_false];exact ⟨m,List.mem_of_getElem? HM.out,by rw[hmb];simp⟩
       rw[this];simp,HB2.out⟩)
      clear hmb;go_wp2_with fail;go_ret
      exact HP.out
    · have HQ:=Aa (show (l.take (q+1)).all Ke=true from by rw[List.take_add_one,HM.out,List.all_append,HE.out];simp[hmb]);clear hmb;go_wp2_with fail;go_roundw
      case rel=>exact ⟨q+1,by omega,by go_num,HQ,HB2⟩
      case measure=>simp[intOf];omega
  · obtain rfl:q=n:=(by omega);have HP:=Aa (show OT l w0 (.returned (.int .i64 (-1))) wr from ⟨-1,rfl,by
      have:=HE.out;rw[List.take_of_length_le (by rw[HL.out];omega)]at this;rw[this];rfl,HR.out⟩)
    go_wp2_with fail;go_ret
    exact HP.out
theorem Kx (S:Nat->Prop) (A:Option Addr) (n c:Nat) (l:List Mn) (w0:World) (h:Du S w0 A n l) (hn9:n<=4611686018427387903) (hz:JQ l):Calls Tryz.prog 40 #[.slice A n c,.func (.func 38) #[] #[]] w0 (Av (!(l.all Ke)) w0):=by
 have HI:=Aa (fun W (hb:Below w0.heap.size w0 W)=>OU S A n c l W (h.keep (AJ.of_below hb)) hn9 hz);have HB:=Aa (Below.refl w0.heap.size w0);clear h hz;go_enter Tryz.func40,Tryz.ntmps40;go_wp2_with fail;refine (HI.out _ HB.out).mono ?_;rintro e w2 ⟨i,rfl,hi,b2⟩;have HP:=Aa (show Av (!(l.all Ke)) w0 (.returned (.bool (decide (0<=i)))) w2 from ⟨by rw[hi],b2⟩);clear hi b2;go_wp2_with fail;go_ret
 exact HP.out
theorem Dq (S:Nat->Prop) (A:Option Addr) (n c:Nat) (l:List Mn) (w0:World) (h:Du S w0 A n l) (hn9:n<=4611686018427387903) (hz:JQ l):Calls Tryz.prog 17 #[.slice A n c] w0 (Av (Bl l) w0):=by
 have hl:=h.1;have HC:=Aa (fun W (hb:Below w0.heap.size w0 W)=>Kx S A n c l W (h.keep (AJ.of_below hb)) hn9 hz);have HB:=Aa (Below.refl w0.heap.size w0);clear h hz;by_cases h1:1<=n
 · by_cases h2:n<=64
   · have HE:=Aa (show Bl l=l.all Ke from by unfold Bl;rw[hl];simp[h1,h2]);have g1:(1:Int)<=(n:Int):=(by omega);have g2:(n:Int)<=64:=(by omega);clear hl;go_enter Tryz.func17,Tryz.ntmps17;go_wp2_with fail;refine (HC.out _ HB.out).mono ?_;rintro e w2 ⟨rfl,b2⟩;have HP:=Aa (show Av (Bl l) w0 (.returned (.bool (!!(l.all Ke)))) w2 from ⟨by rw[HE.out,Bool.not_not],b2⟩);clear b2;go_wp2_with fail;go_ret
     first|exact HP.out|(have:=HP.out;rw[Bool.not_not]at this;exact this)
   · have HP:=Aa (show Av (Bl l) w0 (.returned (.bool false)) w0 from ⟨by unfold Bl;rw[hl];simp[h2],HB.out⟩);have g1:(1:Int)<=(n:Int):=(by omega);have g2:¬(n:Int)<=64:=(by omega);clear hl;go_enter Tryz.func17,Tryz.ntmps17;go_wp2_with fail;go_ret
     exact HP.out
 · have HP:=Aa (show Av (Bl l) w0 (.returned (.bool false)) w0 from ⟨by unfold Bl;rw[hl];simp;omega,HB.out⟩);have g1:¬(1:Int)<=(n:Int):=(by omega);clear hl;go_enter Tryz.func17,Tryz.ntmps17;go_wp2_with fail;go_ret
   exact HP.out
end
section
open Go.RowKit
open Lx Ex
theorem H7 (D:CD) (g i:Nat) (w:World) (h:Cg D g w i):Calls Tryz.prog 101 #[.pointer (some ⟨g,0,none⟩)] w (KX (Br (pt (hd D.ts i))) w):=by
 have ha:=BK D g i w h;have hz:=h.good.hd_small i;have HI:=Aa (show Br (pt (hd D.ts i))=((hd D.ts i).kind==1&&Cz (hd D.ts i).text) from rfl);generalize Br (pt (hd D.ts i))=r at *;generalize hd D.ts i=t at *;obtain ⟨k,tx,l,c⟩:=t;unfold Ga at ha;dsimp only at ha HI hz
 by_cases h1:k=1
 · subst h1;have hn:=fun W=>M9 tx W hz
   rw[PM]at hn;have hr:r=Cz tx:=(by rw[HI.out];simp);rw[<-hr]at hn;have HN:=Aa hn;clear HI hr hn h;go_enter Tryz.func101,Tryz.ntmps101;go_wp2_with fail;refine ha.mono ?_;rintro e w1 ⟨rfl,b1⟩;go_wp2_with fail;refine (HN.out _).mono ?_;rintro e w2 ⟨rfl,b2⟩;go_wp2_with fail;go_ret
   exact ⟨rfl,(b1.next (Ae _ _)).next b2⟩
 · have g1:((k:Int)==1)=false:=(by simp;omega);obtain rfl:r=false:=(by rw[HI.out];simp;omega);clear HI h h1;go_enter Tryz.func101,Tryz.ntmps101;go_wp2_with fail;refine ha.mono ?_;rintro e w1 ⟨rfl,b1⟩;go_wp2_with fail;go_ret
   exact ⟨rfl,b1.next (Ae _ _)⟩
theorem OV (a c d:Value) (s:ByteArray) (w:World):(Instr.field 113 (.agg #[a,.string s,c,d]) 1).run Tryz.prog w=.ok (.string s) w:=by kernel_rfl
def Mi (D:CD) (i:Nat):Nat:=if Br (pt (hd D.ts i))=true then (if D.kn (hd D.ts i).text=true then 0 else 110) else 101
def Xm (D:CD) (i:Nat):ByteArray:=if Mi D i=0 then (hd D.ts i).text else ⟨#[]⟩
def Y5 (D:CD) (i:Nat):Nat:=if Mi D i=0 then i+1 else i
def H8 (D:CD) (g i:Nat) (w:World) (e:Ending) (w':World):Prop:=
 e=.returned (.tuple #[.string (Xm D i),.int .i64 (Mi D i:Nat)])/\AB D g (Y5 D i) w w'
theorem Lp {D:CD} {i:Nat} (h:Br (pt (hd D.ts i))=true):(hd D.ts i).kind≠5:=by unfold Br pt at h;intro e;rw[e]at h;simp at h
theorem Lq (D:CD) (g i:Nat) (w:World) (h:Cg D g w i):Calls Tryz.prog 102 #[.pointer (some ⟨g,0,none⟩)] w (H8 D g i w):=by
  have ha:=BK D g i w h;unfold Ga at ha;have HC:=Aa h;have HN:=Aa (fun W (hW:Below w.heap.size w W)=>H7 D g i W (h.below hW));unfold KX at HN;have HFD:=fun a c d s W=>OV a c d s W
  have HP:=Aa (show ∀c s i' w',Mi D i=c->Xm D i=s->Y5 D i=i'->AB D g i' w w'->H8 D g i w (.returned (.tuple #[.string s,.int .i64 (c:Nat)])) w' from fun c s i' w' h1 h2 h3 h4=>by
    subst h1 h2 h3;exact ⟨rfl,h4⟩)
  have hd2:=h.good.md;have hd3:=h.good.dm;cases hn:Br (pt (hd D.ts i)) with
  |false=>
    have e1:Mi D i=101:=(by unfold Mi;rw[hn];rfl);have HP:=Aa (HP.out 101 _ _ · e1 (if_neg (by omega)) (if_neg (by omega)));rw[hn]at HN;clear h hn e1;go_enter Tryz.func102,Tryz.ntmps102;go_wp2_with fail;refine ha.mono ?_;rintro e w1 ⟨rfl,b1⟩;go_wp2_with fail;refine (HN.out _ b1).mono ?_;rintro e w2 ⟨rfl,b2⟩;have HQ:=Aa (HP.out _ (.of_below HC.out (b1.next b2)));clear b1 b2;go_wp2_with fail;go_ret2
    exact HQ.out
  |true=>
    rw[hn]at HN;have HST:=Aa (IU h.good.ends (Lp hn));have HSK:=Aa (fun W (hW:Below w.heap.size w W)=>Jt D g i W (h.below hW));have HFT:=Aa h.fits;cases hk:D.known with
    |false=>
      have e1:Mi D i=0:=(by unfold Mi CD.kn;rw[hn,hk];rfl);have HP:=Aa (HP.out 0 _ _ · e1 (if_pos e1) (if_pos e1));have hcell:=fun W (hW:Below w.heap.size w W)=>((h.below hW).c3.trans (by rw[hk]):W.cell? ⟨g,3,none⟩=some (.bool false))
      have HCC:=Aa hcell;clear h hn e1 hk hcell;go_enter Tryz.func102,Tryz.ntmps102;go_wp2_with fail;refine ha.mono ?_;rintro e w1 ⟨rfl,b1⟩;go_wp2_with fail;refine (HN.out _ b1).mono ?_;rintro e w2 ⟨rfl,b2⟩;have C3:=HCC.out _ (b1.next b2);go_wp2_with fail;refine (HSK.out _ (b1.next b2)).mono ?_;rintro e w3 ⟨rfl,o3,k3⟩;have HQ:=Aa (HP.out w3 ⟨(AE (b1.next b2)).trans o3,k3 D (HC.out.below (b1.next b2)) (by have:=HST.out;have:=HFT.out;omega)⟩);clear o3 k3 b1 b2 C3
      go_wp2_with fail;go_ret2
      exact HQ.out
    |true=>
      have HCO:=Aa (fun W (hW:Below w.heap.size w W)=>LQ D.V D.m D.d D.vars (hd D.ts i).text W (h.sin.below hW) (by omega));have hcell:=fun W (hW:Below w.heap.size w W)=>(⟨(h.below hW).c3.trans (by rw[hk]),(h.below hW).c2⟩:W.cell? ⟨g,3,none⟩=some (.bool true)/\W.cell? ⟨g,2,none⟩=some (.slice D.V D.m D.d))
      have HCC:=Aa hcell;cases hm:DL (hd D.ts i).text D.vars with
      |true=>
        have e1:Mi D i=0:=(by unfold Mi CD.kn;rw[hn,hk,hm];rfl);have HP:=Aa (HP.out 0 _ _ · e1 (if_pos e1) (if_pos e1));rw[hm]at HCO;clear h hn e1 hk hcell hm;go_enter Tryz.func102,Tryz.ntmps102;go_wp2_with fail;refine ha.mono ?_;rintro e w1 ⟨rfl,b1⟩;go_wp2_with fail;refine (HN.out _ b1).mono ?_;rintro e w2 ⟨rfl,b2⟩;have CC:=HCC.out _ (b1.next b2);obtain ⟨C3,C2⟩:=CC;go_wp2_with fail;refine (HCO.out _ (b1.next b2)).mono ?_;rintro e w3 ⟨rfl,rfl⟩;go_wp2_with fail
        refine (HSK.out _ (b1.next b2)).mono ?_;rintro e w3 ⟨rfl,o3,k3⟩;have HQ:=Aa (HP.out w3 ⟨(AE (b1.next b2)).trans o3,k3 D (HC.out.below (b1.next b2)) (by have:=HST.out;have:=HFT.out;omega)⟩);clear o3 k3 b1 b2 C3 C2;go_wp2_with fail;go_ret2
        exact HQ.out
      |false=>
        have e1:Mi D i=110:=(by unfold Mi CD.kn;rw[hn,hk,hm];rfl);have HP:=Aa (HP.out 110 _ _ · e1 (if_neg (by omega)) (if_neg (by omega)));rw[hm]at HCO;clear h hn e1 hk hcell hm;go_enter Tryz.func102,Tryz.ntmps102;go_wp2_with fail;refine ha.mono ?_;rintro e w1 ⟨rfl,b1⟩;go_wp2_with fail;refine (HN.out _ b1).mono ?_;rintro e w2 ⟨rfl,b2⟩;have CC:=HCC.out _ (b1.next b2);obtain ⟨C3,C2⟩:=CC;go_wp2_with fail;refine (HCO.out _ (b1.next b2)).mono ?_;rintro e w3 ⟨rfl,rfl⟩
        have HQ:=Aa (HP.out _ (.of_below HC.out (b1.next b2)));clear b1 b2 C3 C2;go_wp2_with fail;go_ret2
        exact HQ.out
end
section
open Go.RowKit
open Lx Ex
theorem OW {fn:Func} {p t:Tmp} (h:fn.results=#[.cell p 88,.tmp t]) (tmps:Array Value) (w:World) (g:Nat) (x y z:Value)
  (hq:tmps.getD p undef=.pointer (some ⟨g,0,none⟩)) (hg:Am 88 w g #[x,y,z]):(results fn tmps).run Tryz.prog w=.ok (.tuple #[.agg #[x,y,z],tmps.getD t undef]) w:=by
 have hq':tmps[p]?.getD undef=.pointer (some ⟨g,0,none⟩):=by simpa using hq
 simp[results,h,hq',asAddr,run_loadVar_row w g 88 88 #[x,y,z] (0,0) _ hg Tryz.underlying88 rfl (by kernel_rfl)]
theorem Dd {fn:Func} {R:Ending->World->Prop} {a:Act} {w:World} {g p t:Nat} {x y z v:Value} (hres:fn.results=#[.cell p 88,.tmp t]) (hp:a.tmps.getD p undef=.pointer (some ⟨g,0,none⟩))
  (hv:a.tmps.getD t undef=v) (hb:Am 88 w g #[x,y,z]) (hd:a.defers=[]) (hR:R (.returned (.tuple #[.agg #[x,y,z],v])) w):bodyPost Tryz.prog fn R .ret a w:=
 bodyPost_ret (by rw[OW hres _ _ g x y z hp hb,hv]) hd hR
def Bm (D:CD) (g i:Nat) (full:Bool) (w:World) (e:Ending) (w':World):Prop:=
 match Bw D.kn full false (rd D.ts i) with
 |.ok x r1=>∃i',e=.returned (.tuple #[.agg #[.bool false,.string x.num,.string x.var],.int .i64 0])/\Aq D i r1 i'/\AB D g i' w w'
 |.err c r1=>∃i' x y,e=.returned (.tuple #[.agg #[.bool false,.string x,.string y],.int .i64 (c:Nat)])/\c≠0/\Aq D i r1 i'/\AB D g i' w w'
 |.fuel=>False
theorem Bm.ok {D:CD} {g i i':Nat} {full:Bool} {w w':World} {x:Mn} {r1:List PT} (h:Bw D.kn full false (rd D.ts i)=.ok x r1) (hs:Aq D i r1 i') (hw:AB D g i' w w'):Bm D g i full w (.returned (.tuple #[.agg #[.bool false,.string x.num,.string x.var],.int .i64 0])) w':=by unfold Bm;rw[h];exact ⟨i',rfl,hs,hw⟩
theorem Bm.err {D:CD} {g i i' c:Nat} {full:Bool} {w w':World} {r1:List PT} (x y:ByteArray) (h:Bw D.kn full false (rd D.ts i)=.err c r1) (hc:c≠0) (hs:Aq D i r1 i') (hw:AB D g i' w w'):Bm D g i full w (.returned (.tuple #[.agg #[.bool false,.string x,.string y],.int .i64 (c:Nat)])) w':=by unfold Bm;rw[h];exact ⟨i',x,y,rfl,hc,hs,hw⟩
theorem Bm.named {D:CD} {g i j:Nat} {full:Bool} {w w':World} (num:ByteArray) (he:Jp D.ts) (hsj:Aq D i (rd D.ts j) j)
   (h:Bw D.kn full false (rd D.ts i)=if Br (pt (hd D.ts j))=true then (if D.kn (hd D.ts j).text=true then .ok ⟨num,(hd D.ts j).text,false⟩ (rd D.ts j).tail else .err 110 (rd D.ts j)) else .err 101 (rd D.ts j))
   (hw:AB D g (Y5 D j) w w'):Bm D g i full w (.returned (.tuple #[.agg #[.bool false,.string num,.string (Xm D j)],.int .i64 (Mi D j:Nat)])) w':=by
 unfold Y5 Xm at *;by_cases h1:Br (pt (hd D.ts j))=true
 · by_cases h2:D.kn (hd D.ts j).text=true
   · have e0:Mi D j=0:=(by unfold Mi;rw[if_pos h1,if_pos h2]);rw[if_pos h1,if_pos h2]at h;rw[if_pos e0]at hw;rw[e0,if_pos rfl];exact Bm.ok (x:=⟨num,(hd D.ts j).text,false⟩) h (hsj.trans (Aq.step he (Lp h1))) hw
   · have e0:Mi D j=110:=(by unfold Mi;rw[if_pos h1,if_neg h2]);rw[if_pos h1,if_neg h2]at h;rw[if_neg (by omega)]at hw;rw[e0,if_neg (by omega)];exact Bm.err (c:=110) _ _ h (by decide) hsj hw
 · have e0:Mi D j=101:=(by unfold Mi;rw[if_neg h1]);rw[if_neg h1]at h;rw[if_neg (by omega)]at hw;rw[e0,if_neg (by omega)];exact Bm.err (c:=101) _ _ h (by decide) hsj hw
theorem Vt (D:CD) (i:Nat) (full:Bool):Bw D.kn full false (rd D.ts i)=Bw D.kn full false (pt (hd D.ts i)::(rd D.ts i).tail):=by rw[<-Fs]
theorem TZ (kn:ByteArray->Bool) (full:Bool) (p:PT) (r:List PT) (h3:p.1=3):Bw kn full false (p::r)=if full=true then .err 3 (p::r) else if AV ⟨#[42]⟩ r=true then (match r.tail with
  |[]=>.err 101 []
  |p2::r2=>if Br p2=true then (if kn p2.2=true then .ok ⟨p.2,p2.2,false⟩ r2 else .err 110 (p2::r2)) else .err 101 (p2::r2)) else .ok ⟨p.2,⟨#[]⟩,false⟩ r:=by
 rw[Bw,if_pos (by simp[h3])];cases r.tail<;>rfl
theorem Ua (kn:ByteArray->Bool) (full:Bool) (p:PT) (r:List PT) (h3:p.1≠3):Bw kn full false (p::r)=if Br p=true then (if full=true then .err 3 (p::r) else if kn p.2=true then .ok ⟨⟨#[]⟩,p.2,false⟩ r else .err 110 (p::r)) else .err 101 (p::r):=by rw[Bw,if_neg (by simp[h3])]
theorem N8 (D:CD) (g i:Nat) (full:Bool) (w:World) (h:Cg D g w i):Calls Tryz.prog 54 #[.pointer (some ⟨g,0,none⟩),.bool full] w (Bm D g i full w):=by
 have hb:=Ae w (.cells #[.bool false,.string ⟨#[]⟩,.string ⟨#[]⟩] 88);have hx:=Am.new 88 w #[.bool false,.string ⟨#[]⟩,.string ⟨#[]⟩];have hcb:=h.below hb;have HC:=Aa hcb;have ha:=BK D g i _ hcb;unfold Ga at ha;have hz:=h.good.hd_small i;have hM:=Vt D i full;have hnc:=h.good.hd_wf i;have hne:g≠w.heap.size:=Nat.ne_of_lt h.lt;have HSN:=Aa (fun W (hW:Below w.heap.size w W)=>H7 D g i W (h.below hW));unfold KX at HSN
 have HNM:=Aa (fun W (hW:Below w.heap.size w W)=>Lq D g i W (h.below hW));unfold H8 at HNM;have HB:=Aa hb;have HX:=Aa hx;by_cases h3:(hd D.ts i).kind=3
 · have hrn:=hnc h3;rw[TZ _ _ _ _ h3]at hM;have hnum:=fun W=>Jn (hd D.ts i).text W hz
   rw[number_eq,hrn]at hnum;have HNU:=Aa hnum;have h5:(hd D.ts i).kind≠5:=(by omega);have HS1:=Aa (Aq.step h.good.ends h5);have HK1:=Aa (IU h.good.ends h5);have HFT:=Aa h.fits;have HSK:=Aa (fun W (hW:Below w.heap.size w W)=>Jt D g i W (h.below hW));have e1:=HS1.out.1;rw[h3]at ha;cases full with
   |true=>
    rw[if_pos rfl]at hM;have HP:=Aa (fun w'=>Bm.err (g:=g) (w:=w) (w':=w') (c:=3) ⟨#[]⟩ ⟨#[]⟩ (hM.trans (congrArg _ (Fs D.ts i).symm)) (by decide) (Aq.refl D i));clear hM e1 h5 hnc hnum hrn h3 hcb hx hb;have HH:=Aa h;clear h;go_enter Tryz.func54,Tryz.ntmps54;go_wp2_with fail;refine ha.mono ?_;rintro e w1 ⟨rfl,b1⟩;go_wp2_with fail;refine (HNU.out _).mono ?_;rintro e w2 ⟨rfl,b2⟩;have B2:=Aa (((HB.out.next b1).next (Ae _ _)).next b2)
    have x2:=((HX.out.next b1).alloc _).next b2;clear b1 b2;go_wp2_with (with_reducible refine Ab rfl 88 _ _ rfl w.heap.size #[.bool false,.string ⟨#[]⟩,.string ⟨#[]⟩] rfl rfl _ x2 (by kernel_rfl) rfl (by simp[Value.oneCell']) ?_;intro w3 k3 ho3);refine Dd rfl rfl rfl k3 rfl ?_;exact HP.out _ (.of_below HH.out (B2.out.trans (ho3.below B2.out.size (Nat.le_refl _))))
   |false=>
    rw[if_neg (by decide),<-e1]at hM;have HT:=Aa (fun W (c3:Cg D g W (i+1))=>Dl D g (i+1) ⟨#[42]⟩ W c3);unfold Ct at HT;cases hs:AV ⟨#[42]⟩ (rd D.ts (i+1)) with
    |false=>
     rw[hs]at HT;rw[if_neg (by rw[hs];decide)]at hM;simp only[Bool.false_eq_true,if_false]at HT;have HP:=Aa (fun w'=>Bm.ok (g:=g) (w:=w) (w':=w') hM (by have:=HS1.out;rw[<-e1]at this;exact this));clear hM e1 h5 hnc hnum hrn h3 hcb hx hb hs;have HH:=Aa h;clear h;go_enter Tryz.func54,Tryz.ntmps54;go_wp2_with fail;refine ha.mono ?_;rintro e w1 ⟨rfl,b1⟩;go_wp2_with fail;refine (HNU.out _).mono ?_;rintro e w2 ⟨rfl,b2⟩;have B2:=Aa (((HB.out.next b1).next (Ae _ _)).next b2)
     have X2:=Aa (((HX.out.next b1).alloc _).next b2);have T2:=Aa ((Am.new 113 w1 _).next b2);have hg1:w.heap.size<w1.heap.size:=(by have:=b1.size;simp only[World.size_alloc]at this;omega);clear b1 b2;go_wp2_with fail;refine (HSK.out _ B2.out).mono ?_;rintro e w3 ⟨rfl,o3,k3⟩;have C3:=Aa (k3 D (HH.out.below B2.out) (by have:=HK1.out;have:=HFT.out;omega));have O3:=Aa ((AE B2.out).trans o3);have X3:=Aa (X2.out.other o3 hne.symm)
     have T3:=Aa (T2.out.other o3 (by have:=HH.out.lt;omega));clear o3 k3;go_wp2_with fail;refine (HT.out _ C3.out).mono ?_;rintro e w4 ⟨rfl,q4⟩;have Q4:=Aa (AB.trans ⟨O3.out,C3.out⟩ q4);have x4:=X3.out.other q4.1 hne.symm;have T4:=T3.out.other q4.1 (by have:=HH.out.lt;omega);have c4:=T4.cell 1 _ rfl;clear q4
     go_wp2_with (with_reducible refine Ab rfl 88 _ _ rfl w.heap.size #[.bool false,.string (hd D.ts i).text,.string ⟨#[]⟩] rfl rfl _ x4 (by kernel_rfl) rfl (by simp[Value.oneCell']) ?_;intro w5 k5 ho5);refine Dd rfl rfl rfl k5 rfl ?_;exact HP.out _ (AB.fresh HH.out Q4.out ho5 (Nat.le_refl _))
    |true=>
     rw[hs]at HT;rw[if_pos hs]at hM;simp only[if_true]at HT;have HK2:=Aa (BZ h.good.ends hs);rw[<-(BZ h.good.ends hs).1]at hM;have hM2:Bw D.kn false false (rd D.ts i)=if Br (pt (hd D.ts (i+1+1)))=true then (if D.kn (hd D.ts (i+1+1)).text=true then .ok ⟨(hd D.ts i).text,(hd D.ts (i+1+1)).text,false⟩ (rd D.ts (i+1+1)).tail else .err 110 (rd D.ts (i+1+1))) else .err 101 (rd D.ts (i+1+1)):=by rw[hM];rw[Fs D.ts (i+1+1)];rfl
     have hsj:Aq D i (rd D.ts (i+1+1)) (i+1+1):=⟨rfl,by have:=HK1.out;have:=HK2.out;omega⟩;have HE:=Aa h.good.ends;have HNM2:=Aa (fun W (c:Cg D g W (i+1+1))=>Lq D g (i+1+1) W c);unfold H8 at HNM2;have HP:=Aa (fun w'=>Bm.named (g:=g) (w:=w) (w':=w') _ HE.out hsj hM2);clear hM hM2 hsj e1 h5 hnc hnum hrn h3 hcb hx hb hs;have HH:=Aa h;clear h;go_enter Tryz.func54,Tryz.ntmps54;go_wp2_with fail;refine ha.mono ?_;rintro e w1 ⟨rfl,b1⟩;go_wp2_with fail;refine (HNU.out _).mono ?_
     rintro e w2 ⟨rfl,b2⟩;have B2:=Aa (((HB.out.next b1).next (Ae _ _)).next b2);have X2:=Aa (((HX.out.next b1).alloc _).next b2);have T2:=Aa ((Am.new 113 w1 _).next b2);have hg1:w.heap.size<w1.heap.size:=(by have:=b1.size;simp only[World.size_alloc]at this;omega);clear b1 b2;go_wp2_with fail;refine (HSK.out _ B2.out).mono ?_;rintro e w3 ⟨rfl,o3,k3⟩;have C3:=Aa (k3 D (HH.out.below B2.out) (by have:=HK1.out;have:=HFT.out;omega));have O3:=Aa ((AE B2.out).trans o3)
     have X3:=Aa (X2.out.other o3 hne.symm);have T3:=Aa (T2.out.other o3 (by have:=HH.out.lt;omega));clear o3 k3;go_wp2_with fail;refine (HT.out _ C3.out).mono ?_;rintro e w4 ⟨rfl,q4⟩;have Q4:=Aa (AB.trans ⟨O3.out,C3.out⟩ q4);have X4:=Aa (X3.out.other q4.1 hne.symm);have T4:=Aa (T3.out.other q4.1 (by have:=HH.out.lt;omega));clear q4;go_wp2_with fail;refine (HNM2.out _ Q4.out.2).mono ?_;rintro e w5 ⟨rfl,q5⟩;have Q5:=Aa (AB.trans Q4.out q5)
     have x5:=X4.out.other q5.1 hne.symm;have T5:=T4.out.other q5.1 (by have:=HH.out.lt;omega);have c5:=T5.cell 1 _ rfl;clear q5;go_wp2_with (with_reducible refine Ab rfl 88 _ _ rfl w.heap.size #[.bool false,.string (hd D.ts i).text,.string (Xm D (i+1+1))] rfl rfl _ x5 (by kernel_rfl) rfl (by simp[Value.oneCell']) ?_;intro w6 k6 ho6);refine Dd rfl rfl rfl k6 rfl ?_;exact HP.out _ (AB.fresh HH.out Q5.out ho6 (Nat.le_refl _))
 · have g3:(((hd D.ts i).kind:Int)==3)=false:=(by simp;omega);rw[Ua _ _ _ _ h3]at hM;have HE:=Aa h.good.ends;cases hn:Br (pt (hd D.ts i)) with
   |false=>
    rw[if_neg (by rw[hn];decide)]at hM;rw[hn]at HSN;have HP:=Aa (fun w'=>Bm.err (g:=g) (w:=w) (w':=w') (c:=101) ⟨#[]⟩ ⟨#[]⟩ (hM.trans (congrArg _ (Fs D.ts i).symm)) (by decide) (Aq.refl D i));clear hM hnc h3 hcb hx hb hn;have HH:=Aa h;clear h;go_enter Tryz.func54,Tryz.ntmps54;go_wp2_with fail;refine ha.mono ?_;rintro e w1 ⟨rfl,b1⟩
    have B1:=Aa ((HB.out.next b1).next (Ae _ (.cells #[.int .i64 ((hd D.ts i).kind:Int),.string (hd D.ts i).text,.int .i64 ((hd D.ts i).line:Int),.int .i64 ((hd D.ts i).col:Int)] 113)));have X1:=Aa ((HX.out.next b1).alloc (.cells #[.int .i64 ((hd D.ts i).kind:Int),.string (hd D.ts i).text,.int .i64 ((hd D.ts i).line:Int),.int .i64 ((hd D.ts i).col:Int)] 113));clear b1;go_wp2_with fail;refine (HSN.out _ B1.out).mono ?_;rintro e w2 ⟨rfl,b2⟩;have B2:=Aa (B1.out.next b2)
    have x2:=X1.out.next b2;clear b2;go_wp2_with (with_reducible refine Ab rfl 88 _ _ rfl w.heap.size #[.bool false,.string ⟨#[]⟩,.string ⟨#[]⟩] rfl rfl _ x2 (by kernel_rfl) rfl (by simp[Value.oneCell']) ?_;intro w3 k3 ho3);refine Dd rfl rfl rfl k3 rfl ?_;exact HP.out _ (.of_below HH.out (B2.out.trans (ho3.below B2.out.size (Nat.le_refl _))))
   |true=>
    rw[if_pos hn]at hM;rw[hn]at HSN;cases full with
    |true=>
     rw[if_pos rfl]at hM;have HP:=Aa (fun w'=>Bm.err (g:=g) (w:=w) (w':=w') (c:=3) ⟨#[]⟩ ⟨#[]⟩ (hM.trans (congrArg _ (Fs D.ts i).symm)) (by decide) (Aq.refl D i));clear hM hnc h3 hcb hx hb hn;have HH:=Aa h;clear h;go_enter Tryz.func54,Tryz.ntmps54;go_wp2_with fail;refine ha.mono ?_;rintro e w1 ⟨rfl,b1⟩
     have B1:=Aa ((HB.out.next b1).next (Ae _ (.cells #[.int .i64 ((hd D.ts i).kind:Int),.string (hd D.ts i).text,.int .i64 ((hd D.ts i).line:Int),.int .i64 ((hd D.ts i).col:Int)] 113)));have X1:=Aa ((HX.out.next b1).alloc (.cells #[.int .i64 ((hd D.ts i).kind:Int),.string (hd D.ts i).text,.int .i64 ((hd D.ts i).line:Int),.int .i64 ((hd D.ts i).col:Int)] 113));clear b1;go_wp2_with fail;refine (HSN.out _ B1.out).mono ?_;rintro e w2 ⟨rfl,b2⟩;have B2:=Aa (B1.out.next b2)
     have x2:=X1.out.next b2;clear b2;go_wp2_with (with_reducible refine Ab rfl 88 _ _ rfl w.heap.size #[.bool false,.string ⟨#[]⟩,.string ⟨#[]⟩] rfl rfl _ x2 (by kernel_rfl) rfl (by simp[Value.oneCell']) ?_;intro w3 k3 ho3);refine Dd rfl rfl rfl k3 rfl ?_;exact HP.out _ (.of_below HH.out (B2.out.trans (ho3.below B2.out.size (Nat.le_refl _))))
    |false=>
     rw[if_neg (by decide)]at hM;have hM2:Bw D.kn false false (rd D.ts i)=if Br (pt (hd D.ts i))=true then (if D.kn (hd D.ts i).text=true then .ok ⟨⟨#[]⟩,(hd D.ts i).text,false⟩ (rd D.ts i).tail else .err 110 (rd D.ts i)) else .err 101 (rd D.ts i):=by rw[if_pos hn,hM,<-Fs];rfl
     have HP:=Aa (fun w'=>Bm.named (g:=g) (w:=w) (w':=w') _ HE.out (Aq.refl D i) hM2);clear hM hM2 hnc h3 hcb hx hb hn;have HH:=Aa h;clear h;go_enter Tryz.func54,Tryz.ntmps54;go_wp2_with fail;refine ha.mono ?_;rintro e w1 ⟨rfl,b1⟩;have B1:=Aa ((HB.out.next b1).next (Ae _ (.cells #[.int .i64 ((hd D.ts i).kind:Int),.string (hd D.ts i).text,.int .i64 ((hd D.ts i).line:Int),.int .i64 ((hd D.ts i).col:Int)] 113)))
     have X1:=Aa ((HX.out.next b1).alloc (.cells #[.int .i64 ((hd D.ts i).kind:Int),.string (hd D.ts i).text,.int .i64 ((hd D.ts i).line:Int),.int .i64 ((hd D.ts i).col:Int)] 113));clear b1;go_wp2_with fail;refine (HSN.out _ B1.out).mono ?_;rintro e w2 ⟨rfl,b2⟩;have B2:=Aa (B1.out.next b2);have X2:=Aa (X1.out.next b2);clear b2;go_wp2_with fail;refine (HNM.out _ B2.out).mono ?_;rintro e w3 ⟨rfl,q3⟩;have Q3:=Aa (AB.trans (.of_below HH.out B2.out) q3)
     have x3:=X2.out.other q3.1 hne.symm;clear q3;go_wp2_with (with_reducible refine Ab rfl 88 _ _ rfl w.heap.size #[.bool false,.string ⟨#[]⟩,.string (Xm D i)] rfl rfl _ x3 (by kernel_rfl) rfl (by simp[Value.oneCell']) ?_;intro w4 k4 ho4);refine Dd rfl rfl rfl k4 rfl ?_;exact HP.out _ (AB.fresh HH.out Q3.out ho4 (Nat.le_refl _))
end
section
open Go.RowKit
open Lx Ex
theorem Ai.grownF {g:Nat} {row:Option Nat} {a b c:World} (h:Ai g a b) (k:b.grownBy c row) (hr:∀q,row=some q->a.heap.size<=q):Ai g a c:=
 ⟨k.os.trans h.os,k.tape.trans h.tape,k.output.trans h.output,Nat.le_trans h.size k.size,fun i hi hne=>(k.block i (Nat.lt_of_lt_of_le hi h.size) (fun e=>by have:=hr i e.symm;omega)).trans (h.block i hi hne)⟩
theorem Cg.grownF {D:CD} {g i i0:Nat} {row:Option Nat} {a b c:World} (h0:Cg D g a i0) (h:Cg D g b i) (k:b.grownBy c row) (hr:∀q,row=some q->a.heap.size<=q):Cg D g c i:=by
 have hg:=h0.lt;have hk:∀q,q<a.heap.size->q<b.heap.size->c.heap[q]?=b.heap[q]?:=fun q h1 h2=>k.block q h2 (fun e=>by have:=hr q e.symm;omega)
 refine ⟨(hk g hg h.lt).trans h.box,⟨h.kin.1,fun hn=>?_⟩,⟨h.sin.1,fun hn=>?_⟩,h.good,h.fits⟩
 · obtain ⟨b0,o,e,hlt,hc⟩:=h.kin.2 hn;obtain ⟨b1,o1,e1,hlt1,_⟩:=h0.kin.2 hn;rw[e]at e1;injection e1 with e1;injection e1 with e1 e2;subst e1
   exact ⟨b0,o,e,Nat.lt_of_lt_of_le hlt k.size,fun j u hu=>(World.cell?_of_block (w:=b) (a:=⟨b0,o+j,none⟩) (hk b0 hlt1 hlt)).trans (hc j u hu)⟩
 · obtain ⟨b0,o,e,hlt,hc⟩:=h.sin.2 hn;obtain ⟨b1,o1,e1,hlt1,_⟩:=h0.sin.2 hn;rw[e]at e1;injection e1 with e1;injection e1 with e1 e2;subst e1
   exact ⟨b0,o,e,Nat.lt_of_lt_of_le hlt k.size,fun j u hu=>(World.cell?_of_block (w:=b) (a:=⟨b0,o+j,none⟩) (hk b0 hlt1 hlt)).trans (hc j u hu)⟩
theorem AB.grownF {D:CD} {g i' i0:Nat} {row:Option Nat} {a b c:World} (h0:Cg D g a i0) (h:AB D g i' a b) (k:b.grownBy c row) (hr:∀q,row=some q->a.heap.size<=q):AB D g i' a c:=⟨h.1.grownF k hr,h0.grownF h.2 k hr⟩
theorem Lr (kn:ByteArray->Bool) (full neg:Bool) (r:List PT):Bw kn full neg r=match Bw kn full false r with|.ok x r1=>.ok ⟨x.num,x.var,neg⟩ r1|.err c r1=>.err c r1|.fuel=>.fuel:=by
 cases r with
 |nil=>rfl
 |cons p r=>
  rw[Bw,Bw];by_cases h3:(p.1==3)=true
  · rw[if_pos h3,if_pos h3];cases full with
    |true=>rfl
    |false=>
      simp only[Bool.false_eq_true,if_false];by_cases hs:AV ⟨#[42]⟩ r=true
      · rw[if_pos hs,if_pos hs];cases r.tail with
        |nil=>rfl
        |cons p2 r2=>
          dsimp only
          by_cases h1:Br p2=true
          · rw[if_pos h1,if_pos h1];by_cases h2:kn p2.2=true
            · rw[if_pos h2,if_pos h2]
            · rw[if_neg h2,if_neg h2]
          · rw[if_neg h1,if_neg h1]
      · rw[if_neg hs,if_neg hs]
  · rw[if_neg h3,if_neg h3];by_cases h1:Br p=true
    · rw[if_pos h1,if_pos h1];cases full with
      |true=>rfl
      |false=>
        simp only[Bool.false_eq_true,if_false];by_cases h2:kn p.2=true
        · rw[if_pos h2,if_pos h2]
        · rw[if_neg h2,if_neg h2]
    · rw[if_neg h1,if_neg h1]
def Zs:Value:=.agg #[.bool false,.string ⟨#[]⟩,.string ⟨#[]⟩]
theorem Rn:(Tryz.prog.info? 88).map (fun i=>(i.zero,i.size,i.bytes))=some (some (.agg #[.bool false,.string ⟨#[]⟩,.string ⟨#[]⟩]),3,40):=by kernel_rfl
theorem Ky:Cw (Value.agg #[.bool false,.string ⟨#[]⟩,.string ⟨#[]⟩]).cells.toList:=by
 show Cw [.bool false,.string ⟨#[]⟩,.string ⟨#[]⟩];intro u hu;simp only[List.mem_cons,List.not_mem_nil,or_false]at hu;rcases hu with rfl|rfl|rfl
 · exact NL.bool _
 · intro z h;cases h
 · intro z h;cases h
theorem Hb {w:World} {ops:Array Oper} {rest:List Oper} {o:Oper} {a:Act} {Q:Exit->Act->World->Prop} (hgd:o.guard=none) (s x:Operand)
  (ho:o.op=.call { callee:=.builtin .append,args:=#[s,x],argTypes:=#[23,23] }) (base:Nat) (v:Value) (ps:List Mn) (hs:a.eval s=v) (hown:Ak 88 3 w base v ps.length (Cs ps))
  (b:Nat) (p:Mn) (hx:a.eval x=.slice (some ⟨b,0,none⟩) 1 1) (hb:w.heap[b]?=some (.cells #[.bool p.neg,.string p.num,.string p.var] 88 (0,0))) (hn:ps.length+1<=1099511627776) (hbase:base<=w.heap.size)
  (h:∀v' w',Ak 88 3 w' base v' (ps++[p]).length (Cs (ps++[p]))->w.grownBy w' v.ownBlock->wpList Tryz.prog ops Q rest (a.put o.dst v') w'):wpList Tryz.prog ops Q (o::rest) a w:=by
 obtain ⟨i0,hi0,hz0,hz1,hz2⟩:=info_parts Rn;refine Ba hgd s x 23 ho base 88 i0 _ 3 40 Tryz.underlying23 hi0 hz0 hz1 hz2 rfl (by decide) Ky v ps.length (Cs ps) hs hown ⟨b,0,none⟩ 1 1 (Cs [p]) hx rfl
  (fun j u hu=>by rw[addr_add,Nat.zero_add,cell_of_row w b j _ _ _ hb];simpa[Cs,Ex.Mn.cells] using hu) (QE _) (QF _) (by unfold maxLen;omega) (by omega) hbase ?_
 intro v' w' h1 h2;refine h v' w' ?_ h2;rw[LO,List.length_append];exact h1
def lenOf:Value->Nat
 |.slice _ n _=>n
 |_=>0
def CN (D:CD) (g i:Nat) (w:World) (e:Ending) (w':World):Prop:=
 match Bv D.kn (rd D.ts i) with
 |.ok l r1=>∃i' A c,e=.returned (.tuple #[.slice A l.length c,.int .i64 0])/\l.length<=c/\c<=9223372036854775807/\Du (BG w.heap.size) w' A l.length l/\Aq D i r1 i'/\AB D g i' w w'
 |.err c r1=>∃i',e=.returned (.tuple #[.slice none 0 0,.int .i64 (c:Nat)])/\c≠0/\Aq D i r1 i'/\AB D g i' w w'
 |.fuel=>False
theorem CN.ok {D:CD} {g i i':Nat} {w w':World} {l:List Mn} {v:Value} {r1:List PT} (h:Bv D.kn (rd D.ts i)=.ok l r1) (hv:Ak 88 3 w' w.heap.size v l.length (Cs l)) (hs:Aq D i r1 i') (hw:AB D g i' w w'):CN D g i w (.returned (.tuple #[v,.int .i64 0])) w':=by unfold CN;rw[h];obtain ⟨A,c,rfl,h1,h2,h3⟩:=Ak.min hv;exact ⟨i',A,c,rfl,h1,h2,h3,hs,hw⟩
theorem CN.err {D:CD} {g i i' c:Nat} {w w':World} {r1:List PT} (h:Bv D.kn (rd D.ts i)=.err c r1) (hc:c≠0) (hs:Aq D i r1 i') (hw:AB D g i' w w'):CN D g i w (.returned (.tuple #[.slice none 0 0,.int .i64 (c:Nat)])) w':=by unfold CN;rw[h];exact ⟨i',rfl,hc,hs,hw⟩
structure Mj (D:CD) (g i:Nat) (w wr:World) (v:Value) (neg:Bool) (i' m:Nat) (acc:List Mn):Prop where
 row:Ak 88 3 wr w.heap.size v acc.length (Cs acc)
 went:AB D g i' w wr
 st:Aq D i (rd D.ts i') i'
 eq:Bv D.kn (rd D.ts i)=Da D.kn m neg acc (rd D.ts i')
 more:(rd D.ts i').length<m
 few:acc.length<=64
end
end Go.Proofs.YtgohmojcopajoaaGreatDoor
