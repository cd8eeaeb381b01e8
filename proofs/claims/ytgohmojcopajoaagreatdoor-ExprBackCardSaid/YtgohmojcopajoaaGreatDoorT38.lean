/- Texts of one seat, put together: ExprLt Open ExprTab ExprDp ExprLd ExprBm ExprSz. -/
import Derived.Test.YtgohmojcopajoaaGreatDoorT37
import Derived.Test.YtgohmojcopajoaaGreatDoorT01
import Derived.ProofKit
import Derived.OpenShut
import Derived.ShutString
import Derived.ChangeOld
import Derived.Below
import Derived.Test.YtgohmojcopajoaaGreatDoorRows
import Derived.Test.YtgohmojcopajoaaGreatDoorT23
import Derived.Lib.LaidTab
import Derived.MakeChecks
import Derived.Test.YtgohmojcopajoaaGreatDoorT27
import Derived.Test.YtgohmojcopajoaaGreatDoorT26
set_option linter.unusedVariables false
set_option linter.unusedSimpArgs false
set_option maxRecDepth 100000
set_option maxHeartbeats 16000000
namespace Go.Proofs.YtgohmojcopajoaaGreatDoor
section
open Go.RowKit
open Lx Ex
theorem KO (s:ByteArray) (a b:Nat):(ub (s.extract a b)).length<=b-a:=by unfold ub;rw[Array.length_toList];have h1:(s.extract a b).data.size=(s.extract a b).size:=rfl;rw[h1,ByteArray.size_extract];omega
theorem Xv (s:ByteArray) (ts:List Tok):w3 (ts.map (V7 s))<=3*Lx.lens ts:=by
 induction ts with
 |nil=>exact Nat.zero_le _
 |cons t ts ih=> have:=KO s t.2.1 t.2.2;rw[List.map_cons,w3];show 3*(ub (s.extract t.2.1 t.2.2)).length+_<=3*(t.2.2-t.2.1+Lx.lens ts);omega
theorem Xw (a b:List PT):w3 (a++b)=w3 a+w3 b:=by
 induction a with
 |nil=>rw[List.nil_append];exact (Nat.zero_add _).symm
 |cons p a ih=>rw[List.cons_append,w3,w3,ih];omega
theorem VV {s:ByteArray} (h:(Aj (Ab s) s.size).code=0):w3 (rd (Ah s) 0)<=3*s.size:=by rw[GM h];obtain ⟨-,ts,ht,-,ha⟩:=Ed h;rw[ht,List.map_append,Xw];have h1:=Xv s ts;have h2:=(Asc.lens ts 0 (Nat.zero_le _) ha).2;have h3:=KO s s.size s.size;show _+(3*(ub (s.extract s.size s.size)).length+0)<=_;omega
theorem SB {s:ByteArray} (h:(DR s).2.2.2=0):(Aj (Ab s) s.size).code=0:=by
 unfold DR at h;by_cases hc:(Aj (Ab s) s.size).code=0
 · exact hc
 · rw[if_neg hc]at h;exact absurd h hc
theorem UD (s:ByteArray) (i:Nat) (h:(Aj (Ab s) s.size).code=0):1<=(hd (Ah s) i).line:=by
 have hp:=E8 h;have hm:hd (Ah s) i∈Ah s:=by
  unfold hd view;rw[if_neg (by omega)];have hl:min i ((Ah s).length-1)<(Ah s).length:=by omega
  rw[List.drop_eq_getElem_cons hl];exact List.getElem_mem hl
 generalize hd (Ah s) i=t at hm;unfold Ah at hm;obtain ⟨k,-,rfl⟩:=List.mem_map.1 hm;exact (Fz (Ab s) k.2.1).1
theorem UE {s:ByteArray} (h:(DR s).2.2.2≠0):(DR s).1=zG/\1<=(DR s).2.1:=by
 unfold DR at h ⊢;by_cases hc:(Aj (Ab s) s.size).code=0
 · rw[if_pos hc]at h ⊢;dsimp only at h ⊢
   refine ⟨if_neg h,?_⟩;unfold El;rw[if_neg h];exact UD s _ hc
 · rw[if_neg hc]at h ⊢;dsimp only
   unfold BK;rw[if_neg hc];exact ⟨rfl,(Fz _ _).1⟩
theorem Lj (s:ByteArray) (w0:World) (hs:s.size<=9223372036854775807) (htab:AQ w0):Calls Tryz.prog 5 #[.string s] w0 (BE w0):=by
 have HAL:=Aa (Jd w0 htab);unfold BE at HAL;have HTAB:=Aa (fun W (h:Below w0.heap.size w0 W)=>htab.below h);have HC3:=Aa (fun W (h:Below w0.heap.size w0 W)=>Cs s W hs (htab.below h));clear htab;by_cases h4:4000<s.size
 · have g4:(4000:Int)<(s.size:Int):=(by omega);clear HC3 HTAB h4;go_enter Tryz.func5,Tryz.ntmps5;go_wp2_with fail;refine HAL.out.mono ?_;rintro e w1 ⟨rfl,b1⟩;have HF:=Aa (show BE w0 (.returned (.bool true)) w1 from ⟨rfl,b1⟩);clear b1;go_wp2_with fail;go_ret
   exact HF.out
 have g4:¬(4000:Int)<(s.size:Int):=by omega
 by_cases hz:(DR s).2.2.2=0
 case neg=>
   obtain ⟨hb1,hb2⟩:=UE hz;generalize DR s=rc at *;obtain ⟨G,x,y,z⟩:=rc;dsimp only at hb1 hb2 hz
   subst hb1;have gz:=Fv hz;have gz2:=Ix hz;have gx:(1:Int)<=(x:Int):=(by omega);clear hz h4;go_enter Tryz.func5,Tryz.ntmps5;go_wp2_with fail;refine HAL.out.mono ?_;rintro e w1 ⟨rfl,b1⟩;have HB1:=Aa b1;clear b1;go_wp2_with fail;refine (HC3.out _ HB1.out).mono ?_;rintro e w4 ⟨kd3,Al3,J0,cl3,Ar3,nr3,cr3,op3,p3,q3,A3,n3,c3,rfl,hT,b4⟩
   obtain ⟨xa,xb,hb,hsz4⟩:=Az 33 25 w4 #[.int .i64 kd3,.slice Al3 J0 cl3,.slice Ar3 nr3 cr3,.int .i64 op3,.string p3,.string q3,.slice A3 n3 c3] #[.int .i64 (x:Nat),.int .i64 (y:Nat)];have HB4:=Aa (HB1.out.next (b4.next hb));have XC4:=Aa xa;have XD4:=Aa xb;have HT4:=Aa (hT.keep (AC.of_below hb));clear xa xb hb b4 hT HB1;have d0:=XD4.out.cell 0 _ rfl;have t0:=XC4.out.cell 0 _ rfl;have t1:=XC4.out.cell 1 _ rfl;have t2:=XC4.out.cell 2 _ rfl;have t3:=XC4.out.cell 3 _ rfl
   have t4:=XC4.out.cell 4 _ rfl;have t5:=XC4.out.cell 5 _ rfl;have t6:=XC4.out.cell 6 _ rfl;go_upto_region 7 with fail;generalize hW:(w4.alloc (.cells #[.int .i64 kd3,.slice Al3 J0 cl3,.slice Ar3 nr3 cr3,.int .i64 op3,.string p3,.string q3,.slice A3 n3 c3] 33)).alloc (.cells #[.int .i64 (x:Nat),.int .i64 (y:Nat)] 25)=W4 at *;clear hW;have ST:=Aa (Kx HT4.out (ET (by decide) (fun t h=>by cases h)) W4 (fun _=>True) _ (Below.refl _ _) (Bt.leaf _ _ 0));unfold BE at ST
   clear XC4 XD4 HT4 HTAB HC3 HAL;go_wp2_with fail;refine ST.out.mono ?_;rintro e v2 ⟨rfl,bb⟩;have HF:=Aa (show BE w0 (.returned (.bool true)) v2 from ⟨rfl,HB4.out.next bb⟩);clear bb d0 t0 t1 t2 t3 t4 t5 t6;go_wp2_with fail;go_ret
   exact HF.out
 obtain ⟨u,r1,hu,hr,hp⟩:=VO hz;have hlen:(Ai u).length<=12000:=by have h1:=VU hp;have h2:=VV (SB hz);omega
 have HBK:=Aa (Mh u hr (Mi u) (by omega));generalize DR s=rc at *;obtain ⟨G,x,y,z⟩:=rc;dsimp only at hu hz
 subst hu hz;have HSZ:=Aa (H2 u (Jx u 60 hr));have HSM:=Aa (O1 u 60 hr);have HRB:=Aa (show AH (gt u) 60=true from (Ez u 60).2 hr);have HR:=Aa hr;obtain ⟨tx,htx⟩:∃tx:ByteArray,(⟨(Ai u).toArray⟩:ByteArray)=tx:=⟨_,rfl⟩;have hts:tx.size<=12000:=by rw[<-htx,KN];exact hlen
 have HTX:=Aa htx;have HLN:=Aa (show (Ai u).length<=140737488355328 from by omega);rw[htx]at HBK;have HC2:=Aa (fun W (h:Below w0.heap.size w0 W)=>Cs tx W (by omega) (HTAB.out W h));rw[HBK.out]at HC2;have gt8:(tx.toList==tx.toList)=true:=by simp
 clear h4 hp hlen hr htx hts HBK;go_enter Tryz.func5,Tryz.ntmps5;go_wp2_with fail;refine HAL.out.mono ?_;rintro e w1 ⟨rfl,b1⟩;have HB1:=Aa b1;clear b1;go_wp2_with fail;refine (HC3.out _ HB1.out).mono ?_;rintro e w4 ⟨kd3,Al3,J0,cl3,Ar3,nr3,cr3,op3,p3,q3,A3,n3,c3,rfl,hT,b4⟩;obtain ⟨xa,xb,hb,hsz4⟩:=Az 33 25 w4 #[.int .i64 kd3,.slice Al3 J0 cl3,.slice Ar3 nr3 cr3,.int .i64 op3,.string p3,.string q3,.slice A3 n3 c3] #[.int .i64 (x:Nat),.int .i64 (y:Nat)]
 have HB4:=Aa (HB1.out.next (b4.next hb));have XC4:=Aa xa;have HT4:=Aa (hT.keep (AC.of_below hb));clear xa xb hb b4 hT HB1;have t0:=XC4.out.cell 0 _ rfl;have t1:=XC4.out.cell 1 _ rfl;have t2:=XC4.out.cell 2 _ rfl;have t3:=XC4.out.cell 3 _ rfl;have t4:=XC4.out.cell 4 _ rfl;have t5:=XC4.out.cell 5 _ rfl;have t6:=XC4.out.cell 6 _ rfl;go_upto_region 8 with fail
 generalize hW:(w4.alloc (.cells #[.int .i64 kd3,.slice Al3 J0 cl3,.slice Ar3 nr3 cr3,.int .i64 op3,.string p3,.string q3,.slice A3 n3 c3] 33)).alloc (.cells #[.int .i64 (x:Nat),.int .i64 (y:Nat)] 25)=W4 at *;clear hW;have S1:=Aa (fun W (h:Below W4.heap.size W4 W)=>(show Calls Tryz.prog 19 #[.agg #[.int .i64 kd3,.slice Al3 J0 cl3,.slice Ar3 nr3 cr3,.int .i64 op3,.string p3,.string q3,.slice A3 n3 c3]] W (fun e w'=>e=.returned (.string tx)/\Below W.heap.size W w') from by have:=GB W (HT4.out.keep (AC.of_below h)) HSZ.out HR.out (HTAB.out W (HB4.out.next h)) HLN.out;unfold Bw at this;rw[HTX.out]at this;exact this))
 have S2:=Aa (fun W (h:Below W4.heap.size W4 W)=>(show Calls Tryz.prog 18 #[.agg #[.int .i64 kd3,.slice Al3 J0 cl3,.slice Ar3 nr3 cr3,.int .i64 op3,.string p3,.string q3,.slice A3 n3 c3]] W (fun e w'=>e=.returned (.bool true)/\Below W.heap.size W w') from by have:=DD W (HT4.out.keep (AC.of_below h)) HSZ.out;rw[HRB.out]at this;exact this))
 go_wp2_with fail;refine (S1.out _ (Below.refl _ _)).mono ?_;rintro e w5 ⟨rfl,b5⟩;have HB5:=Aa (HB4.out.next b5);have HB45:=Aa b5;have XC5:=Aa (XC4.out.next b5);clear b5 t0 t1 t2 t3 t4 t5 t6 XC4;go_wp2_with fail;refine (HC2.out _ HB5.out).mono ?_;rintro e w6 ⟨kd4,Al4,Wm,cl4,Ar4,nr4,cr4,op4,p4,q4,A4,n4,c4,rfl,hT,b6⟩
 obtain ⟨xa,xb,hb,hsz6⟩:=Az 33 25 w6 #[.int .i64 kd4,.slice Al4 Wm cl4,.slice Ar4 nr4 cr4,.int .i64 op4,.string p4,.string q4,.slice A4 n4 c4] #[.int .i64 0,.int .i64 0];have HB6:=Aa (HB5.out.next (b6.next hb));have HB46:=Aa (HB45.out.next (b6.next hb));have XC6:=Aa (XC5.out.next (b6.next hb));have XE6:=Aa xa;have HT6:=Aa (hT.keep (AC.of_below hb));clear xa xb hb b6 hT HB5 HB45 XC5 HC2 HC3 HAL
 have CEL:=Aa (show ∀W,Below ((w6.alloc (.cells #[.int .i64 kd4,.slice Al4 Wm cl4,.slice Ar4 nr4 cr4,.int .i64 op4,.string p4,.string q4,.slice A4 n4 c4] 33)).alloc (.cells #[.int .i64 0,.int .i64 0] 25)).heap.size ((w6.alloc (.cells #[.int .i64 kd4,.slice Al4 Wm cl4,.slice Ar4 nr4 cr4,.int .i64 op4,.string p4,.string q4,.slice A4 n4 c4] 33)).alloc (.cells #[.int .i64 0,.int .i64 0] 25)) W->(W.cell? ⟨w4.heap.size,0,none⟩=some (.int .i64 kd3)/\W.cell? ⟨w4.heap.size,1,none⟩=some (.slice Al3 J0 cl3)/\W.cell? ⟨w4.heap.size,2,none⟩=some (.slice Ar3 nr3 cr3)/\W.cell? ⟨w4.heap.size,3,none⟩=some (.int .i64 op3)/\W.cell? ⟨w4.heap.size,4,none⟩=some (.string p3)/\W.cell? ⟨w4.heap.size,5,none⟩=some (.string q3)/\W.cell? ⟨w4.heap.size,6,none⟩=some (.slice A3 n3 c3)/\W.cell? ⟨w6.heap.size,0,none⟩=some (.int .i64 kd4)/\W.cell? ⟨w6.heap.size,1,none⟩=some (.slice Al4 Wm cl4)/\W.cell? ⟨w6.heap.size,2,none⟩=some (.slice Ar4 nr4 cr4)/\W.cell? ⟨w6.heap.size,3,none⟩=some (.int .i64 op4)/\W.cell? ⟨w6.heap.size,4,none⟩=some (.string p4)/\W.cell? ⟨w6.heap.size,5,none⟩=some (.string q4)/\W.cell? ⟨w6.heap.size,6,none⟩=some (.slice A4 n4 c4)) from fun W h=>⟨(XC6.out.next h).cell 0 _ rfl,(XC6.out.next h).cell 1 _ rfl,(XC6.out.next h).cell 2 _ rfl,(XC6.out.next h).cell 3 _ rfl,(XC6.out.next h).cell 4 _ rfl,(XC6.out.next h).cell 5 _ rfl,(XC6.out.next h).cell 6 _ rfl,(XE6.out.next h).cell 0 _ rfl,(XE6.out.next h).cell 1 _ rfl,(XE6.out.next h).cell 2 _ rfl,(XE6.out.next h).cell 3 _ rfl,(XE6.out.next h).cell 4 _ rfl,(XE6.out.next h).cell 5 _ rfl,(XE6.out.next h).cell 6 _ rfl⟩)
 go_upto_region 10 with fail;generalize hW:(w6.alloc (.cells #[.int .i64 kd4,.slice Al4 Wm cl4,.slice Ar4 nr4 cr4,.int .i64 op4,.string p4,.string q4,.slice A4 n4 c4] 33)).alloc (.cells #[.int .i64 0,.int .i64 0] 25)=W6 at *;clear hW;have S3:=Aa (fun W (h:Below W6.heap.size W6 W)=>Kx HT6.out HSM.out W _ _ h (HT4.out.keep (AC.of_below (HB46.out.next h))));unfold BE at S3
 have S4:=Aa (fun W (h:Below W6.heap.size W6 W)=>(show Calls Tryz.prog 19 #[.agg #[.int .i64 kd4,.slice Al4 Wm cl4,.slice Ar4 nr4 cr4,.int .i64 op4,.string p4,.string q4,.slice A4 n4 c4]] W (fun e w'=>e=.returned (.string tx)/\Below W.heap.size W w') from by have:=GB W (HT6.out.keep (AC.of_below h)) HSZ.out HR.out (HTAB.out W (HB6.out.next h)) HLN.out;unfold Bw at this;rw[HTX.out]at this;exact this))
 have HB:=Aa (Below.refl W6.heap.size W6);clear XC6 XE6 HT4 HT6 HSZ HSM HRB HR HTX HLN;obtain ⟨t0,t1,t2,t3,t4,t5,t6,u0,u1,u2,u3,u4,u5,u6⟩:=CEL.out W6 HB.out;go_wp2_with fail;refine (S2.out _ HB46.out).mono ?_;rintro e v1 ⟨rfl,bb⟩;have HB1:=Aa (HB.out.next bb);clear bb t0 t1 t2 t3 t4 t5 t6 u0 u1 u2 u3 u4 u5 u6;obtain ⟨t0,t1,t2,t3,t4,t5,t6,u0,u1,u2,u3,u4,u5,u6⟩:=CEL.out v1 HB1.out;go_wp2_with fail;refine (S3.out _ HB1.out).mono ?_;rintro e v2 ⟨rfl,bb⟩
 have HB2:=Aa (HB1.out.next bb);clear bb t0 t1 t2 t3 t4 t5 t6 u0 u1 u2 u3 u4 u5 u6;obtain ⟨t0,t1,t2,t3,t4,t5,t6,u0,u1,u2,u3,u4,u5,u6⟩:=CEL.out v2 HB2.out;go_wp2_with fail;refine (S4.out _ HB2.out).mono ?_;rintro e v3 ⟨rfl,bb⟩;have HF:=Aa (show BE w0 (.returned (.bool true)) v3 from ⟨rfl,HB6.out.next (HB2.out.next bb)⟩);clear bb t0 t1 t2 t3 t4 t5 t6 u0 u1 u2 u3 u4 u5 u6;go_wp2_with fail;go_ret
 exact HF.out
end
section
open Go.ChangeShapes Go.WideShapes Go.ChangeAt Go.RowKit
open Go.ChangeMaps (open_string shut_string)
theorem own:ownKnob Tryz.prog.godebug=none:=by kernel_rfl
theorem laidOut:laidOutB Tryz.prog=true:=by kernel_rfl
end
section
open Go.RowKit
open Lx Ex
theorem SC {s t:ByteArray} (h:s.data.toList=t.data.toList):s=t:=by obtain ⟨⟨a⟩⟩:=s;obtain ⟨⟨b⟩⟩:=t;simp at h;subst h;rfl
theorem Lk {H:Type} {enc:TypeId×Value->H} {P:Program} {w:World} {base:Nat} {sp:Nat->Bool} {held:Bool} {fuel:Nat} {t e:TypeId} {n:Nat} {cs:List Value} {xs:List ByteArray} {p:List MemPlace}
  (ht:P.underlying t=some (.array n e)) (he:P.underlying e=some .string) (hce:P.cellsOf e=1) (hct:P.cellsOf t=n)
  (h:DataW.trod enc P w base sp held fuel t cs=some (.agg (xs.map fun s=>.lit (.string s.data.toList)),p)):cs=xs.map fun s=>Value.string s:=by
 cases fuel with
 |zero=>simp[DataW.trod]at h
 |succ fuel=>
  simp only[DataW.trod,ht,hce,hct,Nat.mul_one]at h;split at h
  · rename_i hl
    obtain ⟨ys,hm,hx⟩:=Option.map_eq_some_iff.1 h;have hxs:ys.map (·.1)=xs.map fun s=>(DataW.lit (.string s.data.toList):DataW H):=by have:=congrArg Prod.fst hx;simpa using this
    have hxl:ys.length=n:=(by simpa using Lib.mapM_length hm);have hzl:xs.length=n:=by have:=congrArg List.length hxs;simp at this;omega
    apply List.ext_getElem?;intro i;by_cases hi:i<n
    · obtain ⟨b,hb,hf⟩:=Lib.mapM_at hm i i (by simp[hi]);obtain ⟨z,hc,rfl,_⟩:=DataW.trod_string he hf;have h1:cs[i]?=some (.string z):=by
       have:=congrArg (·[0]?) hc;simpa[List.getElem?_take,List.getElem?_drop] using this
      have h2:(ys.map (·.1))[i]?=some (DataW.lit (.string z.data.toList):DataW H):=(by simp[hb]);rw[hxs]at h2;simp only[List.getElem?_map,Option.map_eq_some_iff,DataW.lit.injEq,Lit.string.injEq]at h2;obtain ⟨z',hz',he'⟩:=h2;have:=SC he';subst this;simp[h1,hz']
    · rw[List.getElem?_eq_none (by omega),List.getElem?_eq_none (by simp;omega)]
  · cases h
def Ng:List ByteArray:=[⟨#[61]⟩,⟨#[33,61]⟩,⟨#[60]⟩,⟨#[60,61]⟩,⟨#[62]⟩,⟨#[62,61]⟩]
theorem Fw {W:World} (h0:laidMetH Tryz.prog [("plumbline/expr.operators",Rows.laid_plumbline_expr_operators)] W):AQ W:=by
 have h:laidMet Tryz.prog [("plumbline/expr.operators",Rows.laid_plumbline_expr_operators)] W:=by rw[MakeChecks.laidMetH_plain _ _ _ (by kernel_rfl)]at h0;exact h0
 obtain ⟨ps,⟨g',t',cs,fuel,p,q,hg',ht',hvar,hd,_,_⟩,_⟩:=h;have hg:Tryz.prog.globalNamed "plumbline/expr.operators"=some 0:=by kernel_rfl
 have hty:(Tryz.prog.globals[0]?).map (·.type)=some 137:=by kernel_rfl
 obtain rfl:=Option.some.inj (hg.symm.trans hg');obtain rfl:=Option.some.inj (hty.symm.trans ht');have e1:=Lk (xs:=Ng) Tryz.underlying137 Tryz.underlying9 (by kernel_rfl) (by kernel_rfl) hd;have e2:cs=(Ng.map fun s=>Value.string s).toArray:=by rw[<-e1]
 have hv:W.var? Tryz.prog "plumbline/expr.operators"=some (Ng.map fun s=>Value.string s).toArray:=by rw[←e2];exact hvar
 intro j hj;rw[World.var?_cell hg hv j];match j,hj with
 |0,_=>rfl
 |1,_=>rfl
 |2,_=>rfl
 |3,_=>rfl
 |4,_=>rfl
 |5,_=>rfl
end
section
open Go.RowKit
open Lx Ex
def preB (bs:List Bool):List Nat:=bs.map fun b=>if b then 33 else 40
def H4 (bs:List Bool):List Nat:=(bs.filter fun b=>!b).map fun _=>41
theorem Mj (l:List Nat) (h:∀x∈l,x=41):l++[41]=41::l:=by
 induction l with
 |nil=>rfl
 |cons a l ih=> rw[List.cons_append,ih (fun x hx=>h x (List.mem_cons_of_mem _ hx)),h a (List.mem_cons_self ..)]
theorem O7 (bs:List Bool):∀x∈H4 bs,x=41:=by intro x hx;obtain ⟨_,-,rfl⟩:=List.mem_map.1 hx;rfl
theorem Je (bs:List Bool):AF (AX bs)=preB bs++([116,114,117,101]++H4 bs):=by
 induction bs with
 |nil=>rfl
 |cons b bs ih=>
  cases b with
  |true=>
   rw[show AX (true::bs)=mk [] (sg 33)::AX bs from rfl,Bh,ih];simp[preB,H4,Ej,ub,sg]
  |false=>
   rw[show AX (false::bs)=mk [] (sg 40)::(AX bs++[mk [] (sg 41)]) from rfl,Bh,BF,ih,Bh,E7];have e:H4 (false::bs)=H4 bs++[41]:=by rw[Mj _ (O7 bs)];rfl
   rw[e];simp[preB,Ej,ub,sg]
theorem Mk (bs:List Bool) (b:Bool):preB (bs++[b])=preB bs++[if b then 33 else 40]:=by simp[preB]
theorem Xx (bs:List Bool):H4 (bs++[false])=41::H4 bs:=by rw[<-Mj _ (O7 bs)];simp[H4]
theorem Xy (bs:List Bool):H4 (bs++[true])=H4 bs:=by simp[H4]
theorem Ml (k:Nat):∀bs:List Bool,k<=bs.length->(Bv bs).length=k+(Bv (bs.drop k)).length+(DK k bs).length:=by
 induction k with
 |zero=>intro bs _;simp[DK]
 |succ k ih=>
  intro bs h;cases bs with
  |nil=>simp at h
  |cons b bs=>
   have:=ih bs (by simpa using h);cases b with
   |true=>
    rw[Bv,List.drop_succ_cons,DK];simp only[List.length_cons];omega
   |false=> rw[Bv,List.drop_succ_cons,DK];simp only[List.length_cons,List.length_append,List.length_nil];omega
theorem Qd (f:Nat->Nat) (k:Nat) (h:∀i,i<k->f i≠10):AA f k=(1,k+1):=by
 induction k with
 |zero=>rfl
 |succ k ih=> rw[AA,ih (fun i hi=>h i (by omega)),CZ,if_neg (h k (by omega))]
theorem O8 (bs:List Bool):∀(p k:Nat) (qs:List Piece),k<=bs.length->(FU p (AX bs++qs))[k]?=some (p+k):=by
 induction bs with
 |nil=>
     intro p k qs h;obtain rfl:k=0:=by simpa using h
     rfl
 |cons b bs ih=>
  intro p k qs h;cases k with
  |zero=>cases b<;>rfl
  |succ k=>
   have hk:k<=bs.length:=(by simpa using h);cases b with
   |true=>
    have:=ih (p+1) k qs hk;show (FU (p+1) (AX bs++qs))[k]?=_;rw[this];congr 1
    omega
   |false=>
    have:=ih (p+1) k (mk [] (sg 41)::qs) hk;show (FU (p+1) ((AX bs++[mk [] (sg 41)])++qs))[k]?=_;rw[List.append_assoc];rw[show [mk [] (sg 41)]++qs=mk [] (sg 41)::qs from rfl,this];congr 1
    omega
theorem Nh (o:ByteArray) (bs:List Bool) (ho:Dt o=AF (AX bs)) (hN:o.size<=16384) (hl:bs.length<=60):DR o=(gt (ER bs),0,0,0)/\right 60 (ER bs):=by
 obtain ⟨h1,h2,-⟩:=LY (fun _=>true) o bs ho hN;obtain ⟨h2,h3⟩:=h2 hl;refine ⟨?_,h3⟩;rw[<-GM h1]at h2;unfold DR;rw[if_pos h1,h2,KL h1];have h5:=Nf h1;have e:Cz (hd (Ah o) ((Ah o).length-1)).kind (Ja (Out.ok (ER bs) [((5,eS):PT)]))=0:=by unfold Cz;rw[if_pos (show Ja (Out.ok (ER bs) [((5,eS):PT)])=0 from rfl),if_pos h5]
 unfold El;rw[e];rfl
theorem SD (o:ByteArray) (bs:List Bool) (ho:Dt o=AF (AX bs)) (k:Nat) (hk:k<=bs.length):∀i,i<k->Ab o i≠10:=by
 intro i hi;have h1:(Dt o)[i]?=some (Ab o i):=by
  have hlt:i<o.size:=by have h2:=congrArg List.length ho;rw[Je,Dp]at h2;simp[preB]at h2;omega
  rw[IW];unfold Ej ub Ab;rw[List.getElem?_map,List.getElem?_eq_getElem (by rw[Array.length_toList];exact hlt)];simp[hlt];rfl
 rw[ho,Je,List.getElem?_append_left (by simp[preB];omega)]at h1;unfold preB at h1;rw[List.getElem?_map]at h1;cases hb:bs[i]? with
 |none=>rw[hb]at h1;cases h1
 |some b=>
  rw[hb]at h1;injection h1 with h1
  rw[<-h1];cases b<;>decide
theorem Ll (o:ByteArray) (bs:List Bool) (ho:Dt o=AF (AX bs)) (hN:o.size<=16384) (hl:60<bs.length):DR o=(zG,1,61,102):=by
 obtain ⟨h1,-,h2⟩:=LY (fun _=>true) o bs ho hN;have h2:=h2 hl;obtain ⟨-,h3,h4⟩:=JE o (AX bs) (Bv bs) ho (Jr bs) (Js bs [] JC) (KC bs) hN;have hlen:(rd (Ah o) 0).length=(Bv bs).length+1:=by rw[GM h1,h3];simp
 rw[<-GM h1]at h2;have hd60:(hd (Ah o) 60).line=1/\(hd (Ah o) 60).col=61:=by
  have hlt:60<(Ah o).length:=by have h5:=congrArg List.length h3;have h6:=Ml 60 bs (by omega);unfold Ah;simp only[List.length_map,List.length_append,List.length_cons,List.length_nil]at h5 ⊢;omega
  have e:hd (Ah o) 60=(Ah o)[60]:=by unfold hd view;rw[if_neg (by omega),Nat.min_eq_left (by omega),List.drop_eq_getElem_cons hlt];rfl
  have e2:(Ah o)[60]?=some (hd (Ah o) 60):=by rw[e];exact List.getElem?_eq_getElem hlt
  have hs:((Aj (Ab o) o.size).toks.map (fun t=>t.2.1))[60]?=some 60:=by have h7:=O8 bs 0 60 [] (by omega);rw[List.append_nil]at h7;rw[h4,List.getElem?_append_left (List.getElem?_eq_some_iff.1 h7).1,h7]
  clear e;generalize hd (Ah o) 60=T at e2 ⊢;unfold Ah at e2;rw[List.getElem?_map]at e2 hs;cases ht:(Aj (Ab o) o.size).toks[60]? with
  |none=>rw[ht]at hs;cases hs
  |some t=>
   rw[ht]at e2 hs;injection e2 with e2
   injection hs with hs
   have hs:t.2.1=60:=hs;subst e2;show (AA (Ab o) t.2.1).1=1/\(AA (Ab o) t.2.1).2=61;rw[hs,Qd _ 60 (SD o bs ho 60 (by omega))];exact ⟨rfl,rfl⟩
 have hp:Dh (Ah o) 0 (Out.err 102 (Bv (bs.drop 60)++(DK 60 bs++[(5,eS)])):Out Tr)=60:=by unfold Dh;rw[hlen];have h6:=Ml 60 bs (by omega);show 0+_-(Bv (bs.drop 60)++(DK 60 bs++[(5,eS)])).length=60;simp only[List.length_append,List.length_cons,List.length_nil];omega
 unfold DR;rw[if_pos h1,h2,hp];have e:∀k,Cz k (Ja (Out.err 102 (Bv (bs.drop 60)++(DK 60 bs++[(5,eS)])):Out Tr))=102:=fun k=>rfl
 unfold El;rw[e,hd60.1,hd60.2];rfl
end
section
open Go.RowKit
open Lx Ex
theorem Qe (n:Int):bits .and .i64 n 127=n%128:=by
 have key:(BitVec.ofInt 64 n &&& BitVec.ofInt 64 127).toNat=(n%((2^64:Nat):Int)).toNat%128:=by rw[BitVec.toNat_and,BitVec.toNat_ofInt,show (BitVec.ofInt 64 127).toNat=2^7-1 by decide,Nat.and_two_pow_sub_one_eq_mod]
 show IntKind.i64.wrap ((BitVec.ofInt 64 n &&& BitVec.ofInt 64 127).toNat:Nat)=_;rw[key,IntKind.wrap_i64];omega
theorem LB (n:Int):bits .and .i64 n 31=n%32:=by
 have key:(BitVec.ofInt 64 n &&& BitVec.ofInt 64 31).toNat=(n%((2^64:Nat):Int)).toNat%32:=by rw[BitVec.toNat_and,BitVec.toNat_ofInt,show (BitVec.ofInt 64 31).toNat=2^5-1 by decide,Nat.and_two_pow_sub_one_eq_mod]
 show IntKind.i64.wrap ((BitVec.ofInt 64 n &&& BitVec.ofInt 64 31).toNat:Nat)=_;rw[key,IntKind.wrap_i64];omega
theorem I7 (a b:ByteArray):Dt (a++b)=Dt a++Dt b:=by rw[IW,IW,IW];simp[ub,Ej]
theorem Ni (n turn:Int) (w0:World) (hn1:-9223372036854775808<=n) (hn2:n<=9223372036854775807) (ht1:-9223372036854775808<=turn) (ht2:turn<=9223372036854775807) (htab:AQ w0):Calls Tryz.prog 7 #[.int .i64 n,.int .i64 turn] w0 (BE w0):=by
 have HAL:=Aa (Jd w0 htab);unfold BE at HAL;have HTAB:=Aa (fun W (h:Below w0.heap.size w0 W)=>htab.below h);have h127:=Qe n;obtain ⟨m,hm⟩:∃m:Nat,n%128=(m:Int):=⟨(n%128).toNat,by omega⟩;have hm8:m<=127:=by omega
 rw[hm]at h127;clear htab hm;go_enter Tryz.func7,Tryz.ntmps7;go_wp2_with fail;refine HAL.out.mono ?_;rintro e w1 ⟨rfl,b1⟩;have HB1:=Aa b1;clear b1 HAL;go_wp2_with fail;go_loopw [5,6,7] (fun sv ev i wr=>∃(bs:List Bool) (a b:ByteArray),bs.length<=m/\i=.int .i64 (bs.length:Int)/\sv=.string a/\ev=.string b/\Hid (Dt a=preB bs)/\Hid (Dt b=H4 bs)/\wr=w1) (fun _ _ i _=>m-(intOf i).toNat)
 case atStart=>exact ⟨[],⟨#[]⟩,⟨#[]⟩,Nat.zero_le _,rfl,rfl,rfl,Aa rfl,Aa rfl,rfl⟩
 case round=>
  obtain ⟨bs,a,b,hx,rfl,rfl,rfl,HA,HE,rfl⟩:=hrel;have hsa:a.size=bs.length:=by have:=congrArg List.length HA.out;rw[Dp]at this;rw[this];simp[preB]
  have hsb:b.size<=bs.length:=by have:=congrArg List.length HE.out;rw[Dp]at this;rw[this];unfold H4;rw[List.length_map];exact List.length_filter_le _ _
  by_cases hxn:bs.length<m
  · have g1:(bs.length:Int)<(m:Int):=(by omega);obtain ⟨q,hq,hq2⟩:∃q:Nat,bits .and .i64 (bs.length:Int) 31=(q:Int)/\q<32:=⟨((bs.length:Int)%32).toNat,by rw[LB];omega,by omega⟩;have c1:a.size+(⟨#[40]⟩:ByteArray).size<=9223372036854775807:=(by show _+1<=_;omega);have c2:(⟨#[41]⟩:ByteArray).size+b.size<=9223372036854775807:=(by show 1+_<=_;omega);have c3:a.size+(⟨#[33]⟩:ByteArray).size<=9223372036854775807:=(by show _+1<=_;omega);go_wp2_with fail
    · have b40:Dt (a++⟨#[40]⟩)=preB (bs++[false]):=(by rw[Mk,I7,HA.out];rfl);have b41:Dt (⟨#[41]⟩++b)=H4 (bs++[false]):=(by rw[Xx,I7,HE.out];rfl);have e1:(bs++[false]).length=bs.length+1:=(by simp);go_roundw
      case rel=>exact ⟨bs++[false],a++⟨#[40]⟩,⟨#[41]⟩++b,by omega,by rw[e1];rfl,rfl,rfl,Aa b40,Aa b41,trivial⟩
      case measure=>simp[intOf];omega
    · have b33:Dt (a++⟨#[33]⟩)=preB (bs++[true]):=(by rw[Mk,I7,HA.out];rfl);have b34:Dt b=H4 (bs++[true]):=(by rw[Xy,HE.out]);have e1:(bs++[true]).length=bs.length+1:=(by simp);go_roundw
      case rel=>exact ⟨bs++[true],a++⟨#[33]⟩,b,by omega,by rw[e1];rfl,rfl,rfl,Aa b33,Aa b34,trivial⟩
      case measure=>simp[intOf];omega
  · have hbm:bs.length=m:=(by omega);have c1:a.size+(⟨#[116,114,117,101]⟩:ByteArray).size<=9223372036854775807:=(by show _+4<=_;omega);have c2:(a++⟨#[116,114,117,101]⟩:ByteArray).size+b.size<=9223372036854775807:=(by rw[ByteArray.size_append];show _+4+_<=_;omega);have htz:(a++⟨#[116,114,117,101]⟩++b:ByteArray).size<=16384:=(by rw[ByteArray.size_append,ByteArray.size_append];show _+4+_<=_;omega)
    have hbt:Dt (a++⟨#[116,114,117,101]⟩++b)=AF (AX bs):=(by rw[Je,I7,I7,HA.out,HE.out,List.append_assoc];rfl);have HC:=Aa (fun W (h:Below w0.heap.size w0 W)=>Cs (a++⟨#[116,114,117,101]⟩++b) W (by omega) (HTAB.out W h));by_cases h60:60<m
    · have g60:(60:Int)<(m:Int):=(by omega);rw[Ll _ bs hbt htz (by omega)]at HC;clear hbt htz HA HE hsa hsb h60;go_wp2_with fail;refine (HC.out _ HB1.out).mono ?_;rintro e w4 ⟨kd3,Al3,J0,cl3,Ar3,nr3,cr3,op3,p3,q3,A3,n3,c3,rfl,hT,b4⟩;obtain ⟨xa,xb,hb,hsz4⟩:=Az 33 25 w4 #[.int .i64 kd3,.slice Al3 J0 cl3,.slice Ar3 nr3 cr3,.int .i64 op3,.string p3,.string q3,.slice A3 n3 c3] #[.int .i64 1,.int .i64 61]
      have HF:=Aa (show BE w0 (.returned (.bool true)) _ from ⟨rfl,HB1.out.next (b4.next hb)⟩);have d0:=xb.cell 0 _ rfl;have d1:=xb.cell 1 _ rfl;clear xa xb hb b4 hT HC;go_wp2_with fail;go_ret
      exact HF.out
    · have g60:¬(60:Int)<(m:Int):=(by omega);obtain ⟨hco,hri⟩:=Nh _ bs hbt htz (by omega);rw[hco]at HC;have HR:=Aa (show AH (gt (ER bs)) 60=true from (Ez _ 60).2 hri);have HSZ:=Aa (H2 _ (Jx _ 60 hri));clear hbt htz HA HE hsa hsb h60 hco hri;go_wp2_with fail;refine (HC.out _ HB1.out).mono ?_;rintro e w4 ⟨kd3,Al3,J0,cl3,Ar3,nr3,cr3,op3,p3,q3,A3,n3,c3,rfl,hT,b4⟩
      obtain ⟨xa,xb,hb,hsz4⟩:=Az 33 25 w4 #[.int .i64 kd3,.slice Al3 J0 cl3,.slice Ar3 nr3 cr3,.int .i64 op3,.string p3,.string q3,.slice A3 n3 c3] #[.int .i64 0,.int .i64 0];have HB4:=Aa (HB1.out.next (b4.next hb));have XA:=Aa xa;have HS:=Aa (DD _ (hT.keep (AC.of_below hb)) HSZ.out);rw[HR.out]at HS;clear xa xb hb b4 hT HC HR HSZ;have t0:=XA.out.cell 0 _ rfl;have t1:=XA.out.cell 1 _ rfl;have t2:=XA.out.cell 2 _ rfl;have t3:=XA.out.cell 3 _ rfl
      have t4:=XA.out.cell 4 _ rfl;have t5:=XA.out.cell 5 _ rfl;have t6:=XA.out.cell 6 _ rfl;go_wp2_with fail;refine HS.out.mono ?_;rintro e w5 ⟨rfl,b5⟩;have HF:=Aa (show BE w0 (.returned (.bool true)) w5 from ⟨rfl,HB4.out.next b5⟩);clear b5 t0 t1 t2 t3 t4 t5 t6;go_wp2_with fail;go_ret
      exact HF.out
end
section
open Go.RowKit
open Lx Ex
theorem QQ (s:ByteArray):(ub s).length=s.size:=by unfold ub;rw[Array.length_toList];rfl
theorem UF {m:Mn} (h:Jn m=true):(Gi m).length<=81:=by obtain ⟨h1,h2⟩:=O5 h;unfold Gi;rw[List.length_append,List.length_append,QQ,QQ];split<;>simp<;>omega
theorem SE (f g:Bool):(GW f g).length<=3:=by cases f<;>cases g<;>decide
theorem SF (l:List Mn):∀f,(∀m∈l,Jn m=true)->(AP f l).length<=84*l.length:=by
 induction l with
 |nil=>intro f h;exact Nat.zero_le _
 |cons m l ih=> intro f h;rw[AP,List.length_append,List.length_append,List.length_cons];have h1:=UF (h m (List.mem_cons_self ..));have h2:=SE f m.neg;have h3:=ih false (fun x hx=>h x (List.mem_cons_of_mem _ hx));omega
theorem JF {l:List Mn} (h:Dd l) (f:Bool):(AP f l).length<=5376:=by have hb:=(EN l).2 h;have h0:=h.2.1;unfold Bd at hb;simp only[Bool.and_eq_true,decide_eq_true_eq]at hb;have:=SF l f (List.all_eq_true.1 hb.2);omega
def Fp:Tr->Nat
 |.leaf _=>1
 |.cmp _ _ _=>1
 |.deny t=>Fp t+1
 |.both a b=>Fp a+Fp b+1
 |.any a b=>Fp a+Fp b+1
theorem GN (c:Bool) (l:List UInt8):(Cq c l).length<=l.length+2:=by unfold Cq;cases c<;>simp
theorem VW (o:Nat) (h:o<6):(ub (EA o)).length<=2:=by
 match o,h with
 |0,_=>decide
 |1,_=>decide
 |2,_=>decide
 |3,_=>decide
 |4,_=>decide
 |5,_=>decide
theorem Qf (u:Tr):∀lv,right lv u->(Ai u).length<=12000*Fp u:=by
 induction u with
 |leaf b=>intro lv h;cases b<;>decide
 |cmp l o r=>
  intro lv h;rw[right]at h;have h1:=JF h.1 true;have h2:=JF h.2.2 true;have h3:=VW o h.2.1;rw[Ai,Fp,List.length_append,List.length_cons,List.length_append,List.length_cons];omega
 |deny t ih=>
  intro lv h;rw[right]at h;obtain ⟨lv',h'⟩:∃lv',right lv' t:=by
   split at h
   · exact ⟨_,h.2⟩
   · exact ⟨_,h.2⟩
  have h1:=ih _ h';have h2:=GN (AD t || Au t) (Ai t);rw[Ai,Fp,List.length_cons];omega
 |both a b iha ihb=>
  intro lv h;rw[right]at h;obtain ⟨lv1,h1'⟩:∃lv',right lv' a:=by
   have:=h.1;split at this
   · exact ⟨_,this.2⟩
   · exact ⟨_,this⟩
  obtain ⟨lv2,h2'⟩:∃lv',right lv' b:=by
   have:=h.2;split at this
   · exact ⟨_,this.2⟩
   · exact ⟨_,this⟩
  have h1:=iha _ h1';have h2:=ihb _ h2';have h3:=GN (Au a) (Ai a);have h4:=GN (AD b || Au b) (Ai b);rw[Ai,Fp,List.length_append,List.length_append];simp only[List.length_cons,List.length_nil];omega
 |any a b iha ihb=>
  intro lv h;rw[right]at h;obtain ⟨lv2,h2'⟩:∃lv',right lv' b:=by
   have:=h.2;split at this
   · exact ⟨_,this.2⟩
   · exact ⟨_,this⟩
  have h1:=iha _ h.1;have h2:=ihb _ h2';have h4:=GN (Au b) (Ai b);rw[Ai,Fp,List.length_append,List.length_append];simp only[List.length_cons,List.length_nil];omega
mutual
def GY:GT->Nat
 |.mk _ _ _ _ _ _ kids=>Cw kids+1
def Cw:List GT->Nat
 |[]=>0
 |t::ts=>GY t+Cw ts
end
theorem UG (u:Tr):GY (gt u)=Fp u:=by
 induction u with
 |leaf b=>rfl
 |cmp l o r=>rfl
 |deny t ih=>rw[gt,GY,Cw,Cw,ih,Fp]
 |both a b iha ihb=>rw[gt,GY,Cw,Cw,Cw,iha,ihb,Fp];omega
 |any a b iha ihb=>rw[gt,GY,Cw,Cw,Cw,iha,ihb,Fp];omega
theorem O9 (ks:List GT):∀(q:Nat) (t:GT),ks[q]?=some t->Cw (ks.take (q+1))=Cw (ks.take q)+GY t:=by
 induction ks with
 |nil=>intro q t h;simp at h
 |cons k ks ih=>
  intro q t h;cases q with
  |zero=>
   simp only[List.getElem?_cons_zero,Option.some.injEq]at h;subst h;simp[Cw]
  |succ q=> rw[List.getElem?_cons_succ]at h;rw[List.take_succ_cons,List.take_succ_cons,Cw,Cw,ih q t h];omega
end
section
open Go.RowKit
open Lx Ex
def Jf (t:GT) (lim:Nat) (w:World) (e:Ending) (w':World):Prop:=∃r:Nat,e=.returned (.int .i64 (r:Int))/\1<=r/\r<=lim+1/\(r<=lim->r=GY t)/\Below w.heap.size w w'
theorem SG {S:Nat->Prop} {W0:World} {t:GT} {vs:List Value} (h1:Bt S W0 t vs):∀(lim:Nat) (w0:World),lim<=1000000->Below W0.heap.size W0 w0->Calls Tryz.prog 15 #[.agg vs.toArray,.int .i64 (lim:Int)] w0 (Jf t lim w0):=by
 induction h1 with
 |mk kd op l r p q kids Al Ar A nl cl nr cr n c ba oa cs g1 g2 g3 g4 g5 g6 g7 g8 g9 g10 g11 g12 ih=>
  intro lim w0 hlim hb0;show Calls _ _ #[.agg #[.int .i64 kd,.slice Al nl cl,.slice Ar nr cr,.int .i64 op,.string p,.string q,.slice A n c],.int .i64 (lim:Int)] w0 _;obtain ⟨x1,hb,-⟩:=Av 33 w0 #[.int .i64 kd,.slice Al nl cl,.slice Ar nr cr,.int .i64 op,.string p,.string q,.slice A n c];have HB:=Aa hb;have X1:=Aa x1;have G10:=Aa g10;have HN:=Aa g3
  have HSTEP:=Aa (show ∀j,j<n->∃(u:GT) (k2:Int) (Al2:Option Addr) (C7 cl2:Nat) (Ar2:Option Addr) (nr2 cr2:Nat) (op2:Int) (p2 q2:ByteArray) (A2:Option Addr) (n2 c2:Nat),kids[j]?=some u/\(∀W,Below w0.heap.size w0 W->W.cell? ⟨ba,oa+j*7,none⟩=some (.int .i64 k2)/\W.cell? ⟨ba,oa+j*7+1,none⟩=some (.slice Al2 C7 cl2)/\W.cell? ⟨ba,oa+j*7+2,none⟩=some (.slice Ar2 nr2 cr2)/\W.cell? ⟨ba,oa+j*7+3,none⟩=some (.int .i64 op2)/\W.cell? ⟨ba,oa+j*7+4,none⟩=some (.string p2)/\W.cell? ⟨ba,oa+j*7+5,none⟩=some (.string q2)/\W.cell? ⟨ba,oa+j*7+6,none⟩=some (.slice A2 n2 c2))/\∀(m:Nat) W,Below w0.heap.size w0 W->m<=1000000->Calls Tryz.prog 15 #[.agg #[.int .i64 k2,.slice Al2 C7 cl2,.slice Ar2 nr2 cr2,.int .i64 op2,.string p2,.string q2,.slice A2 n2 c2],.int .i64 (m:Int)] W (Jf u m W) from by
   intro j hj;have hk:j<kids.length:=(by omega);have ht:kids[j]?=some kids[j]:=List.getElem?_eq_getElem hk;have hti:=g12 j _ ht;obtain ⟨k2,Al2,C7,cl2,Ar2,nr2,cr2,op2,p2,q2,A2,n2,c2,e1⟩:=hti.shape;have cc1:=(g11 j hj).2;have hr:=fun (m:Nat) W hW hm=>ih j _ ht m W hm (hb0.next hW)
   rw[e1]at cc1 hti hr
   exact ⟨_,k2,Al2,C7,cl2,Ar2,nr2,cr2,op2,p2,q2,A2,n2,c2,ht,fun W hW=>⟨(Ag (hb0.next hW) (g10 (by omega)).2.2).trans (cc1 0 _ rfl),(Ag (hb0.next hW) (g10 (by omega)).2.2).trans (cc1 1 _ rfl),(Ag (hb0.next hW) (g10 (by omega)).2.2).trans (cc1 2 _ rfl),(Ag (hb0.next hW) (g10 (by omega)).2.2).trans (cc1 3 _ rfl),(Ag (hb0.next hW) (g10 (by omega)).2.2).trans (cc1 4 _ rfl),(Ag (hb0.next hW) (g10 (by omega)).2.2).trans (cc1 5 _ rfl),(Ag (hb0.next hW) (g10 (by omega)).2.2).trans (cc1 6 _ rfl)⟩,hr⟩)
  have HSG:=Aa (show GY (.mk kd l r op p q kids)=Cw (kids.take n)+1 from by rw[GY,List.take_of_length_le (by omega)]);have HPP:=Aa (show ∀(m:Nat) w',1<=m->m<=lim+1->(m<=lim->m=Cw (kids.take n)+1)->Below w0.heap.size w0 w'->Jf (.mk kd l r op p q kids) lim w0 (.returned (.int .i64 (m:Int))) w' from fun m w' h1 h2 h3 h4=>⟨m,rfl,h1,h2,fun h=>by rw[HSG.out];exact h3 h,h4⟩);clear g1 g2 g4 g5 g6 g7 g10 g11 g12 ih x1 hb hb0 g3 HSG;go_enter Tryz.func15,Tryz.ntmps15;go_wp2_with fail
  generalize hW:w0.alloc (.cells #[.int .i64 kd,.slice Al nl cl,.slice Ar nr cr,.int .i64 op,.string p,.string q,.slice A n c] 33)=W1 at *;clear hW;go_loopw [5,6] (fun s i wr=>∃(x m:Nat),x<=n/\i=.int .i64 x/\s=.int .i64 (m:Int)/\1<=m/\m<=lim+1/\Hid (m<=lim->m=Cw (kids.take x)+1)/\Hid (Below w0.heap.size w0 wr)/\Hid (Ap 33 wr w0.heap.size #[.int .i64 kd,.slice Al nl cl,.slice Ar nr cr,.int .i64 op,.string p,.string q,.slice A n c])) (fun _ i _=>n-(intOf i).toNat)
  case atStart=>exact ⟨0,1,Nat.zero_le _,rfl,rfl,Nat.le_refl _,by omega,Aa (fun _=>rfl),HB,X1⟩
  case round=>
   obtain ⟨x,m,hx,rfl,rfl,hm1,hm2,HM,HR,XR⟩:=hrel;have u6:=XR.out.cell 6 _ rfl;by_cases hxn:x<n
   · have g1:(x:Int)<(n:Int):=(by omega);by_cases hml:m<=lim
     · have g2:(m:Int)<=(lim:Int):=(by omega);obtain ⟨u,k2,Al2,C7,cl2,Ar2,nr2,cr2,op2,p2,q2,A2,n2,c2,hu,hcs,hrec⟩:=HSTEP.out x hxn;obtain ⟨d0,d1,d2,d3,d4,d5,d6⟩:=hcs wr HR.out;obtain ⟨rfl,-,hba⟩:=G10.out (by omega);have hba2:ba<wr.heap.size:=World.block_lt_of_cell? wr _ d0;have hq:=hrec (lim-m) wr HR.out (by omega);rw[show (((lim-m:Nat)):Int)=(lim:Int)-(m:Int) from by omega]at hq;unfold Jf at hq;have HMX:=Aa (HM.out hml);have HU:=Aa (O9 kids x u hu);clear hu hcs hrec
       go_wp2_with fail;refine hq.mono ?_;rintro e w2 ⟨r2,rfl,hr1,hr2,hr3,b2⟩;have HR3:=Aa hr3;have HB2:=Aa b2;clear hq hr3 b2 d0 d1 d2 d3 d4 d5 d6 u6;go_wp2_with fail;go_roundw
       case rel=>exact ⟨x+1,m+r2,by omega,by go_num,by go_num,by omega,by omega,Aa (fun h=>by rw[HU.out,<-HR3.out (by omega)];have:=HMX.out;omega),Aa (HR.out.next HB2.out),Aa (XR.out.next HB2.out)⟩
       case measure=>simp[intOf];omega
     · have g2:¬(m:Int)<=(lim:Int):=(by omega);have HF:=Aa (fun w'=>HPP.out m w' hm1 hm2 (fun h=>absurd h hml));go_wp2_with fail;go_ret
       exact HF.out _ HR.out
   · obtain rfl:x=n:=(by omega);have g1:¬(x:Int)<(x:Int):=(by omega);have HF:=Aa (fun w'=>HPP.out m w' hm1 hm2 HM.out);go_wp2_with fail;go_ret
     exact HF.out _ HR.out
end
end Go.Proofs.YtgohmojcopajoaaGreatDoor
