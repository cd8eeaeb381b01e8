/- Texts of one seat, put together: ExprC12. -/
import Derived.Test.YtgohmojcopajoaaGreatDoorT24
set_option linter.unusedVariables false
set_option linter.unusedSimpArgs false
set_option maxRecDepth 100000
set_option maxHeartbeats 16000000
namespace Go.Proofs.YtgohmojcopajoaaGreatDoor
section
open Go.RowKit
open Lx Ex
theorem AJ.up {D:CD} {g j:Nat} {o:Out Tr} {W w2:World} {e:Ending} (h:AJ D g o j W e w2):∃(code:Int) (kd:Int) (Al:Option Addr) (nl cl:Nat) (Ar:Option Addr) (nr cr:Nat) (op:Int) (p q:ByteArray) (A:Option Addr) (n c:Nat),
   e=.returned (.tuple #[.agg #[.int .i64 kd,.slice Al nl cl,.slice Ar nr cr,.int .i64 op,.string p,.string q,.slice A n c],.int .i64 code])/\Ak g W w2 /\
    (∀w9 w i,Cf D g w i->AB D g j w W->w.heap.size<W.heap.size->As D i (rd D.ts j) j->Ak w.heap.size w2 w9->AJ D g o i w (.returned (.tuple #[.agg #[.int .i64 kd,.slice Al nl cl,.slice Ar nr cr,.int .i64 op,.string p,.string q,.slice A n c],.int .i64 code])) w9):=by
 obtain ⟨i',code,kd,Al,nl,cl,Ar,nr,cr,op,p,q,A,n,c,he,hw,hor⟩:=AJ.any h;refine ⟨code,kd,Al,nl,cl,Ar,nr,cr,op,p,q,A,n,c,he,hw.1,fun w9 w i hc hq hlt hs ho=>?_⟩;have hw9:=AB.fresh hc (hq.trans hw) ho (Nat.le_refl _);rcases hor with ⟨h0,t,r1,h1,hT,h3⟩|⟨cd,r1,h0,hcd,h1,h3⟩
 · subst h0;exact AJ.ok (vs:=#[.int .i64 kd,.slice Al nl cl,.slice Ar nr cr,.int .i64 op,.string p,.string q,.slice A n c]) h1 ((hT.keep (AC.of_only ho hlt)).mono (Nat.le_of_lt hlt)) (hs.trans h3) hw9
 · subst h0;subst h1;obtain ⟨i2,he2,_⟩:=h;rw[he]at he2;injection he2 with he2
   injection he2 with he2
   have e1:Value.agg #[.int .i64 kd,.slice Al nl cl,.slice Ar nr cr,.int .i64 op,.string p,.string q,.slice A n c]=Value.agg #[.int .i64 0,.slice none 0 0,.slice none 0 0,.int .i64 0,.string ⟨#[]⟩,.string ⟨#[]⟩,.slice none 0 0]:=(by have:=congrArg (fun a=>a[0]?) he2;simpa using this);rw[e1];exact AJ.err rfl hcd (hs.trans h3) hw9
theorem Ux (D:CD) (g i:Nat) (l:Int) (o:Out Tr) (w:World) (h:Cf D g w i) (htab:AQ w)
   (hone:∀W,Cf D g W i->AQ W->Calls Tryz.prog 140 #[.pointer (some ⟨g,0,none⟩),.int .i64 l] W (AJ D g o i W)) :
   Calls Tryz.prog 164 #[.pointer (some ⟨g,0,none⟩),.int .i64 l] w (AJ D g (bind o (fun t r1=>.ok (.deny t) r1)) i w):=by
 have HH:=Aa h;have HB:=Aa (Ae w (.cells #[.int .i64 0,.slice none 0 0,.slice none 0 0,.int .i64 0,.string ⟨#[]⟩,.string ⟨#[]⟩,.slice none 0 0] 33));have hsz:(w.alloc (.cells #[.int .i64 0,.slice none 0 0,.slice none 0 0,.int .i64 0,.string ⟨#[]⟩,.string ⟨#[]⟩,.slice none 0 0] 33)).heap.size=w.heap.size+1:=World.size_alloc _ _;have X0:=Aa (Ap.new 33 w #[.int .i64 0,.slice none 0 0,.slice none 0 0,.int .i64 0,.string ⟨#[]⟩,.string ⟨#[]⟩,.slice none 0 0])
 have HTB:=Aa (htab.below HB.out);have hgw:=h.lt;have HC0:=Aa (h.below HB.out);have s1:=(hone _ HC0.out HTB.out).mono (fun _ _ hh=>AJ.any hh);clear h htab hone;go_enter Tryz.func164,Tryz.ntmps164;go_wp2_with fail;generalize hW0:w.alloc (.cells #[.int .i64 0,.slice none 0 0,.slice none 0 0,.int .i64 0,.string ⟨#[]⟩,.string ⟨#[]⟩,.slice none 0 0] 33)=W0 at *;clear hW0;refine s1.mono ?_;rintro e w2 ⟨i2,code,kd,Al,nl,cl,Ar,nr,cr,op,p,q,A,n,c,rfl,q2,hor⟩
 have X2:=Aa (X0.out.other q2.1 (Nat.ne_of_gt hgw));have Q2:=Aa ((AB.of_below HH.out HB.out).trans q2);have hs2:=q2.1.size;clear s1 q2;rcases hor with ⟨h0,t,r1,h1,hT,h3⟩|⟨cd,r1,h0,hcd,h1,h3⟩
 · subst h0 h1;have hb3:=Ae w2 (.cells #[.int .i64 kd,.slice Al nl cl,.slice Ar nr cr,.int .i64 op,.string p,.string q,.slice A n c] 33);have hb4:=Ae (w2.alloc (.cells #[.int .i64 kd,.slice Al nl cl,.slice Ar nr cr,.int .i64 op,.string p,.string q,.slice A n c] 33)) (.cells #[.int .i64 kd,.slice Al nl cl,.slice Ar nr cr,.int .i64 op,.string p,.string q,.slice A n c] 33)
   have hz3:(w2.alloc (.cells #[.int .i64 kd,.slice Al nl cl,.slice Ar nr cr,.int .i64 op,.string p,.string q,.slice A n c] 33)).heap.size=w2.heap.size+1:=World.size_alloc _ _;have x4:=(X2.out.next hb3).next hb4;have G4:=Aa (Ap.new 33 (w2.alloc (.cells #[.int .i64 kd,.slice Al nl cl,.slice Ar nr cr,.int .i64 op,.string p,.string q,.slice A n c] 33)) #[.int .i64 kd,.slice Al nl cl,.slice Ar nr cr,.int .i64 op,.string p,.string q,.slice A n c])
   have T4:=Aa ((hT.keep (AC.of_below hb3)).keep (AC.of_below hb4));have Q4:=Aa ((Q2.out.below hb3).below hb4);have HS:=Aa h3;rw[hz3]at G4;clear hb3 hb4 hz3 hT h3;go_wp2_with (with_reducible refine Ac rfl 33 _ _ rfl w.heap.size #[.int .i64 3,.slice none 0 0,.slice none 0 0,.int .i64 0,.string ⟨#[]⟩,.string ⟨#[]⟩,.slice (some ⟨w2.heap.size+1,0,none⟩) 1 1] rfl rfl _ x4 (by kernel_rfl) rfl (by simp[Value.oneCell']) ?_;intro w9 k9 ho9);refine Aw rfl rfl rfl k9 rfl ?_
   refine AJ.ok (vs:=#[.int .i64 3,.slice none 0 0,.slice none 0 0,.int .i64 0,.string ⟨#[]⟩,.string ⟨#[]⟩,.slice (some ⟨w2.heap.size+1,0,none⟩) 1 1]) rfl ?_ HS.out (AB.fresh HH.out Q4.out ho9 (Nat.le_refl _));refine Bt.kids (T:=33) 3 [gt t] [[.int .i64 kd,.slice Al nl cl,.slice Ar nr cr,.int .i64 op,.string p,.string q,.slice A n c]] rfl (by unfold BP;omega) (G4.out.other ho9 (by omega)) (fun j x hx=>?_) (by simp);match j,hx with
   |0,hx=>
    injection hx with hx;subst hx
    exact ⟨_,rfl,(T4.out.keep (AC.of_only ho9 (by omega))).mono (by omega)⟩
   |j+1,hx=>simp at hx
 · have gc:=Fv hcd;subst h0 h1;have x3:=X2.out.alloc (.cells #[.int .i64 kd,.slice Al nl cl,.slice Ar nr cr,.int .i64 op,.string p,.string q,.slice A n c] 33);have HP:=Aa (fun w9 ho9=>AJ.err (o:=bind (Out.err cd r1) (fun t r1=>.ok (.deny t) r1)) (w':=w9) rfl hcd h3 (AB.fresh HH.out (Q2.out.below (Ae w2 (.cells #[.int .i64 kd,.slice Al nl cl,.slice Ar nr cr,.int .i64 op,.string p,.string q,.slice A n c] 33))) ho9 (Nat.le_refl _)));clear h3 hcd
   go_wp2_with (with_reducible refine Ac rfl 33 _ _ rfl w.heap.size #[.int .i64 0,.slice none 0 0,.slice none 0 0,.int .i64 0,.string ⟨#[]⟩,.string ⟨#[]⟩,.slice none 0 0] rfl rfl _ x3 (by kernel_rfl) rfl (by simp[Value.oneCell']) ?_;intro w9 k9 ho9);refine Aw rfl rfl rfl k9 rfl ?_;exact HP.out _ ho9
theorem Sv (D:CD) (g i:Nat) (l:Int) (o:Out Tr) (w:World) (h:Cf D g w i) (htab:AQ w)
   (hcond:∀W,Cf D g W i->AQ W->Calls Tryz.prog 62 #[.pointer (some ⟨g,0,none⟩),.int .i64 l] W (AJ D g o i W)) :
   Calls Tryz.prog 165 #[.pointer (some ⟨g,0,none⟩),.int .i64 l] w (AJ D g (bind o (fun t r1=>if AK ⟨#[41]⟩ r1=true then .ok t r1.tail else .err 101 r1)) i w):=by
 have HH:=Aa h;have HB:=Aa (Ae w (.cells #[.int .i64 0,.slice none 0 0,.slice none 0 0,.int .i64 0,.string ⟨#[]⟩,.string ⟨#[]⟩,.slice none 0 0] 33));have hsz:(w.alloc (.cells #[.int .i64 0,.slice none 0 0,.slice none 0 0,.int .i64 0,.string ⟨#[]⟩,.string ⟨#[]⟩,.slice none 0 0] 33)).heap.size=w.heap.size+1:=World.size_alloc _ _;have X0:=Aa (Ap.new 33 w #[.int .i64 0,.slice none 0 0,.slice none 0 0,.int .i64 0,.string ⟨#[]⟩,.string ⟨#[]⟩,.slice none 0 0])
 have HTB:=Aa (htab.below HB.out);have hgw:=h.lt;have HC0:=Aa (h.below HB.out);have s1:=(hcond _ HC0.out HTB.out).mono (fun _ _ hh=>AJ.any hh);clear h htab hcond;go_enter Tryz.func165,Tryz.ntmps165;go_wp2_with fail;generalize hW0:w.alloc (.cells #[.int .i64 0,.slice none 0 0,.slice none 0 0,.int .i64 0,.string ⟨#[]⟩,.string ⟨#[]⟩,.slice none 0 0] 33)=W0 at *;clear hW0;refine s1.mono ?_;rintro e w2 ⟨i2,code,kd,Al,nl,cl,Ar,nr,cr,op,p,q,A,n,c,rfl,q2,hor⟩
 have X2:=Aa (X0.out.other q2.1 (Nat.ne_of_gt hgw));have Q2:=Aa ((AB.of_below HH.out HB.out).trans q2);have hs2:=q2.1.size;clear s1 q2;rcases hor with ⟨h0,t,r1,h1,hT,h3⟩|⟨cd,r1,h0,hcd,h1,h3⟩
 · subst h0 h1;have hb3:=Ae w2 (.cells #[.int .i64 kd,.slice Al nl cl,.slice Ar nr cr,.int .i64 op,.string p,.string q,.slice A n c] 33);have X3:=Aa (X2.out.next hb3);have Y3:=Aa (Ap.new 33 w2 #[.int .i64 kd,.slice Al nl cl,.slice Ar nr cr,.int .i64 op,.string p,.string q,.slice A n c]);have T3:=Aa (hT.keep (AC.of_below hb3));have Q3:=Aa (Q2.out.below hb3);have HS:=Aa h3;have hwa:=Tl D g i2 ⟨#[41]⟩ _ Q3.out.2;unfold JW at hwa;have hrd:=h3.1;rw[hrd]at hwa
   cases hs:AK ⟨#[41]⟩ r1 with
   |true=>
    rw[hs]at hwa;simp only[if_true]at hwa;have hst:=BX HH.out.good.ends (show AK ⟨#[41]⟩ (rd D.ts i2)=true by rw[hrd];exact hs);have HST:=Aa (show As D i r1.tail (i2+1) from h3.trans' (by rw[hst.1,hrd]) (by have:=hst.2.1;have e2:=hst.1;rw[hrd]at e2 this ⊢;rw[<-e2];omega));have HO:=Aa (show bind (Out.ok t r1) (fun t r1=>if AK ⟨#[41]⟩ r1=true then Out.ok t r1.tail else .err 101 r1)=.ok t r1.tail from if_pos hs);clear hs hst hrd h3 hT hb3;go_wp2_with fail;refine hwa.mono ?_
    rintro e w4 ⟨rfl,q4⟩;have x4:=X3.out.other q4.1 (Nat.ne_of_gt hgw);have Y4:=Y3.out.other q4.1 (by omega);have l0:=Y4.cell 0 _ rfl;have l1:=Y4.cell 1 _ rfl;have l2:=Y4.cell 2 _ rfl;have l3:=Y4.cell 3 _ rfl;have l4:=Y4.cell 4 _ rfl;have l5:=Y4.cell 5 _ rfl;have l6:=Y4.cell 6 _ rfl;have T4:=Aa (T3.out.keep (AC.of_only q4.1 (by omega)));have Q4:=Aa (Q3.out.trans q4);clear q4 hwa Y4
    go_wp2_with (with_reducible refine Ac rfl 33 _ _ rfl w.heap.size #[.int .i64 kd,.slice Al nl cl,.slice Ar nr cr,.int .i64 op,.string p,.string q,.slice A n c] rfl rfl _ x4 (by kernel_rfl) rfl (by simp[Value.oneCell']) ?_;intro w9 k9 ho9);refine Aw rfl rfl rfl k9 rfl ?_
    exact AJ.ok (vs:=#[.int .i64 kd,.slice Al nl cl,.slice Ar nr cr,.int .i64 op,.string p,.string q,.slice A n c]) HO.out ((T4.out.keep (AC.of_only ho9 (by omega))).mono (by omega)) HST.out (AB.fresh HH.out Q4.out ho9 (Nat.le_refl _))
   |false=>
    rw[hs]at hwa;simp only[Bool.false_eq_true,if_false]at hwa;have HO:=Aa (show bind (Out.ok t r1) (fun t r1=>if AK ⟨#[41]⟩ r1=true then Out.ok t r1.tail else .err 101 r1)=.err 101 r1 from if_neg (by rw[hs];decide));clear hs hrd h3 hT hb3;go_wp2_with fail;refine hwa.mono ?_;rintro e w4 ⟨rfl,q4⟩;have x4:=X3.out.other q4.1 (Nat.ne_of_gt hgw);have Q4:=Aa (Q3.out.trans q4);clear q4 hwa
    go_wp2_with (with_reducible refine Ac rfl 33 _ _ rfl w.heap.size #[.int .i64 0,.slice none 0 0,.slice none 0 0,.int .i64 0,.string ⟨#[]⟩,.string ⟨#[]⟩,.slice none 0 0] rfl rfl _ x4 (by kernel_rfl) rfl (by simp[Value.oneCell']) ?_;intro w9 k9 ho9);refine Aw rfl rfl rfl k9 rfl ?_;exact AJ.err (c:=101) HO.out (by decide) HS.out (AB.fresh HH.out Q4.out ho9 (Nat.le_refl _))
 · have gc:=Fv hcd;have gc2:=Ix hcd;subst h0 h1;have x3:=X2.out.alloc (.cells #[.int .i64 kd,.slice Al nl cl,.slice Ar nr cr,.int .i64 op,.string p,.string q,.slice A n c] 33)
   have HP:=Aa (fun w9 ho9=>AJ.err (o:=bind (Out.err cd r1) (fun t r1=>if AK ⟨#[41]⟩ r1=true then .ok t r1.tail else .err 101 r1)) (w':=w9) rfl hcd h3 (AB.fresh HH.out (Q2.out.below (Ae w2 (.cells #[.int .i64 kd,.slice Al nl cl,.slice Ar nr cr,.int .i64 op,.string p,.string q,.slice A n c] 33))) ho9 (Nat.le_refl _)));clear h3 hcd
   go_wp2_with (with_reducible refine Ac rfl 33 _ _ rfl w.heap.size #[.int .i64 0,.slice none 0 0,.slice none 0 0,.int .i64 0,.string ⟨#[]⟩,.string ⟨#[]⟩,.slice none 0 0] rfl rfl _ x3 (by kernel_rfl) rfl (by simp[Value.oneCell']) ?_;intro w9 k9 ho9);refine Aw rfl rfl rfl k9 rfl ?_;exact HP.out _ ho9
end
end Go.Proofs.YtgohmojcopajoaaGreatDoor
