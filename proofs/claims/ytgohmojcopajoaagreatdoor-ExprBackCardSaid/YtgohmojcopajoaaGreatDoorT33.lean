/- Texts of one seat, put together: ExprC13 LexJ LexK ExprR1 ExprR2 ExprE1 ExprE2. -/
import Derived.Test.YtgohmojcopajoaaGreatDoorT32
import Derived.Test.YtgohmojcopajoaaGreatDoorT04
import Derived.Test.YtgohmojcopajoaaGreatDoorT07
import Derived.Test.YtgohmojcopajoaaGreatDoorT23
set_option linter.unusedVariables false
set_option linter.unusedSimpArgs false
set_option maxRecDepth 100000
set_option maxHeartbeats 16000000
namespace Go.Proofs.YtgohmojcopajoaaGreatDoor
section
open Go.RowKit
open Lx Ex
theorem VJ (D:CD) (g i lv:Nat) (w:World) (h:Cf D g w i) (htab:AQ w) (hlv:lv<=60)
   (hone:∀W,1<=lv->Cf D g W (i+1)->AQ W->(rd D.ts (i+1)).length<(rd D.ts i).length->Calls Tryz.prog 140 #[.pointer (some ⟨g,0,none⟩),.int .i64 ((lv:Int)-1)] W (AJ D g (Am D.kn .one (lv-1) (rd D.ts (i+1))) (i+1) W))
   (hcond:∀W,1<=lv->Cf D g W (i+1)->AQ W->(rd D.ts (i+1)).length<(rd D.ts i).length->Calls Tryz.prog 62 #[.pointer (some ⟨g,0,none⟩),.int .i64 ((lv:Int)-1)] W (AJ D g (Am D.kn .cond (lv-1) (rd D.ts (i+1))) (i+1) W)) :
   Calls Tryz.prog 140 #[.pointer (some ⟨g,0,none⟩),.int .i64 (lv:Int)] w (AJ D g (Am D.kn .one lv (rd D.ts i)) i w):=by
 have HH:=Aa h;have HB:=Aa (Ae w (.cells #[.int .i64 0,.slice none 0 0,.slice none 0 0,.int .i64 0,.string ⟨#[]⟩,.string ⟨#[]⟩,.slice none 0 0] 33));have hsz:(w.alloc (.cells #[.int .i64 0,.slice none 0 0,.slice none 0 0,.int .i64 0,.string ⟨#[]⟩,.string ⟨#[]⟩,.slice none 0 0] 33)).heap.size=w.heap.size+1:=World.size_alloc _ _;have X0:=Aa (Ap.new 33 w #[.int .i64 0,.slice none 0 0,.slice none 0 0,.int .i64 0,.string ⟨#[]⟩,.string ⟨#[]⟩,.slice none 0 0])
 have HTB:=Aa (htab.below HB.out);have hgw:=h.lt;have HC0:=Aa (h.below HB.out);have HP1:=Aa (BS D.kn lv (rd D.ts i));have HT:=Aa (fun (s:ByteArray) W (c:Cf D g W i)=>Dm D g i s W c);have HS:=Aa (fun (s:ByteArray) W (c:Cf D g W i)=>N9 D g i s W c);unfold Co at HT;unfold L1 at HS;have HTAB:=Aa htab;have HONE:=Aa hone;have HCOND:=Aa hcond;have hg2:=htab.ne h;obtain ⟨O,hO⟩:∃O,O=Am D.kn .one lv (rd D.ts i):=⟨_,rfl⟩;rw[<-hO]at HP1 ⊢;clear h htab hone hcond hO;by_cases hl:lv=0
 · cases hb:AK ⟨#[33]⟩ (rd D.ts i) with
   |true=>
    have HO:=Aa (HP1.out.trans (if_pos (by subst hl;exact ⟨rfl,Or.inl hb⟩)));subst hl;clear HP1;go_enter Tryz.func140,Tryz.ntmps140;go_wp2_with fail;generalize hW0:w.alloc (.cells #[.int .i64 0,.slice none 0 0,.slice none 0 0,.int .i64 0,.string ⟨#[]⟩,.string ⟨#[]⟩,.slice none 0 0] 33)=W0 at *;clear hW0;have Q0:=Aa (AB.of_below HH.out HB.out);have XX0:=Aa X0.out;have hq:=HS.out ⟨#[33]⟩ _ Q0.out.2;rw[hb]at hq;refine hq.mono ?_;rintro e w1 ⟨rfl,bq⟩
    have Q1:=Aa (Q0.out.below bq);have XX1:=Aa (XX0.out.next bq);have hs1:=bq.size;clear bq hq;have x9:=XX1.out;go_wp2_with (with_reducible refine Ac rfl 33 _ _ rfl w.heap.size #[.int .i64 0,.slice none 0 0,.slice none 0 0,.int .i64 0,.string ⟨#[]⟩,.string ⟨#[]⟩,.slice none 0 0] rfl rfl _ x9 (by kernel_rfl) rfl (by simp[Value.oneCell']) ?_;intro w9 k9 ho9);refine Aw rfl rfl rfl k9 rfl ?_
    exact AJ.err (c:=102) HO.out (by decide) (As.refl D i) (AB.fresh HH.out Q1.out ho9 (Nat.le_refl _))
   |false=>
    cases hp:AK ⟨#[40]⟩ (rd D.ts i) with
    |true=>
     have HO:=Aa (HP1.out.trans (if_pos (by subst hl;exact ⟨rfl,Or.inr hp⟩)));subst hl;clear HP1;go_enter Tryz.func140,Tryz.ntmps140;go_wp2_with fail;generalize hW0:w.alloc (.cells #[.int .i64 0,.slice none 0 0,.slice none 0 0,.int .i64 0,.string ⟨#[]⟩,.string ⟨#[]⟩,.slice none 0 0] 33)=W0 at *;clear hW0;have Q0:=Aa (AB.of_below HH.out HB.out);have XX0:=Aa X0.out;have hq:=HS.out ⟨#[33]⟩ _ Q0.out.2;rw[hb]at hq;refine hq.mono ?_;rintro e w1 ⟨rfl,bq⟩
     have Q1:=Aa (Q0.out.below bq);have XX1:=Aa (XX0.out.next bq);have hs1:=bq.size;clear bq hq;go_wp2_with fail;have hq:=HS.out ⟨#[40]⟩ _ Q1.out.2;rw[hp]at hq;refine hq.mono ?_;rintro e w2 ⟨rfl,bq⟩;have Q2:=Aa (Q1.out.below bq);have XX2:=Aa (XX1.out.next bq);have hs2:=bq.size;clear bq hq;have x9:=XX2.out
     go_wp2_with (with_reducible refine Ac rfl 33 _ _ rfl w.heap.size #[.int .i64 0,.slice none 0 0,.slice none 0 0,.int .i64 0,.string ⟨#[]⟩,.string ⟨#[]⟩,.slice none 0 0] rfl rfl _ x9 (by kernel_rfl) rfl (by simp[Value.oneCell']) ?_;intro w9 k9 ho9);refine Aw rfl rfl rfl k9 rfl ?_;exact AJ.err (c:=102) HO.out (by decide) (As.refl D i) (AB.fresh HH.out Q2.out ho9 (Nat.le_refl _))
    |false=>
     cases ht:AK ⟨#[116,114,117,101]⟩ (rd D.ts i) with
     |true=>
      have hno:¬(lv=0/\(AK ⟨#[33]⟩ (rd D.ts i)=true\/AK ⟨#[40]⟩ (rd D.ts i)=true)):=fun hh=>by rw[hb,hp]at hh;simp at hh
      have HO:=Aa (HP1.out.trans ((if_neg hno).trans ((if_neg (by rw[hb];decide)).trans ((if_neg (by rw[hp];decide)).trans (if_pos ht)))));clear hno;have hst:=BX HH.out.good.ends ht;rw[<-hst.1]at HO;have hl1:=hst.2.1;have HST:=Aa (show As D i (rd D.ts (i+1)) (i+1) from ⟨rfl,by omega⟩);clear hst;subst hl;clear HP1;go_enter Tryz.func140,Tryz.ntmps140;go_wp2_with fail
      generalize hW0:w.alloc (.cells #[.int .i64 0,.slice none 0 0,.slice none 0 0,.int .i64 0,.string ⟨#[]⟩,.string ⟨#[]⟩,.slice none 0 0] 33)=W0 at *;clear hW0;have Q0:=Aa (AB.of_below HH.out HB.out);have XX0:=Aa X0.out;have hq:=HS.out ⟨#[33]⟩ _ Q0.out.2;rw[hb]at hq;refine hq.mono ?_;rintro e w1 ⟨rfl,bq⟩;have Q1:=Aa (Q0.out.below bq);have XX1:=Aa (XX0.out.next bq);have hs1:=bq.size;clear bq hq;go_wp2_with fail;have hq:=HS.out ⟨#[40]⟩ _ Q1.out.2;rw[hp]at hq
      refine hq.mono ?_;rintro e w2 ⟨rfl,bq⟩;have Q2:=Aa (Q1.out.below bq);have XX2:=Aa (XX1.out.next bq);have hs2:=bq.size;clear bq hq;go_wp2_with fail;have hq:=HT.out ⟨#[33]⟩ _ Q2.out.2;rw[hb]at hq;simp only[Bool.false_eq_true,if_false]at hq;refine hq.mono ?_;rintro e w3 ⟨rfl,bq⟩;have Q3:=Aa (Q2.out.trans bq);have XX3:=Aa (XX2.out.other bq.1 (Nat.ne_of_gt hgw));have hs3:=bq.1.size;clear bq hq;go_wp2_with fail;have hq:=HT.out ⟨#[40]⟩ _ Q3.out.2;rw[hp]at hq
      simp only[Bool.false_eq_true,if_false]at hq;refine hq.mono ?_;rintro e w4 ⟨rfl,bq⟩;have Q4:=Aa (Q3.out.trans bq);have XX4:=Aa (XX3.out.other bq.1 (Nat.ne_of_gt hgw));have hs4:=bq.1.size;clear bq hq;go_wp2_with fail;have hq:=HT.out ⟨#[116,114,117,101]⟩ _ Q4.out.2;rw[ht]at hq;simp only[if_true]at hq;refine hq.mono ?_;rintro e w5 ⟨rfl,bq⟩;have Q5:=Aa (Q4.out.trans bq);have XX5:=Aa (XX4.out.other bq.1 (Nat.ne_of_gt hgw));have hs5:=bq.1.size;clear bq hq;have x9:=XX5.out
      go_wp2_with (with_reducible refine Ac rfl 33 _ _ rfl w.heap.size #[.int .i64 0,.slice none 0 0,.slice none 0 0,.int .i64 0,.string ⟨#[]⟩,.string ⟨#[]⟩,.slice none 0 0] rfl rfl _ x9 (by kernel_rfl) rfl (by simp[Value.oneCell']) ?_;intro w9 k9 ho9);refine Aw rfl rfl rfl k9 rfl ?_
      exact AJ.ok (vs:=#[.int .i64 0,.slice none 0 0,.slice none 0 0,.int .i64 0,.string ⟨#[]⟩,.string ⟨#[]⟩,.slice none 0 0]) HO.out (Bt.leaf _ _ 0) HST.out (AB.fresh HH.out Q5.out ho9 (Nat.le_refl _))
     |false=>
      cases hf:AK ⟨#[102,97,108,115,101]⟩ (rd D.ts i) with
      |true=>
       have hno:¬(lv=0/\(AK ⟨#[33]⟩ (rd D.ts i)=true\/AK ⟨#[40]⟩ (rd D.ts i)=true)):=fun hh=>by rw[hb,hp]at hh;simp at hh
       have HO:=Aa (HP1.out.trans ((if_neg hno).trans ((if_neg (by rw[hb];decide)).trans ((if_neg (by rw[hp];decide)).trans ((if_neg (by rw[ht];decide)).trans (if_pos hf))))));clear hno;have hst:=BX HH.out.good.ends hf;rw[<-hst.1]at HO;have hl1:=hst.2.1;have HST:=Aa (show As D i (rd D.ts (i+1)) (i+1) from ⟨rfl,by omega⟩);clear hst;subst hl;clear HP1;go_enter Tryz.func140,Tryz.ntmps140;go_wp2_with fail
       generalize hW0:w.alloc (.cells #[.int .i64 0,.slice none 0 0,.slice none 0 0,.int .i64 0,.string ⟨#[]⟩,.string ⟨#[]⟩,.slice none 0 0] 33)=W0 at *;clear hW0;have Q0:=Aa (AB.of_below HH.out HB.out);have XX0:=Aa X0.out;have hq:=HS.out ⟨#[33]⟩ _ Q0.out.2;rw[hb]at hq;refine hq.mono ?_;rintro e w1 ⟨rfl,bq⟩;have Q1:=Aa (Q0.out.below bq);have XX1:=Aa (XX0.out.next bq);have hs1:=bq.size;clear bq hq;go_wp2_with fail;have hq:=HS.out ⟨#[40]⟩ _ Q1.out.2;rw[hp]at hq
       refine hq.mono ?_;rintro e w2 ⟨rfl,bq⟩;have Q2:=Aa (Q1.out.below bq);have XX2:=Aa (XX1.out.next bq);have hs2:=bq.size;clear bq hq;go_wp2_with fail;have hq:=HT.out ⟨#[33]⟩ _ Q2.out.2;rw[hb]at hq;simp only[Bool.false_eq_true,if_false]at hq;refine hq.mono ?_;rintro e w3 ⟨rfl,bq⟩;have Q3:=Aa (Q2.out.trans bq);have XX3:=Aa (XX2.out.other bq.1 (Nat.ne_of_gt hgw));have hs3:=bq.1.size;clear bq hq;go_wp2_with fail;have hq:=HT.out ⟨#[40]⟩ _ Q3.out.2;rw[hp]at hq
       simp only[Bool.false_eq_true,if_false]at hq;refine hq.mono ?_;rintro e w4 ⟨rfl,bq⟩;have Q4:=Aa (Q3.out.trans bq);have XX4:=Aa (XX3.out.other bq.1 (Nat.ne_of_gt hgw));have hs4:=bq.1.size;clear bq hq;go_wp2_with fail;have hq:=HT.out ⟨#[116,114,117,101]⟩ _ Q4.out.2;rw[ht]at hq;simp only[Bool.false_eq_true,if_false]at hq;refine hq.mono ?_;rintro e w5 ⟨rfl,bq⟩;have Q5:=Aa (Q4.out.trans bq);have XX5:=Aa (XX4.out.other bq.1 (Nat.ne_of_gt hgw));have hs5:=bq.1.size
       clear bq hq;go_wp2_with fail;have hq:=HT.out ⟨#[102,97,108,115,101]⟩ _ Q5.out.2;rw[hf]at hq;simp only[if_true]at hq;refine hq.mono ?_;rintro e w6 ⟨rfl,bq⟩;have Q6:=Aa (Q5.out.trans bq);have XX6:=Aa (XX5.out.other bq.1 (Nat.ne_of_gt hgw));have hs6:=bq.1.size;clear bq hq;have x9:=XX6.out
       go_wp2_with (with_reducible refine Ac rfl 33 _ _ rfl w.heap.size #[.int .i64 1,.slice none 0 0,.slice none 0 0,.int .i64 0,.string ⟨#[]⟩,.string ⟨#[]⟩,.slice none 0 0] rfl rfl _ x9 (by kernel_rfl) rfl (by simp[Value.oneCell']) ?_;intro w9 k9 ho9);refine Aw rfl rfl rfl k9 rfl ?_
       exact AJ.ok (vs:=#[.int .i64 1,.slice none 0 0,.slice none 0 0,.int .i64 0,.string ⟨#[]⟩,.string ⟨#[]⟩,.slice none 0 0]) HO.out (Bt.leaf _ _ 1) HST.out (AB.fresh HH.out Q6.out ho9 (Nat.le_refl _))
      |false=>
       have hno:¬(lv=0/\(AK ⟨#[33]⟩ (rd D.ts i)=true\/AK ⟨#[40]⟩ (rd D.ts i)=true)):=fun hh=>by rw[hb,hp]at hh;simp at hh
       have HO:=Aa (HP1.out.trans ((if_neg hno).trans ((if_neg (by rw[hb];decide)).trans ((if_neg (by rw[hp];decide)).trans ((if_neg (by rw[ht];decide)).trans (if_neg (by rw[hf];decide)))))));clear hno;subst hl;clear HP1;go_enter Tryz.func140,Tryz.ntmps140;go_wp2_with fail;generalize hW0:w.alloc (.cells #[.int .i64 0,.slice none 0 0,.slice none 0 0,.int .i64 0,.string ⟨#[]⟩,.string ⟨#[]⟩,.slice none 0 0] 33)=W0 at *;clear hW0;have Q0:=Aa (AB.of_below HH.out HB.out)
       have XX0:=Aa X0.out;have hq:=HS.out ⟨#[33]⟩ _ Q0.out.2;rw[hb]at hq;refine hq.mono ?_;rintro e w1 ⟨rfl,bq⟩;have Q1:=Aa (Q0.out.below bq);have XX1:=Aa (XX0.out.next bq);have hs1:=bq.size;clear bq hq;go_wp2_with fail;have hq:=HS.out ⟨#[40]⟩ _ Q1.out.2;rw[hp]at hq;refine hq.mono ?_;rintro e w2 ⟨rfl,bq⟩;have Q2:=Aa (Q1.out.below bq);have XX2:=Aa (XX1.out.next bq);have hs2:=bq.size;clear bq hq;go_wp2_with fail;have hq:=HT.out ⟨#[33]⟩ _ Q2.out.2;rw[hb]at hq
       simp only[Bool.false_eq_true,if_false]at hq;refine hq.mono ?_;rintro e w3 ⟨rfl,bq⟩;have Q3:=Aa (Q2.out.trans bq);have XX3:=Aa (XX2.out.other bq.1 (Nat.ne_of_gt hgw));have hs3:=bq.1.size;clear bq hq;go_wp2_with fail;have hq:=HT.out ⟨#[40]⟩ _ Q3.out.2;rw[hp]at hq;simp only[Bool.false_eq_true,if_false]at hq;refine hq.mono ?_;rintro e w4 ⟨rfl,bq⟩;have Q4:=Aa (Q3.out.trans bq);have XX4:=Aa (XX3.out.other bq.1 (Nat.ne_of_gt hgw));have hs4:=bq.1.size;clear bq hq
       go_wp2_with fail;have hq:=HT.out ⟨#[116,114,117,101]⟩ _ Q4.out.2;rw[ht]at hq;simp only[Bool.false_eq_true,if_false]at hq;refine hq.mono ?_;rintro e w5 ⟨rfl,bq⟩;have Q5:=Aa (Q4.out.trans bq);have XX5:=Aa (XX4.out.other bq.1 (Nat.ne_of_gt hgw));have hs5:=bq.1.size;clear bq hq;go_wp2_with fail;have hq:=HT.out ⟨#[102,97,108,115,101]⟩ _ Q5.out.2;rw[hf]at hq;simp only[Bool.false_eq_true,if_false]at hq;refine hq.mono ?_;rintro e w6 ⟨rfl,bq⟩;have Q6:=Aa (Q5.out.trans bq)
       have XX6:=Aa (XX5.out.other bq.1 (Nat.ne_of_gt hgw));have hs6:=bq.1.size;clear bq hq;go_wp2_with fail;have hd:=(Fg D g i _ Q6.out.2 (HTAB.out.went HH.out Q6.out)).mono (fun _ _ hh=>AJ.up hh);refine hd.mono ?_;rintro e wr ⟨code,kd,Al,nl,cl,Ar,nr,cr,op,p,q,A,n,c,rfl,or,hup⟩;have x9:=XX6.out.other or (Nat.ne_of_gt hgw);have HU:=Aa (fun w9 ho9=>hup w9 w i HH.out Q6.out (by omega) (As.refl D i) ho9);clear hup or hd
       go_wp2_with (with_reducible refine Ac rfl 33 _ _ rfl w.heap.size #[.int .i64 kd,.slice Al nl cl,.slice Ar nr cr,.int .i64 op,.string p,.string q,.slice A n c] rfl rfl _ x9 (by kernel_rfl) rfl (by simp[Value.oneCell']) ?_;intro w9 k9 ho9);refine Aw rfl rfl rfl k9 rfl ?_;rw[HO.out];exact HU.out _ ho9
 · cases hb:AK ⟨#[33]⟩ (rd D.ts i) with
   |true=>
    have HO:=Aa (HP1.out.trans ((if_neg (fun hh=>hl hh.1)).trans (if_pos hb)));have hst:=BX HH.out.good.ends hb;rw[<-hst.1]at HO;have hl1:=hst.2.1;have HST:=Aa (show As D i (rd D.ts (i+1)) (i+1) from ⟨rfl,by omega⟩);clear hst;have gl:((lv:Int)==0)=false:=(by simp;omega);clear HP1;go_enter Tryz.func140,Tryz.ntmps140;go_wp2_with fail
    generalize hW0:w.alloc (.cells #[.int .i64 0,.slice none 0 0,.slice none 0 0,.int .i64 0,.string ⟨#[]⟩,.string ⟨#[]⟩,.slice none 0 0] 33)=W0 at *;clear hW0;have Q0:=Aa (AB.of_below HH.out HB.out);have XX0:=Aa X0.out;have hq:=HT.out ⟨#[33]⟩ _ Q0.out.2;rw[hb]at hq;simp only[if_true]at hq;refine hq.mono ?_;rintro e w1 ⟨rfl,bq⟩;have Q1:=Aa (Q0.out.trans bq);have XX1:=Aa (XX0.out.other bq.1 (Nat.ne_of_gt hgw));have hs1:=bq.1.size;clear bq hq;go_wp2_with fail
    have hd:=(Ux D g (i+1) ((lv:Int)-1) _ _ Q1.out.2 (HTAB.out.went HH.out Q1.out) (fun W c tt=>HONE.out W (by omega) c tt (by omega))).mono (fun _ _ hh=>AJ.up hh);refine hd.mono ?_;rintro e wr ⟨code,kd,Al,nl,cl,Ar,nr,cr,op,p,q,A,n,c,rfl,or,hup⟩;have x9:=XX1.out.other or (Nat.ne_of_gt hgw);have HU:=Aa (fun w9 ho9=>hup w9 w i HH.out Q1.out (by omega) HST.out ho9);clear hup or hd
    go_wp2_with (with_reducible refine Ac rfl 33 _ _ rfl w.heap.size #[.int .i64 kd,.slice Al nl cl,.slice Ar nr cr,.int .i64 op,.string p,.string q,.slice A n c] rfl rfl _ x9 (by kernel_rfl) rfl (by simp[Value.oneCell']) ?_;intro w9 k9 ho9);refine Aw rfl rfl rfl k9 rfl ?_;rw[HO.out];exact HU.out _ ho9
   |false=>
    cases hp:AK ⟨#[40]⟩ (rd D.ts i) with
    |true=>
     have HO:=Aa (HP1.out.trans ((if_neg (fun hh=>hl hh.1)).trans ((if_neg (by rw[hb];decide)).trans (if_pos hp))));have hst:=BX HH.out.good.ends hp;rw[<-hst.1]at HO;have hl1:=hst.2.1;have HST:=Aa (show As D i (rd D.ts (i+1)) (i+1) from ⟨rfl,by omega⟩);clear hst;have gl:((lv:Int)==0)=false:=(by simp;omega);clear HP1;go_enter Tryz.func140,Tryz.ntmps140;go_wp2_with fail
     generalize hW0:w.alloc (.cells #[.int .i64 0,.slice none 0 0,.slice none 0 0,.int .i64 0,.string ⟨#[]⟩,.string ⟨#[]⟩,.slice none 0 0] 33)=W0 at *;clear hW0;have Q0:=Aa (AB.of_below HH.out HB.out);have XX0:=Aa X0.out;have hq:=HT.out ⟨#[33]⟩ _ Q0.out.2;rw[hb]at hq;simp only[Bool.false_eq_true,if_false]at hq;refine hq.mono ?_;rintro e w1 ⟨rfl,bq⟩;have Q1:=Aa (Q0.out.trans bq);have XX1:=Aa (XX0.out.other bq.1 (Nat.ne_of_gt hgw));have hs1:=bq.1.size;clear bq hq
     go_wp2_with fail;have hq:=HT.out ⟨#[40]⟩ _ Q1.out.2;rw[hp]at hq;simp only[if_true]at hq;refine hq.mono ?_;rintro e w2 ⟨rfl,bq⟩;have Q2:=Aa (Q1.out.trans bq);have XX2:=Aa (XX1.out.other bq.1 (Nat.ne_of_gt hgw));have hs2:=bq.1.size;clear bq hq;go_wp2_with fail;have hd:=(Sv D g (i+1) ((lv:Int)-1) _ _ Q2.out.2 (HTAB.out.went HH.out Q2.out) (fun W c tt=>HCOND.out W (by omega) c tt (by omega))).mono (fun _ _ hh=>AJ.up hh);refine hd.mono ?_
     rintro e wr ⟨code,kd,Al,nl,cl,Ar,nr,cr,op,p,q,A,n,c,rfl,or,hup⟩;have x9:=XX2.out.other or (Nat.ne_of_gt hgw);have HU:=Aa (fun w9 ho9=>hup w9 w i HH.out Q2.out (by omega) HST.out ho9);clear hup or hd;go_wp2_with (with_reducible refine Ac rfl 33 _ _ rfl w.heap.size #[.int .i64 kd,.slice Al nl cl,.slice Ar nr cr,.int .i64 op,.string p,.string q,.slice A n c] rfl rfl _ x9 (by kernel_rfl) rfl (by simp[Value.oneCell']) ?_;intro w9 k9 ho9);refine Aw rfl rfl rfl k9 rfl ?_
     rw[HO.out];exact HU.out _ ho9
    |false=>
     cases ht:AK ⟨#[116,114,117,101]⟩ (rd D.ts i) with
     |true=>
      have hno:¬(lv=0/\(AK ⟨#[33]⟩ (rd D.ts i)=true\/AK ⟨#[40]⟩ (rd D.ts i)=true)):=fun hh=>by rw[hb,hp]at hh;simp at hh
      have HO:=Aa (HP1.out.trans ((if_neg hno).trans ((if_neg (by rw[hb];decide)).trans ((if_neg (by rw[hp];decide)).trans (if_pos ht)))));clear hno;have hst:=BX HH.out.good.ends ht;rw[<-hst.1]at HO;have hl1:=hst.2.1;have HST:=Aa (show As D i (rd D.ts (i+1)) (i+1) from ⟨rfl,by omega⟩);clear hst;have gl:((lv:Int)==0)=false:=(by simp;omega);clear HP1;go_enter Tryz.func140,Tryz.ntmps140;go_wp2_with fail
      generalize hW0:w.alloc (.cells #[.int .i64 0,.slice none 0 0,.slice none 0 0,.int .i64 0,.string ⟨#[]⟩,.string ⟨#[]⟩,.slice none 0 0] 33)=W0 at *;clear hW0;have Q0:=Aa (AB.of_below HH.out HB.out);have XX0:=Aa X0.out;have hq:=HT.out ⟨#[33]⟩ _ Q0.out.2;rw[hb]at hq;simp only[Bool.false_eq_true,if_false]at hq;refine hq.mono ?_;rintro e w1 ⟨rfl,bq⟩;have Q1:=Aa (Q0.out.trans bq);have XX1:=Aa (XX0.out.other bq.1 (Nat.ne_of_gt hgw));have hs1:=bq.1.size;clear bq hq
      go_wp2_with fail;have hq:=HT.out ⟨#[40]⟩ _ Q1.out.2;rw[hp]at hq;simp only[Bool.false_eq_true,if_false]at hq;refine hq.mono ?_;rintro e w2 ⟨rfl,bq⟩;have Q2:=Aa (Q1.out.trans bq);have XX2:=Aa (XX1.out.other bq.1 (Nat.ne_of_gt hgw));have hs2:=bq.1.size;clear bq hq;go_wp2_with fail;have hq:=HT.out ⟨#[116,114,117,101]⟩ _ Q2.out.2;rw[ht]at hq;simp only[if_true]at hq;refine hq.mono ?_;rintro e w3 ⟨rfl,bq⟩;have Q3:=Aa (Q2.out.trans bq)
      have XX3:=Aa (XX2.out.other bq.1 (Nat.ne_of_gt hgw));have hs3:=bq.1.size;clear bq hq;have x9:=XX3.out;go_wp2_with (with_reducible refine Ac rfl 33 _ _ rfl w.heap.size #[.int .i64 0,.slice none 0 0,.slice none 0 0,.int .i64 0,.string ⟨#[]⟩,.string ⟨#[]⟩,.slice none 0 0] rfl rfl _ x9 (by kernel_rfl) rfl (by simp[Value.oneCell']) ?_;intro w9 k9 ho9);refine Aw rfl rfl rfl k9 rfl ?_
      exact AJ.ok (vs:=#[.int .i64 0,.slice none 0 0,.slice none 0 0,.int .i64 0,.string ⟨#[]⟩,.string ⟨#[]⟩,.slice none 0 0]) HO.out (Bt.leaf _ _ 0) HST.out (AB.fresh HH.out Q3.out ho9 (Nat.le_refl _))
     |false=>
      cases hf:AK ⟨#[102,97,108,115,101]⟩ (rd D.ts i) with
      |true=>
       have hno:¬(lv=0/\(AK ⟨#[33]⟩ (rd D.ts i)=true\/AK ⟨#[40]⟩ (rd D.ts i)=true)):=fun hh=>by rw[hb,hp]at hh;simp at hh
       have HO:=Aa (HP1.out.trans ((if_neg hno).trans ((if_neg (by rw[hb];decide)).trans ((if_neg (by rw[hp];decide)).trans ((if_neg (by rw[ht];decide)).trans (if_pos hf))))));clear hno;have hst:=BX HH.out.good.ends hf;rw[<-hst.1]at HO;have hl1:=hst.2.1;have HST:=Aa (show As D i (rd D.ts (i+1)) (i+1) from ⟨rfl,by omega⟩);clear hst;have gl:((lv:Int)==0)=false:=(by simp;omega);clear HP1;go_enter Tryz.func140,Tryz.ntmps140;go_wp2_with fail
       generalize hW0:w.alloc (.cells #[.int .i64 0,.slice none 0 0,.slice none 0 0,.int .i64 0,.string ⟨#[]⟩,.string ⟨#[]⟩,.slice none 0 0] 33)=W0 at *;clear hW0;have Q0:=Aa (AB.of_below HH.out HB.out);have XX0:=Aa X0.out;have hq:=HT.out ⟨#[33]⟩ _ Q0.out.2;rw[hb]at hq;simp only[Bool.false_eq_true,if_false]at hq;refine hq.mono ?_;rintro e w1 ⟨rfl,bq⟩;have Q1:=Aa (Q0.out.trans bq);have XX1:=Aa (XX0.out.other bq.1 (Nat.ne_of_gt hgw));have hs1:=bq.1.size;clear bq hq
       go_wp2_with fail;have hq:=HT.out ⟨#[40]⟩ _ Q1.out.2;rw[hp]at hq;simp only[Bool.false_eq_true,if_false]at hq;refine hq.mono ?_;rintro e w2 ⟨rfl,bq⟩;have Q2:=Aa (Q1.out.trans bq);have XX2:=Aa (XX1.out.other bq.1 (Nat.ne_of_gt hgw));have hs2:=bq.1.size;clear bq hq;go_wp2_with fail;have hq:=HT.out ⟨#[116,114,117,101]⟩ _ Q2.out.2;rw[ht]at hq;simp only[Bool.false_eq_true,if_false]at hq;refine hq.mono ?_;rintro e w3 ⟨rfl,bq⟩;have Q3:=Aa (Q2.out.trans bq)
       have XX3:=Aa (XX2.out.other bq.1 (Nat.ne_of_gt hgw));have hs3:=bq.1.size;clear bq hq;go_wp2_with fail;have hq:=HT.out ⟨#[102,97,108,115,101]⟩ _ Q3.out.2;rw[hf]at hq;simp only[if_true]at hq;refine hq.mono ?_;rintro e w4 ⟨rfl,bq⟩;have Q4:=Aa (Q3.out.trans bq);have XX4:=Aa (XX3.out.other bq.1 (Nat.ne_of_gt hgw));have hs4:=bq.1.size;clear bq hq;have x9:=XX4.out
       go_wp2_with (with_reducible refine Ac rfl 33 _ _ rfl w.heap.size #[.int .i64 1,.slice none 0 0,.slice none 0 0,.int .i64 0,.string ⟨#[]⟩,.string ⟨#[]⟩,.slice none 0 0] rfl rfl _ x9 (by kernel_rfl) rfl (by simp[Value.oneCell']) ?_;intro w9 k9 ho9);refine Aw rfl rfl rfl k9 rfl ?_
       exact AJ.ok (vs:=#[.int .i64 1,.slice none 0 0,.slice none 0 0,.int .i64 0,.string ⟨#[]⟩,.string ⟨#[]⟩,.slice none 0 0]) HO.out (Bt.leaf _ _ 1) HST.out (AB.fresh HH.out Q4.out ho9 (Nat.le_refl _))
      |false=>
       have hno:¬(lv=0/\(AK ⟨#[33]⟩ (rd D.ts i)=true\/AK ⟨#[40]⟩ (rd D.ts i)=true)):=fun hh=>by rw[hb,hp]at hh;simp at hh
       have HO:=Aa (HP1.out.trans ((if_neg hno).trans ((if_neg (by rw[hb];decide)).trans ((if_neg (by rw[hp];decide)).trans ((if_neg (by rw[ht];decide)).trans (if_neg (by rw[hf];decide)))))));clear hno;have gl:((lv:Int)==0)=false:=(by simp;omega);clear HP1;go_enter Tryz.func140,Tryz.ntmps140;go_wp2_with fail;generalize hW0:w.alloc (.cells #[.int .i64 0,.slice none 0 0,.slice none 0 0,.int .i64 0,.string ⟨#[]⟩,.string ⟨#[]⟩,.slice none 0 0] 33)=W0 at *;clear hW0
       have Q0:=Aa (AB.of_below HH.out HB.out);have XX0:=Aa X0.out;have hq:=HT.out ⟨#[33]⟩ _ Q0.out.2;rw[hb]at hq;simp only[Bool.false_eq_true,if_false]at hq;refine hq.mono ?_;rintro e w1 ⟨rfl,bq⟩;have Q1:=Aa (Q0.out.trans bq);have XX1:=Aa (XX0.out.other bq.1 (Nat.ne_of_gt hgw));have hs1:=bq.1.size;clear bq hq;go_wp2_with fail;have hq:=HT.out ⟨#[40]⟩ _ Q1.out.2;rw[hp]at hq;simp only[Bool.false_eq_true,if_false]at hq;refine hq.mono ?_;rintro e w2 ⟨rfl,bq⟩
       have Q2:=Aa (Q1.out.trans bq);have XX2:=Aa (XX1.out.other bq.1 (Nat.ne_of_gt hgw));have hs2:=bq.1.size;clear bq hq;go_wp2_with fail;have hq:=HT.out ⟨#[116,114,117,101]⟩ _ Q2.out.2;rw[ht]at hq;simp only[Bool.false_eq_true,if_false]at hq;refine hq.mono ?_;rintro e w3 ⟨rfl,bq⟩;have Q3:=Aa (Q2.out.trans bq);have XX3:=Aa (XX2.out.other bq.1 (Nat.ne_of_gt hgw));have hs3:=bq.1.size;clear bq hq;go_wp2_with fail;have hq:=HT.out ⟨#[102,97,108,115,101]⟩ _ Q3.out.2
       rw[hf]at hq;simp only[Bool.false_eq_true,if_false]at hq;refine hq.mono ?_;rintro e w4 ⟨rfl,bq⟩;have Q4:=Aa (Q3.out.trans bq);have XX4:=Aa (XX3.out.other bq.1 (Nat.ne_of_gt hgw));have hs4:=bq.1.size;clear bq hq;go_wp2_with fail;have hd:=(Fg D g i _ Q4.out.2 (HTAB.out.went HH.out Q4.out)).mono (fun _ _ hh=>AJ.up hh);refine hd.mono ?_;rintro e wr ⟨code,kd,Al,nl,cl,Ar,nr,cr,op,p,q,A,n,c,rfl,or,hup⟩;have x9:=XX4.out.other or (Nat.ne_of_gt hgw)
       have HU:=Aa (fun w9 ho9=>hup w9 w i HH.out Q4.out (by omega) (As.refl D i) ho9);clear hup or hd;go_wp2_with (with_reducible refine Ac rfl 33 _ _ rfl w.heap.size #[.int .i64 kd,.slice Al nl cl,.slice Ar nr cr,.int .i64 op,.string p,.string q,.slice A n c] rfl rfl _ x9 (by kernel_rfl) rfl (by simp[Value.oneCell']) ?_;intro w9 k9 ho9);refine Aw rfl rfl rfl k9 rfl ?_;rw[HO.out];exact HU.out _ ho9
theorem Uy (D:CD) (g i lv:Nat) (w:World) (h:Cf D g w i) (htab:AQ w) (hlv:lv<=60)
  (hpart:∀W j,Cf D g W j->AQ W->(rd D.ts j).length<=(rd D.ts i).length->Calls Tryz.prog 140 #[.pointer (some ⟨g,0,none⟩),.int .i64 (lv:Int)] W (AJ D g (Am D.kn .one lv (rd D.ts j)) j W)) :
  Calls Tryz.prog 105 #[.pointer (some ⟨g,0,none⟩),.int .i64 (lv:Int)] w (AJ D g (Am D.kn .both lv (rd D.ts i)) i w):=by
 have HH:=Aa h;have HB:=Aa (Ae w (.cells #[.int .i64 0,.slice none 0 0,.slice none 0 0,.int .i64 0,.string ⟨#[]⟩,.string ⟨#[]⟩,.slice none 0 0] 33));have hsz:(w.alloc (.cells #[.int .i64 0,.slice none 0 0,.slice none 0 0,.int .i64 0,.string ⟨#[]⟩,.string ⟨#[]⟩,.slice none 0 0] 33)).heap.size=w.heap.size+1:=World.size_alloc _ _;have X0:=Aa (Ap.new 33 w #[.int .i64 0,.slice none 0 0,.slice none 0 0,.int .i64 0,.string ⟨#[]⟩,.string ⟨#[]⟩,.slice none 0 0])
 have HTB:=Aa (htab.below HB.out);have hgw:=h.lt;have HC0:=Aa (h.below HB.out);have hc:=(LN D g i lv _ 140 4 ⟨#[38]⟩ .one .bothGo .both HC0.out HTB.out hlv (fun args W=>FC Tryz.func140 (by kernel_rfl) (by kernel_rfl) args W) hpart (fun t r=>FE _ _ _ _) (fun t k=>rfl)).mono (fun _ _ hh=>AJ.up hh);rw[Dy];clear h htab hpart;go_enter Tryz.func105,Tryz.ntmps105;go_wp2_with fail
 generalize hW0:w.alloc (.cells #[.int .i64 0,.slice none 0 0,.slice none 0 0,.int .i64 0,.string ⟨#[]⟩,.string ⟨#[]⟩,.slice none 0 0] 33)=W0 at *;clear hW0;refine hc.mono ?_;rintro e w2 ⟨code,kd,Al,nl,cl,Ar,nr,cr,op,p,q,A,n,c,rfl,q2,hup⟩;have x9:=X0.out.other q2 (Nat.ne_of_gt hgw);have HU:=Aa (fun w9 ho9=>hup w9 w i HH.out (AB.of_below HH.out HB.out) (by omega) (As.refl D i) ho9);clear hc q2 hup
 go_wp2_with (with_reducible refine Ac rfl 33 _ _ rfl w.heap.size #[.int .i64 kd,.slice Al nl cl,.slice Ar nr cr,.int .i64 op,.string p,.string q,.slice A n c] rfl rfl _ x9 (by kernel_rfl) rfl (by simp[Value.oneCell']) ?_;intro w9 k9 ho9);refine Aw rfl rfl rfl k9 rfl ?_;exact HU.out _ ho9
theorem Uz (D:CD) (g i lv:Nat) (w:World) (h:Cf D g w i) (htab:AQ w) (hlv:lv<=60)
  (hpart:∀W j,Cf D g W j->AQ W->(rd D.ts j).length<=(rd D.ts i).length->Calls Tryz.prog 105 #[.pointer (some ⟨g,0,none⟩),.int .i64 (lv:Int)] W (AJ D g (Am D.kn .both lv (rd D.ts j)) j W)) :
  Calls Tryz.prog 62 #[.pointer (some ⟨g,0,none⟩),.int .i64 (lv:Int)] w (AJ D g (Am D.kn .cond lv (rd D.ts i)) i w):=by
 have HH:=Aa h;have HB:=Aa (Ae w (.cells #[.int .i64 0,.slice none 0 0,.slice none 0 0,.int .i64 0,.string ⟨#[]⟩,.string ⟨#[]⟩,.slice none 0 0] 33));have hsz:(w.alloc (.cells #[.int .i64 0,.slice none 0 0,.slice none 0 0,.int .i64 0,.string ⟨#[]⟩,.string ⟨#[]⟩,.slice none 0 0] 33)).heap.size=w.heap.size+1:=World.size_alloc _ _;have X0:=Aa (Ap.new 33 w #[.int .i64 0,.slice none 0 0,.slice none 0 0,.int .i64 0,.string ⟨#[]⟩,.string ⟨#[]⟩,.slice none 0 0])
 have HTB:=Aa (htab.below HB.out);have hgw:=h.lt;have HC0:=Aa (h.below HB.out);have hc:=(LN D g i lv _ 105 5 ⟨#[124]⟩ .both .condGo .any HC0.out HTB.out hlv (fun args W=>FC Tryz.func105 (by kernel_rfl) (by kernel_rfl) args W) hpart (fun t r=>FF _ _ _ _) (fun t k=>rfl)).mono (fun _ _ hh=>AJ.up hh);rw[EB];clear h htab hpart;go_enter Tryz.func62,Tryz.ntmps62;go_wp2_with fail
 generalize hW0:w.alloc (.cells #[.int .i64 0,.slice none 0 0,.slice none 0 0,.int .i64 0,.string ⟨#[]⟩,.string ⟨#[]⟩,.slice none 0 0] 33)=W0 at *;clear hW0;refine hc.mono ?_;rintro e w2 ⟨code,kd,Al,nl,cl,Ar,nr,cr,op,p,q,A,n,c,rfl,q2,hup⟩;have x9:=X0.out.other q2 (Nat.ne_of_gt hgw);have HU:=Aa (fun w9 ho9=>hup w9 w i HH.out (AB.of_below HH.out HB.out) (by omega) (As.refl D i) ho9);clear hc q2 hup
 go_wp2_with (with_reducible refine Ac rfl 33 _ _ rfl w.heap.size #[.int .i64 kd,.slice Al nl cl,.slice Ar nr cr,.int .i64 op,.string p,.string q,.slice A n c] rfl rfl _ x9 (by kernel_rfl) rfl (by simp[Value.oneCell']) ?_;intro w9 k9 ho9);refine Aw rfl rfl rfl k9 rfl ?_;exact HU.out _ ho9
theorem VK (D:CD) (g:Nat) (m:Nat):∀(i lv:Nat),lv<=60 ->
  (3*(rd D.ts i).length<=m->∀W,Cf D g W i->AQ W->Calls Tryz.prog 140 #[.pointer (some ⟨g,0,none⟩),.int .i64 (lv:Int)] W (AJ D g (Am D.kn .one lv (rd D.ts i)) i W)) /\
  (3*(rd D.ts i).length+1<=m->∀W,Cf D g W i->AQ W->Calls Tryz.prog 105 #[.pointer (some ⟨g,0,none⟩),.int .i64 (lv:Int)] W (AJ D g (Am D.kn .both lv (rd D.ts i)) i W)) /\
  (3*(rd D.ts i).length+2<=m->∀W,Cf D g W i->AQ W->Calls Tryz.prog 62 #[.pointer (some ⟨g,0,none⟩),.int .i64 (lv:Int)] W (AJ D g (Am D.kn .cond lv (rd D.ts i)) i W)):=by
 induction m with
 |zero=>intro i lv _;have:=Td D.ts i;exact ⟨fun h=>by omega,fun h=>by omega,fun h=>by omega⟩
 |succ m ih=>
  intro i lv hlv;refine ⟨fun hl W hc ht=>?_,fun hl W hc ht=>?_,fun hl W hc ht=>?_⟩
  · refine VJ D g i lv W hc ht hlv (fun W2 h1 c2 t2 hl2=>?_) (fun W2 h1 c2 t2 hl2=>?_)
    · have e:(lv:Int)-1=((lv-1:Nat):Int):=(by omega);rw[e];exact (ih (i+1) (lv-1) (by omega)).1 (by omega) W2 c2 t2
    · have e:(lv:Int)-1=((lv-1:Nat):Int):=(by omega);rw[e];exact (ih (i+1) (lv-1) (by omega)).2.2 (by omega) W2 c2 t2
  · exact Uy D g i lv W hc ht hlv (fun W2 j c2 t2 hl2=>(ih j lv hlv).1 (by omega) W2 c2 t2)
  · exact Uz D g i lv W hc ht hlv (fun W2 j c2 t2 hl2=>(ih j lv hlv).2.1 (by omega) W2 c2 t2)
theorem U0 (D:CD) (g i:Nat) (w:World) (h:Cf D g w i) (htab:AQ w) :
  Calls Tryz.prog 34 #[.pointer (some ⟨g,0,none⟩)] w (AJ D g (Am D.kn .cond 60 (rd D.ts i)) i w):=by
 have HH:=Aa h;have HB:=Aa (Ae w (.cells #[.int .i64 0,.slice none 0 0,.slice none 0 0,.int .i64 0,.string ⟨#[]⟩,.string ⟨#[]⟩,.slice none 0 0] 33));have hsz:(w.alloc (.cells #[.int .i64 0,.slice none 0 0,.slice none 0 0,.int .i64 0,.string ⟨#[]⟩,.string ⟨#[]⟩,.slice none 0 0] 33)).heap.size=w.heap.size+1:=World.size_alloc _ _;have X0:=Aa (Ap.new 33 w #[.int .i64 0,.slice none 0 0,.slice none 0 0,.int .i64 0,.string ⟨#[]⟩,.string ⟨#[]⟩,.slice none 0 0])
 have HTB:=Aa (htab.below HB.out);have hgw:=h.lt;have HC0:=Aa (h.below HB.out);have hc:=((VK D g _ i 60 (Nat.le_refl _)).2.2 (Nat.le_refl _) _ HC0.out HTB.out).mono (fun _ _ hh=>AJ.up hh);clear h htab;go_enter Tryz.func34,Tryz.ntmps34;go_wp2_with fail;generalize hW0:w.alloc (.cells #[.int .i64 0,.slice none 0 0,.slice none 0 0,.int .i64 0,.string ⟨#[]⟩,.string ⟨#[]⟩,.slice none 0 0] 33)=W0 at *;clear hW0;refine hc.mono ?_
 rintro e w2 ⟨code,kd,Al,nl,cl,Ar,nr,cr,op,p,q,A,n,c,rfl,q2,hup⟩;have x9:=X0.out.other q2 (Nat.ne_of_gt hgw);have HU:=Aa (fun w9 ho9=>hup w9 w i HH.out (AB.of_below HH.out HB.out) (by omega) (As.refl D i) ho9);clear hc q2 hup;go_wp2_with (with_reducible refine Ac rfl 33 _ _ rfl w.heap.size #[.int .i64 kd,.slice Al nl cl,.slice Ar nr cr,.int .i64 op,.string p,.string q,.slice A n c] rfl rfl _ x9 (by kernel_rfl) rfl (by simp[Value.oneCell']) ?_;intro w9 k9 ho9)
 refine Aw rfl rfl rfl k9 rfl ?_;exact HU.out _ ho9
end
section
open Go.RowKit
open Lx
end
section
open Go.RowKit
open Lx
end
section
open Go.RowKit
open Lx Ex
structure Yq (D:CD):Prop where
 ends:JP D.ts
 nc:D.n<=D.c
 cm:D.c<=9223372036854775807
 md:D.m<=D.d
 dm:D.d<=9223372036854775807
 few:D.n<=1000000
 small:∀t∈D.ts,t.text.size<=4611686018427387904
 kinds:∀t∈D.ts,t.kind<10
 wf:∀t∈D.ts,t.kind=3->Da t.text=true
structure Tp (D:CD) (w:World) (i:Nat):Prop where
 kin:Rb w D.A D.n D.ts
 sin:Hb w D.V D.m D.vars
 good:Yq D
 fits:i+(rd D.ts i).length<=1099511627776
end
section
open Go.RowKit
open Lx Ex
def Zk (D:CD) (i:Nat) (w:World) (e:Ending) (w':World):Prop:=e=.returned (.agg #[.slice D.A D.n D.c,.int .i64 ((i:Int)+1),.slice D.V D.m D.d,.bool D.known])/\Below w.heap.size w w'
end
section
open Go.RowKit
open Lx Ex
def Cz (k:Nat) (e:Nat):Nat:=if e=0 then (if k=5 then 0 else 101) else e
def El (k e l:Nat):Nat:=if Cz k e=0 then 0 else l
def YK (t:TK) (e0:Nat) (w:World) (e:Ending) (w':World):Prop:=
 e=.returned (.tuple #[.agg #[.int .i64 (El t.kind e0 t.line:Nat),.int .i64 (El t.kind e0 t.col:Nat)],.int .i64 (Cz t.kind e0:Nat)])/\Below w.heap.size w w'
end
section
open Go.RowKit
open Lx Ex
theorem U1:(Tryz.prog.info? 9).map (fun i=>(i.zero,i.size,i.bytes))=some (some (.string ⟨#[]⟩),1,16):=by kernel_rfl
theorem Nb:CO (Value.string ⟨#[]⟩).cells.toList:=by show CO [.string ⟨#[]⟩];intro u hu z e;simp at hu;subst hu;cases e
def Li (xs:List ByteArray):List Value:=xs.map (.string ·)
theorem U2 (xs:List ByteArray):CO (Li xs):=by intro u hu z e;obtain ⟨s,_,rfl⟩:=List.mem_map.1 hu;cases e
theorem U3 (xs:List ByteArray):∀u∈Li xs,u.oneCell'=true:=by intro u hu;obtain ⟨s,_,rfl⟩:=List.mem_map.1 hu;rfl
theorem O0 {xs:List ByteArray} {j:Nat} {s:ByteArray} (h:xs[j]?=some s):(Li xs)[j]?=some (.string s):=by unfold Li;rw[List.getElem?_map,h];rfl
def F6 (n:Nat) (xs:List ByteArray) (w:World) (e:Ending) (w':World):Prop:=
 ∃B d,e=.returned (.slice B n d)/\Hb w' B n xs/\n<=d/\d<=9223372036854775807/\Below w.heap.size w w'/\(0<n->∀a,B=some a->w.heap.size<=a.block)
theorem Mc (A:Option Addr) (n c:Nat) (xs:List ByteArray) (w:World) (h:Hb w A n xs) (hA:A=none->n=0/\c=0) (hn:n<=1000000):Calls Tryz.prog 51 #[.slice A n c] w (F6 n xs w):=by
 have hl:=h.1;cases A with
 |none=>
  obtain ⟨rfl,rfl⟩:=hA rfl;have HP:=Aa (show F6 0 xs w (.returned (.slice none 0 0)) w from ⟨none,0,rfl,⟨hl,fun hh=>absurd hh (by omega)⟩,by omega,by omega,Below.refl _ _,fun h0=>absurd h0 (by omega)⟩);clear h hA hl;have hcmp:=fun W=>Lib.run_eql_slice_nil (P:=Tryz.prog) W 47 9 none 0 0 0 0 Tryz.underlying47
  go_enter Tryz.func51,Tryz.ntmps51;go_wp2_with fail;go_ret
  exact HP.out
 |some ad=>
  obtain ⟨i0,hi0,hz0,hz1,hz2⟩:=info_parts U1;have hb:=Ae w (.cells #[] 9);have hrow:=An.lit (T:=9) (sz:=1) (w:=w) (base:=w.heap.size) #[] 0 (Nat.le_refl _) (by decide) rfl (fun u hu=>by cases hu);have HROW:=Aa hrow;have hnews:∀j u,(Li xs)[j]?=some u->(w.alloc (.cells #[] 9)).cell? (ad.add j)=some u:=by
   intro j u hu;have hj:j<xs.length:=by
     rcases Nat.lt_or_ge j xs.length with q|q
     · exact q
     · rw[List.getElem?_eq_none (by simpa[Li] using q)]at hu;cases hu
   obtain ⟨b,o,e,hlt,hc⟩:=(h.below hb).2 (by omega);injection e with e;subst e
   rw[addr_add];have h2:=O0 (List.getElem?_eq_getElem hj);rw[hu]at h2;injection h2 with h2;subst h2
   exact hc j _ (List.getElem?_eq_getElem hj)
  have HNW:=Aa hnews;have HP:=Aa (show ∀v' w',An 9 1 w' w.heap.size v' (0+n) ([]++Li xs)->Below w.heap.size w w'->F6 n xs w (.returned v') w' from by
   intro v' w' hv hw;rw[Nat.zero_add,List.nil_append]at hv;obtain ⟨B,d,rfl,h1,h2,-⟩:=hv.len;refine ⟨B,d,rfl,⟨hl,fun hn0=>?_⟩,h1,h2,hw,fun hn0 a ha=>?_⟩
   · obtain ⟨g,rfl,hb,hlt,hc⟩:=hv.cell hn0;exact ⟨g,0,rfl,hlt,fun j s hs=>by rw[Nat.zero_add];exact (hc j _ (O0 hs)).1⟩
   · obtain ⟨g,rfl,hb,hlt,hc⟩:=hv.cell hn0;injection ha with ha;subst ha;exact hb)
  have HB:=Aa hb;have hlen:(Li xs).length=n*1:=by simp[Li,hl]
  have HLN:=Aa hlen;clear h hA hrow hnews hlen hl;have hcmp:=fun W=>Lib.run_eql_slice_nil (P:=Tryz.prog) W 47 9 (some ad) n c 0 0 Tryz.underlying47
  go_enter Tryz.func51,Tryz.ntmps51;go_wp2_with (at_builtin;refine Bf rfl _ _ 47 rfl w.heap.size 9 i0 _ 1 16 Tryz.underlying47 hi0 hz0 hz1 hz2 rfl (by decide) Nb _ 0 [] rfl HROW.out ad n c (Li xs) rfl HLN.out HNW.out (U3 _) (U2 _) (by unfold maxLen;omega) (by omega) (by rw[World.size_alloc];omega) ?_;intro v' w' h1 h2;have HQ:=Aa (HP.out v' w' h1 (HB.out.trans (An.back HROW.out h2 (Nat.le_refl _) HB.out.size))));go_ret
  exact HQ.out
end
end Go.Proofs.YtgohmojcopajoaaGreatDoor
