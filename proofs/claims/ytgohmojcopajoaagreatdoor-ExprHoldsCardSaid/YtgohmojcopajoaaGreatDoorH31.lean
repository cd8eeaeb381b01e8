/- Texts of one seat, put together: ExprC13 LexJ LexK ExprR1 ExprR2 ExprE1 ExprE2. -/
import Derived.Test.YtgohmojcopajoaaGreatDoorH30
import Derived.Test.YtgohmojcopajoaaGreatDoorH04
import Derived.Test.YtgohmojcopajoaaGreatDoorH07
import Derived.Test.YtgohmojcopajoaaGreatDoorH24
set_option linter.unusedVariables false
set_option linter.unusedSimpArgs false
set_option maxRecDepth 100000
set_option maxHeartbeats 16000000
namespace Go.Proofs.YtgohmojcopajoaaGreatDoor
section
open Go.RowKit
open Lx Ex
theorem V4 (D:CD) (g i lv:Nat) (w:World) (h:Cg D g w i) (htab:Bc w) (hlv:lv<=60)
   (hone:∀W,1<=lv->Cg D g W (i+1)->Bc W->(rd D.ts (i+1)).length<(rd D.ts i).length->Calls Tryz.prog 140 #[.pointer (some ⟨g,0,none⟩),.int .i64 ((lv:Int)-1)] W (AG D g (As D.kn .one (lv-1) (rd D.ts (i+1))) (i+1) W))
   (hcond:∀W,1<=lv->Cg D g W (i+1)->Bc W->(rd D.ts (i+1)).length<(rd D.ts i).length->Calls Tryz.prog 62 #[.pointer (some ⟨g,0,none⟩),.int .i64 ((lv:Int)-1)] W (AG D g (As D.kn .cond (lv-1) (rd D.ts (i+1))) (i+1) W)) :
   Calls Tryz.prog 140 #[.pointer (some ⟨g,0,none⟩),.int .i64 (lv:Int)] w (AG D g (As D.kn .one lv (rd D.ts i)) i w):=by
 have HH:=Aa h;have HB:=Aa (Ae w (.cells #[.int .i64 0,.slice none 0 0,.slice none 0 0,.int .i64 0,.string ⟨#[]⟩,.string ⟨#[]⟩,.slice none 0 0] 33));have hsz:(w.alloc (.cells #[.int .i64 0,.slice none 0 0,.slice none 0 0,.int .i64 0,.string ⟨#[]⟩,.string ⟨#[]⟩,.slice none 0 0] 33)).heap.size=w.heap.size+1:=World.size_alloc _ _;have X0:=Aa (Am.new 33 w #[.int .i64 0,.slice none 0 0,.slice none 0 0,.int .i64 0,.string ⟨#[]⟩,.string ⟨#[]⟩,.slice none 0 0])
 have HTB:=Aa (htab.below HB.out);have hgw:=h.lt;have HC0:=Aa (h.below HB.out);have HP1:=Aa (ES D.kn lv (rd D.ts i));have HT:=Aa (fun (s:ByteArray) W (c:Cg D g W i)=>Dl D g i s W c);have HS:=Aa (fun (s:ByteArray) W (c:Cg D g W i)=>MJ D g i s W c);unfold Ct at HT;unfold KX at HS;have HTAB:=Aa htab;have HONE:=Aa hone;have HCOND:=Aa hcond;have hg2:=htab.ne h;obtain ⟨O,hO⟩:∃O,O=As D.kn .one lv (rd D.ts i):=⟨_,rfl⟩;rw[<-hO]at HP1 ⊢;clear h htab hone hcond hO;by_cases hl:lv=0
 · cases hb:AV ⟨#[33]⟩ (rd D.ts i) with
   |true=>
    have HO:=Aa (HP1.out.trans (if_pos (by subst hl;exact ⟨rfl,Or.inl hb⟩)));subst hl;clear HP1;go_enter Tryz.func140,Tryz.ntmps140;go_wp2_with fail;generalize hW0:w.alloc (.cells #[.int .i64 0,.slice none 0 0,.slice none 0 0,.int .i64 0,.string ⟨#[]⟩,.string ⟨#[]⟩,.slice none 0 0] 33)=W0 at *;clear hW0;have Q0:=Aa (AB.of_below HH.out HB.out);have XX0:=Aa X0.out;have hq:=HS.out ⟨#[33]⟩ _ Q0.out.2;rw[hb]at hq;refine hq.mono ?_;rintro e w1 ⟨rfl,bq⟩
    have Q1:=Aa (Q0.out.below bq);have XX1:=Aa (XX0.out.next bq);have hs1:=bq.size;clear bq hq;have x9:=XX1.out;go_wp2_with (with_reducible refine Ab rfl 33 _ _ rfl w.heap.size #[.int .i64 0,.slice none 0 0,.slice none 0 0,.int .i64 0,.string ⟨#[]⟩,.string ⟨#[]⟩,.slice none 0 0] rfl rfl _ x9 (by kernel_rfl) rfl (by simp[Value.oneCell']) ?_;intro w9 k9 ho9);refine Ay rfl rfl rfl k9 rfl ?_
    exact AG.err (c:=102) HO.out (by decide) (Aq.refl D i) (AB.fresh HH.out Q1.out ho9 (Nat.le_refl _))
   |false=>
    cases hp:AV ⟨#[40]⟩ (rd D.ts i) with
    |true=>
     have HO:=Aa (HP1.out.trans (if_pos (by subst hl;exact ⟨rfl,Or.inr hp⟩)));subst hl;clear HP1;go_enter Tryz.func140,Tryz.ntmps140;go_wp2_with fail;generalize hW0:w.alloc (.cells #[.int .i64 0,.slice none 0 0,.slice none 0 0,.int .i64 0,.string ⟨#[]⟩,.string ⟨#[]⟩,.slice none 0 0] 33)=W0 at *;clear hW0;have Q0:=Aa (AB.of_below HH.out HB.out);have XX0:=Aa X0.out;have hq:=HS.out ⟨#[33]⟩ _ Q0.out.2;rw[hb]at hq;refine hq.mono ?_;rintro e w1 ⟨rfl,bq⟩
     have Q1:=Aa (Q0.out.below bq);have XX1:=Aa (XX0.out.next bq);have hs1:=bq.size;clear bq hq;go_wp2_with fail;have hq:=HS.out ⟨#[40]⟩ _ Q1.out.2;rw[hp]at hq;refine hq.mono ?_;rintro e w2 ⟨rfl,bq⟩;have Q2:=Aa (Q1.out.below bq);have XX2:=Aa (XX1.out.next bq);have hs2:=bq.size;clear bq hq;have x9:=XX2.out
     go_wp2_with (with_reducible refine Ab rfl 33 _ _ rfl w.heap.size #[.int .i64 0,.slice none 0 0,.slice none 0 0,.int .i64 0,.string ⟨#[]⟩,.string ⟨#[]⟩,.slice none 0 0] rfl rfl _ x9 (by kernel_rfl) rfl (by simp[Value.oneCell']) ?_;intro w9 k9 ho9);refine Ay rfl rfl rfl k9 rfl ?_;exact AG.err (c:=102) HO.out (by decide) (Aq.refl D i) (AB.fresh HH.out Q2.out ho9 (Nat.le_refl _))
    |false=>
     cases ht:AV ⟨#[116,114,117,101]⟩ (rd D.ts i) with
     |true=>
      have hno:¬(lv=0/\(AV ⟨#[33]⟩ (rd D.ts i)=true\/AV ⟨#[40]⟩ (rd D.ts i)=true)):=fun hh=>by rw[hb,hp]at hh;simp at hh
      have HO:=Aa (HP1.out.trans ((if_neg hno).trans ((if_neg (by rw[hb];decide)).trans ((if_neg (by rw[hp];decide)).trans (if_pos ht)))));clear hno;have hst:=BZ HH.out.good.ends ht;rw[<-hst.1]at HO;have hl1:=hst.2.1;have HST:=Aa (show Aq D i (rd D.ts (i+1)) (i+1) from ⟨rfl,by omega⟩);clear hst;subst hl;clear HP1;go_enter Tryz.func140,Tryz.ntmps140;go_wp2_with fail
      generalize hW0:w.alloc (.cells #[.int .i64 0,.slice none 0 0,.slice none 0 0,.int .i64 0,.string ⟨#[]⟩,.string ⟨#[]⟩,.slice none 0 0] 33)=W0 at *;clear hW0;have Q0:=Aa (AB.of_below HH.out HB.out);have XX0:=Aa X0.out;have hq:=HS.out ⟨#[33]⟩ _ Q0.out.2;rw[hb]at hq;refine hq.mono ?_;rintro e w1 ⟨rfl,bq⟩;have Q1:=Aa (Q0.out.below bq);have XX1:=Aa (XX0.out.next bq);have hs1:=bq.size;clear bq hq;go_wp2_with fail;have hq:=HS.out ⟨#[40]⟩ _ Q1.out.2;rw[hp]at hq
      refine hq.mono ?_;rintro e w2 ⟨rfl,bq⟩;have Q2:=Aa (Q1.out.below bq);have XX2:=Aa (XX1.out.next bq);have hs2:=bq.size;clear bq hq;go_wp2_with fail;have hq:=HT.out ⟨#[33]⟩ _ Q2.out.2;rw[hb]at hq;simp only[Bool.false_eq_true,if_false]at hq;refine hq.mono ?_;rintro e w3 ⟨rfl,bq⟩;have Q3:=Aa (Q2.out.trans bq);have XX3:=Aa (XX2.out.other bq.1 (Nat.ne_of_gt hgw));have hs3:=bq.1.size;clear bq hq;go_wp2_with fail;have hq:=HT.out ⟨#[40]⟩ _ Q3.out.2;rw[hp]at hq
      simp only[Bool.false_eq_true,if_false]at hq;refine hq.mono ?_;rintro e w4 ⟨rfl,bq⟩;have Q4:=Aa (Q3.out.trans bq);have XX4:=Aa (XX3.out.other bq.1 (Nat.ne_of_gt hgw));have hs4:=bq.1.size;clear bq hq;go_wp2_with fail;have hq:=HT.out ⟨#[116,114,117,101]⟩ _ Q4.out.2;rw[ht]at hq;simp only[if_true]at hq;refine hq.mono ?_;rintro e w5 ⟨rfl,bq⟩;have Q5:=Aa (Q4.out.trans bq);have XX5:=Aa (XX4.out.other bq.1 (Nat.ne_of_gt hgw));have hs5:=bq.1.size;clear bq hq;have x9:=XX5.out
      go_wp2_with (with_reducible refine Ab rfl 33 _ _ rfl w.heap.size #[.int .i64 0,.slice none 0 0,.slice none 0 0,.int .i64 0,.string ⟨#[]⟩,.string ⟨#[]⟩,.slice none 0 0] rfl rfl _ x9 (by kernel_rfl) rfl (by simp[Value.oneCell']) ?_;intro w9 k9 ho9);refine Ay rfl rfl rfl k9 rfl ?_
      exact AG.ok (vs:=#[.int .i64 0,.slice none 0 0,.slice none 0 0,.int .i64 0,.string ⟨#[]⟩,.string ⟨#[]⟩,.slice none 0 0]) HO.out (AW.leaf _ _ 0) HST.out (AB.fresh HH.out Q5.out ho9 (Nat.le_refl _))
     |false=>
      cases hf:AV ⟨#[102,97,108,115,101]⟩ (rd D.ts i) with
      |true=>
       have hno:¬(lv=0/\(AV ⟨#[33]⟩ (rd D.ts i)=true\/AV ⟨#[40]⟩ (rd D.ts i)=true)):=fun hh=>by rw[hb,hp]at hh;simp at hh
       have HO:=Aa (HP1.out.trans ((if_neg hno).trans ((if_neg (by rw[hb];decide)).trans ((if_neg (by rw[hp];decide)).trans ((if_neg (by rw[ht];decide)).trans (if_pos hf))))));clear hno;have hst:=BZ HH.out.good.ends hf;rw[<-hst.1]at HO;have hl1:=hst.2.1;have HST:=Aa (show Aq D i (rd D.ts (i+1)) (i+1) from ⟨rfl,by omega⟩);clear hst;subst hl;clear HP1;go_enter Tryz.func140,Tryz.ntmps140;go_wp2_with fail
       generalize hW0:w.alloc (.cells #[.int .i64 0,.slice none 0 0,.slice none 0 0,.int .i64 0,.string ⟨#[]⟩,.string ⟨#[]⟩,.slice none 0 0] 33)=W0 at *;clear hW0;have Q0:=Aa (AB.of_below HH.out HB.out);have XX0:=Aa X0.out;have hq:=HS.out ⟨#[33]⟩ _ Q0.out.2;rw[hb]at hq;refine hq.mono ?_;rintro e w1 ⟨rfl,bq⟩;have Q1:=Aa (Q0.out.below bq);have XX1:=Aa (XX0.out.next bq);have hs1:=bq.size;clear bq hq;go_wp2_with fail;have hq:=HS.out ⟨#[40]⟩ _ Q1.out.2;rw[hp]at hq
       refine hq.mono ?_;rintro e w2 ⟨rfl,bq⟩;have Q2:=Aa (Q1.out.below bq);have XX2:=Aa (XX1.out.next bq);have hs2:=bq.size;clear bq hq;go_wp2_with fail;have hq:=HT.out ⟨#[33]⟩ _ Q2.out.2;rw[hb]at hq;simp only[Bool.false_eq_true,if_false]at hq;refine hq.mono ?_;rintro e w3 ⟨rfl,bq⟩;have Q3:=Aa (Q2.out.trans bq);have XX3:=Aa (XX2.out.other bq.1 (Nat.ne_of_gt hgw));have hs3:=bq.1.size;clear bq hq;go_wp2_with fail;have hq:=HT.out ⟨#[40]⟩ _ Q3.out.2;rw[hp]at hq
       simp only[Bool.false_eq_true,if_false]at hq;refine hq.mono ?_;rintro e w4 ⟨rfl,bq⟩;have Q4:=Aa (Q3.out.trans bq);have XX4:=Aa (XX3.out.other bq.1 (Nat.ne_of_gt hgw));have hs4:=bq.1.size;clear bq hq;go_wp2_with fail;have hq:=HT.out ⟨#[116,114,117,101]⟩ _ Q4.out.2;rw[ht]at hq;simp only[Bool.false_eq_true,if_false]at hq;refine hq.mono ?_;rintro e w5 ⟨rfl,bq⟩;have Q5:=Aa (Q4.out.trans bq);have XX5:=Aa (XX4.out.other bq.1 (Nat.ne_of_gt hgw));have hs5:=bq.1.size
       clear bq hq;go_wp2_with fail;have hq:=HT.out ⟨#[102,97,108,115,101]⟩ _ Q5.out.2;rw[hf]at hq;simp only[if_true]at hq;refine hq.mono ?_;rintro e w6 ⟨rfl,bq⟩;have Q6:=Aa (Q5.out.trans bq);have XX6:=Aa (XX5.out.other bq.1 (Nat.ne_of_gt hgw));have hs6:=bq.1.size;clear bq hq;have x9:=XX6.out
       go_wp2_with (with_reducible refine Ab rfl 33 _ _ rfl w.heap.size #[.int .i64 1,.slice none 0 0,.slice none 0 0,.int .i64 0,.string ⟨#[]⟩,.string ⟨#[]⟩,.slice none 0 0] rfl rfl _ x9 (by kernel_rfl) rfl (by simp[Value.oneCell']) ?_;intro w9 k9 ho9);refine Ay rfl rfl rfl k9 rfl ?_
       exact AG.ok (vs:=#[.int .i64 1,.slice none 0 0,.slice none 0 0,.int .i64 0,.string ⟨#[]⟩,.string ⟨#[]⟩,.slice none 0 0]) HO.out (AW.leaf _ _ 1) HST.out (AB.fresh HH.out Q6.out ho9 (Nat.le_refl _))
      |false=>
       have hno:¬(lv=0/\(AV ⟨#[33]⟩ (rd D.ts i)=true\/AV ⟨#[40]⟩ (rd D.ts i)=true)):=fun hh=>by rw[hb,hp]at hh;simp at hh
       have HO:=Aa (HP1.out.trans ((if_neg hno).trans ((if_neg (by rw[hb];decide)).trans ((if_neg (by rw[hp];decide)).trans ((if_neg (by rw[ht];decide)).trans (if_neg (by rw[hf];decide)))))));clear hno;subst hl;clear HP1;go_enter Tryz.func140,Tryz.ntmps140;go_wp2_with fail;generalize hW0:w.alloc (.cells #[.int .i64 0,.slice none 0 0,.slice none 0 0,.int .i64 0,.string ⟨#[]⟩,.string ⟨#[]⟩,.slice none 0 0] 33)=W0 at *;clear hW0;have Q0:=Aa (AB.of_below HH.out HB.out)
       have XX0:=Aa X0.out;have hq:=HS.out ⟨#[33]⟩ _ Q0.out.2;rw[hb]at hq;refine hq.mono ?_;rintro e w1 ⟨rfl,bq⟩;have Q1:=Aa (Q0.out.below bq);have XX1:=Aa (XX0.out.next bq);have hs1:=bq.size;clear bq hq;go_wp2_with fail;have hq:=HS.out ⟨#[40]⟩ _ Q1.out.2;rw[hp]at hq;refine hq.mono ?_;rintro e w2 ⟨rfl,bq⟩;have Q2:=Aa (Q1.out.below bq);have XX2:=Aa (XX1.out.next bq);have hs2:=bq.size;clear bq hq;go_wp2_with fail;have hq:=HT.out ⟨#[33]⟩ _ Q2.out.2;rw[hb]at hq
       simp only[Bool.false_eq_true,if_false]at hq;refine hq.mono ?_;rintro e w3 ⟨rfl,bq⟩;have Q3:=Aa (Q2.out.trans bq);have XX3:=Aa (XX2.out.other bq.1 (Nat.ne_of_gt hgw));have hs3:=bq.1.size;clear bq hq;go_wp2_with fail;have hq:=HT.out ⟨#[40]⟩ _ Q3.out.2;rw[hp]at hq;simp only[Bool.false_eq_true,if_false]at hq;refine hq.mono ?_;rintro e w4 ⟨rfl,bq⟩;have Q4:=Aa (Q3.out.trans bq);have XX4:=Aa (XX3.out.other bq.1 (Nat.ne_of_gt hgw));have hs4:=bq.1.size;clear bq hq
       go_wp2_with fail;have hq:=HT.out ⟨#[116,114,117,101]⟩ _ Q4.out.2;rw[ht]at hq;simp only[Bool.false_eq_true,if_false]at hq;refine hq.mono ?_;rintro e w5 ⟨rfl,bq⟩;have Q5:=Aa (Q4.out.trans bq);have XX5:=Aa (XX4.out.other bq.1 (Nat.ne_of_gt hgw));have hs5:=bq.1.size;clear bq hq;go_wp2_with fail;have hq:=HT.out ⟨#[102,97,108,115,101]⟩ _ Q5.out.2;rw[hf]at hq;simp only[Bool.false_eq_true,if_false]at hq;refine hq.mono ?_;rintro e w6 ⟨rfl,bq⟩;have Q6:=Aa (Q5.out.trans bq)
       have XX6:=Aa (XX5.out.other bq.1 (Nat.ne_of_gt hgw));have hs6:=bq.1.size;clear bq hq;go_wp2_with fail;have hd:=(EC D g i _ Q6.out.2 (HTAB.out.went HH.out Q6.out)).mono (fun _ _ hh=>AG.up hh);refine hd.mono ?_;rintro e wr ⟨code,kd,Al,nl,cl,Ar,nr,cr,op,p,q,A,n,c,rfl,or,hup⟩;have x9:=XX6.out.other or (Nat.ne_of_gt hgw);have HU:=Aa (fun w9 ho9=>hup w9 w i HH.out Q6.out (by omega) (Aq.refl D i) ho9);clear hup or hd
       go_wp2_with (with_reducible refine Ab rfl 33 _ _ rfl w.heap.size #[.int .i64 kd,.slice Al nl cl,.slice Ar nr cr,.int .i64 op,.string p,.string q,.slice A n c] rfl rfl _ x9 (by kernel_rfl) rfl (by simp[Value.oneCell']) ?_;intro w9 k9 ho9);refine Ay rfl rfl rfl k9 rfl ?_;rw[HO.out];exact HU.out _ ho9
 · cases hb:AV ⟨#[33]⟩ (rd D.ts i) with
   |true=>
    have HO:=Aa (HP1.out.trans ((if_neg (fun hh=>hl hh.1)).trans (if_pos hb)));have hst:=BZ HH.out.good.ends hb;rw[<-hst.1]at HO;have hl1:=hst.2.1;have HST:=Aa (show Aq D i (rd D.ts (i+1)) (i+1) from ⟨rfl,by omega⟩);clear hst;have gl:((lv:Int)==0)=false:=(by simp;omega);clear HP1;go_enter Tryz.func140,Tryz.ntmps140;go_wp2_with fail
    generalize hW0:w.alloc (.cells #[.int .i64 0,.slice none 0 0,.slice none 0 0,.int .i64 0,.string ⟨#[]⟩,.string ⟨#[]⟩,.slice none 0 0] 33)=W0 at *;clear hW0;have Q0:=Aa (AB.of_below HH.out HB.out);have XX0:=Aa X0.out;have hq:=HT.out ⟨#[33]⟩ _ Q0.out.2;rw[hb]at hq;simp only[if_true]at hq;refine hq.mono ?_;rintro e w1 ⟨rfl,bq⟩;have Q1:=Aa (Q0.out.trans bq);have XX1:=Aa (XX0.out.other bq.1 (Nat.ne_of_gt hgw));have hs1:=bq.1.size;clear bq hq;go_wp2_with fail
    have hd:=(Ur D g (i+1) ((lv:Int)-1) _ _ Q1.out.2 (HTAB.out.went HH.out Q1.out) (fun W c tt=>HONE.out W (by omega) c tt (by omega))).mono (fun _ _ hh=>AG.up hh);refine hd.mono ?_;rintro e wr ⟨code,kd,Al,nl,cl,Ar,nr,cr,op,p,q,A,n,c,rfl,or,hup⟩;have x9:=XX1.out.other or (Nat.ne_of_gt hgw);have HU:=Aa (fun w9 ho9=>hup w9 w i HH.out Q1.out (by omega) HST.out ho9);clear hup or hd
    go_wp2_with (with_reducible refine Ab rfl 33 _ _ rfl w.heap.size #[.int .i64 kd,.slice Al nl cl,.slice Ar nr cr,.int .i64 op,.string p,.string q,.slice A n c] rfl rfl _ x9 (by kernel_rfl) rfl (by simp[Value.oneCell']) ?_;intro w9 k9 ho9);refine Ay rfl rfl rfl k9 rfl ?_;rw[HO.out];exact HU.out _ ho9
   |false=>
    cases hp:AV ⟨#[40]⟩ (rd D.ts i) with
    |true=>
     have HO:=Aa (HP1.out.trans ((if_neg (fun hh=>hl hh.1)).trans ((if_neg (by rw[hb];decide)).trans (if_pos hp))));have hst:=BZ HH.out.good.ends hp;rw[<-hst.1]at HO;have hl1:=hst.2.1;have HST:=Aa (show Aq D i (rd D.ts (i+1)) (i+1) from ⟨rfl,by omega⟩);clear hst;have gl:((lv:Int)==0)=false:=(by simp;omega);clear HP1;go_enter Tryz.func140,Tryz.ntmps140;go_wp2_with fail
     generalize hW0:w.alloc (.cells #[.int .i64 0,.slice none 0 0,.slice none 0 0,.int .i64 0,.string ⟨#[]⟩,.string ⟨#[]⟩,.slice none 0 0] 33)=W0 at *;clear hW0;have Q0:=Aa (AB.of_below HH.out HB.out);have XX0:=Aa X0.out;have hq:=HT.out ⟨#[33]⟩ _ Q0.out.2;rw[hb]at hq;simp only[Bool.false_eq_true,if_false]at hq;refine hq.mono ?_;rintro e w1 ⟨rfl,bq⟩;have Q1:=Aa (Q0.out.trans bq);have XX1:=Aa (XX0.out.other bq.1 (Nat.ne_of_gt hgw));have hs1:=bq.1.size;clear bq hq
     go_wp2_with fail;have hq:=HT.out ⟨#[40]⟩ _ Q1.out.2;rw[hp]at hq;simp only[if_true]at hq;refine hq.mono ?_;rintro e w2 ⟨rfl,bq⟩;have Q2:=Aa (Q1.out.trans bq);have XX2:=Aa (XX1.out.other bq.1 (Nat.ne_of_gt hgw));have hs2:=bq.1.size;clear bq hq;go_wp2_with fail;have hd:=(Ru D g (i+1) ((lv:Int)-1) _ _ Q2.out.2 (HTAB.out.went HH.out Q2.out) (fun W c tt=>HCOND.out W (by omega) c tt (by omega))).mono (fun _ _ hh=>AG.up hh);refine hd.mono ?_
     rintro e wr ⟨code,kd,Al,nl,cl,Ar,nr,cr,op,p,q,A,n,c,rfl,or,hup⟩;have x9:=XX2.out.other or (Nat.ne_of_gt hgw);have HU:=Aa (fun w9 ho9=>hup w9 w i HH.out Q2.out (by omega) HST.out ho9);clear hup or hd;go_wp2_with (with_reducible refine Ab rfl 33 _ _ rfl w.heap.size #[.int .i64 kd,.slice Al nl cl,.slice Ar nr cr,.int .i64 op,.string p,.string q,.slice A n c] rfl rfl _ x9 (by kernel_rfl) rfl (by simp[Value.oneCell']) ?_;intro w9 k9 ho9);refine Ay rfl rfl rfl k9 rfl ?_
     rw[HO.out];exact HU.out _ ho9
    |false=>
     cases ht:AV ⟨#[116,114,117,101]⟩ (rd D.ts i) with
     |true=>
      have hno:¬(lv=0/\(AV ⟨#[33]⟩ (rd D.ts i)=true\/AV ⟨#[40]⟩ (rd D.ts i)=true)):=fun hh=>by rw[hb,hp]at hh;simp at hh
      have HO:=Aa (HP1.out.trans ((if_neg hno).trans ((if_neg (by rw[hb];decide)).trans ((if_neg (by rw[hp];decide)).trans (if_pos ht)))));clear hno;have hst:=BZ HH.out.good.ends ht;rw[<-hst.1]at HO;have hl1:=hst.2.1;have HST:=Aa (show Aq D i (rd D.ts (i+1)) (i+1) from ⟨rfl,by omega⟩);clear hst;have gl:((lv:Int)==0)=false:=(by simp;omega);clear HP1;go_enter Tryz.func140,Tryz.ntmps140;go_wp2_with fail
      generalize hW0:w.alloc (.cells #[.int .i64 0,.slice none 0 0,.slice none 0 0,.int .i64 0,.string ⟨#[]⟩,.string ⟨#[]⟩,.slice none 0 0] 33)=W0 at *;clear hW0;have Q0:=Aa (AB.of_below HH.out HB.out);have XX0:=Aa X0.out;have hq:=HT.out ⟨#[33]⟩ _ Q0.out.2;rw[hb]at hq;simp only[Bool.false_eq_true,if_false]at hq;refine hq.mono ?_;rintro e w1 ⟨rfl,bq⟩;have Q1:=Aa (Q0.out.trans bq);have XX1:=Aa (XX0.out.other bq.1 (Nat.ne_of_gt hgw));have hs1:=bq.1.size;clear bq hq
      go_wp2_with fail;have hq:=HT.out ⟨#[40]⟩ _ Q1.out.2;rw[hp]at hq;simp only[Bool.false_eq_true,if_false]at hq;refine hq.mono ?_;rintro e w2 ⟨rfl,bq⟩;have Q2:=Aa (Q1.out.trans bq);have XX2:=Aa (XX1.out.other bq.1 (Nat.ne_of_gt hgw));have hs2:=bq.1.size;clear bq hq;go_wp2_with fail;have hq:=HT.out ⟨#[116,114,117,101]⟩ _ Q2.out.2;rw[ht]at hq;simp only[if_true]at hq;refine hq.mono ?_;rintro e w3 ⟨rfl,bq⟩;have Q3:=Aa (Q2.out.trans bq)
      have XX3:=Aa (XX2.out.other bq.1 (Nat.ne_of_gt hgw));have hs3:=bq.1.size;clear bq hq;have x9:=XX3.out;go_wp2_with (with_reducible refine Ab rfl 33 _ _ rfl w.heap.size #[.int .i64 0,.slice none 0 0,.slice none 0 0,.int .i64 0,.string ⟨#[]⟩,.string ⟨#[]⟩,.slice none 0 0] rfl rfl _ x9 (by kernel_rfl) rfl (by simp[Value.oneCell']) ?_;intro w9 k9 ho9);refine Ay rfl rfl rfl k9 rfl ?_
      exact AG.ok (vs:=#[.int .i64 0,.slice none 0 0,.slice none 0 0,.int .i64 0,.string ⟨#[]⟩,.string ⟨#[]⟩,.slice none 0 0]) HO.out (AW.leaf _ _ 0) HST.out (AB.fresh HH.out Q3.out ho9 (Nat.le_refl _))
     |false=>
      cases hf:AV ⟨#[102,97,108,115,101]⟩ (rd D.ts i) with
      |true=>
       have hno:¬(lv=0/\(AV ⟨#[33]⟩ (rd D.ts i)=true\/AV ⟨#[40]⟩ (rd D.ts i)=true)):=fun hh=>by rw[hb,hp]at hh;simp at hh
       have HO:=Aa (HP1.out.trans ((if_neg hno).trans ((if_neg (by rw[hb];decide)).trans ((if_neg (by rw[hp];decide)).trans ((if_neg (by rw[ht];decide)).trans (if_pos hf))))));clear hno;have hst:=BZ HH.out.good.ends hf;rw[<-hst.1]at HO;have hl1:=hst.2.1;have HST:=Aa (show Aq D i (rd D.ts (i+1)) (i+1) from ⟨rfl,by omega⟩);clear hst;have gl:((lv:Int)==0)=false:=(by simp;omega);clear HP1;go_enter Tryz.func140,Tryz.ntmps140;go_wp2_with fail
       generalize hW0:w.alloc (.cells #[.int .i64 0,.slice none 0 0,.slice none 0 0,.int .i64 0,.string ⟨#[]⟩,.string ⟨#[]⟩,.slice none 0 0] 33)=W0 at *;clear hW0;have Q0:=Aa (AB.of_below HH.out HB.out);have XX0:=Aa X0.out;have hq:=HT.out ⟨#[33]⟩ _ Q0.out.2;rw[hb]at hq;simp only[Bool.false_eq_true,if_false]at hq;refine hq.mono ?_;rintro e w1 ⟨rfl,bq⟩;have Q1:=Aa (Q0.out.trans bq);have XX1:=Aa (XX0.out.other bq.1 (Nat.ne_of_gt hgw));have hs1:=bq.1.size;clear bq hq
       go_wp2_with fail;have hq:=HT.out ⟨#[40]⟩ _ Q1.out.2;rw[hp]at hq;simp only[Bool.false_eq_true,if_false]at hq;refine hq.mono ?_;rintro e w2 ⟨rfl,bq⟩;have Q2:=Aa (Q1.out.trans bq);have XX2:=Aa (XX1.out.other bq.1 (Nat.ne_of_gt hgw));have hs2:=bq.1.size;clear bq hq;go_wp2_with fail;have hq:=HT.out ⟨#[116,114,117,101]⟩ _ Q2.out.2;rw[ht]at hq;simp only[Bool.false_eq_true,if_false]at hq;refine hq.mono ?_;rintro e w3 ⟨rfl,bq⟩;have Q3:=Aa (Q2.out.trans bq)
       have XX3:=Aa (XX2.out.other bq.1 (Nat.ne_of_gt hgw));have hs3:=bq.1.size;clear bq hq;go_wp2_with fail;have hq:=HT.out ⟨#[102,97,108,115,101]⟩ _ Q3.out.2;rw[hf]at hq;simp only[if_true]at hq;refine hq.mono ?_;rintro e w4 ⟨rfl,bq⟩;have Q4:=Aa (Q3.out.trans bq);have XX4:=Aa (XX3.out.other bq.1 (Nat.ne_of_gt hgw));have hs4:=bq.1.size;clear bq hq;have x9:=XX4.out
       go_wp2_with (with_reducible refine Ab rfl 33 _ _ rfl w.heap.size #[.int .i64 1,.slice none 0 0,.slice none 0 0,.int .i64 0,.string ⟨#[]⟩,.string ⟨#[]⟩,.slice none 0 0] rfl rfl _ x9 (by kernel_rfl) rfl (by simp[Value.oneCell']) ?_;intro w9 k9 ho9);refine Ay rfl rfl rfl k9 rfl ?_
       exact AG.ok (vs:=#[.int .i64 1,.slice none 0 0,.slice none 0 0,.int .i64 0,.string ⟨#[]⟩,.string ⟨#[]⟩,.slice none 0 0]) HO.out (AW.leaf _ _ 1) HST.out (AB.fresh HH.out Q4.out ho9 (Nat.le_refl _))
      |false=>
       have hno:¬(lv=0/\(AV ⟨#[33]⟩ (rd D.ts i)=true\/AV ⟨#[40]⟩ (rd D.ts i)=true)):=fun hh=>by rw[hb,hp]at hh;simp at hh
       have HO:=Aa (HP1.out.trans ((if_neg hno).trans ((if_neg (by rw[hb];decide)).trans ((if_neg (by rw[hp];decide)).trans ((if_neg (by rw[ht];decide)).trans (if_neg (by rw[hf];decide)))))));clear hno;have gl:((lv:Int)==0)=false:=(by simp;omega);clear HP1;go_enter Tryz.func140,Tryz.ntmps140;go_wp2_with fail;generalize hW0:w.alloc (.cells #[.int .i64 0,.slice none 0 0,.slice none 0 0,.int .i64 0,.string ⟨#[]⟩,.string ⟨#[]⟩,.slice none 0 0] 33)=W0 at *;clear hW0
       have Q0:=Aa (AB.of_below HH.out HB.out);have XX0:=Aa X0.out;have hq:=HT.out ⟨#[33]⟩ _ Q0.out.2;rw[hb]at hq;simp only[Bool.false_eq_true,if_false]at hq;refine hq.mono ?_;rintro e w1 ⟨rfl,bq⟩;have Q1:=Aa (Q0.out.trans bq);have XX1:=Aa (XX0.out.other bq.1 (Nat.ne_of_gt hgw));have hs1:=bq.1.size;clear bq hq;go_wp2_with fail;have hq:=HT.out ⟨#[40]⟩ _ Q1.out.2;rw[hp]at hq;simp only[Bool.false_eq_true,if_false]at hq;refine hq.mono ?_;rintro e w2 ⟨rfl,bq⟩
       have Q2:=Aa (Q1.out.trans bq);have XX2:=Aa (XX1.out.other bq.1 (Nat.ne_of_gt hgw));have hs2:=bq.1.size;clear bq hq;go_wp2_with fail;have hq:=HT.out ⟨#[116,114,117,101]⟩ _ Q2.out.2;rw[ht]at hq;simp only[Bool.false_eq_true,if_false]at hq;refine hq.mono ?_;rintro e w3 ⟨rfl,bq⟩;have Q3:=Aa (Q2.out.trans bq);have XX3:=Aa (XX2.out.other bq.1 (Nat.ne_of_gt hgw));have hs3:=bq.1.size;clear bq hq;go_wp2_with fail;have hq:=HT.out ⟨#[102,97,108,115,101]⟩ _ Q3.out.2
       rw[hf]at hq;simp only[Bool.false_eq_true,if_false]at hq;refine hq.mono ?_;rintro e w4 ⟨rfl,bq⟩;have Q4:=Aa (Q3.out.trans bq);have XX4:=Aa (XX3.out.other bq.1 (Nat.ne_of_gt hgw));have hs4:=bq.1.size;clear bq hq;go_wp2_with fail;have hd:=(EC D g i _ Q4.out.2 (HTAB.out.went HH.out Q4.out)).mono (fun _ _ hh=>AG.up hh);refine hd.mono ?_;rintro e wr ⟨code,kd,Al,nl,cl,Ar,nr,cr,op,p,q,A,n,c,rfl,or,hup⟩;have x9:=XX4.out.other or (Nat.ne_of_gt hgw)
       have HU:=Aa (fun w9 ho9=>hup w9 w i HH.out Q4.out (by omega) (Aq.refl D i) ho9);clear hup or hd;go_wp2_with (with_reducible refine Ab rfl 33 _ _ rfl w.heap.size #[.int .i64 kd,.slice Al nl cl,.slice Ar nr cr,.int .i64 op,.string p,.string q,.slice A n c] rfl rfl _ x9 (by kernel_rfl) rfl (by simp[Value.oneCell']) ?_;intro w9 k9 ho9);refine Ay rfl rfl rfl k9 rfl ?_;rw[HO.out];exact HU.out _ ho9
theorem Us (D:CD) (g i lv:Nat) (w:World) (h:Cg D g w i) (htab:Bc w) (hlv:lv<=60)
  (hpart:∀W j,Cg D g W j->Bc W->(rd D.ts j).length<=(rd D.ts i).length->Calls Tryz.prog 140 #[.pointer (some ⟨g,0,none⟩),.int .i64 (lv:Int)] W (AG D g (As D.kn .one lv (rd D.ts j)) j W)) :
  Calls Tryz.prog 105 #[.pointer (some ⟨g,0,none⟩),.int .i64 (lv:Int)] w (AG D g (As D.kn .both lv (rd D.ts i)) i w):=by
 have HH:=Aa h;have HB:=Aa (Ae w (.cells #[.int .i64 0,.slice none 0 0,.slice none 0 0,.int .i64 0,.string ⟨#[]⟩,.string ⟨#[]⟩,.slice none 0 0] 33));have hsz:(w.alloc (.cells #[.int .i64 0,.slice none 0 0,.slice none 0 0,.int .i64 0,.string ⟨#[]⟩,.string ⟨#[]⟩,.slice none 0 0] 33)).heap.size=w.heap.size+1:=World.size_alloc _ _;have X0:=Aa (Am.new 33 w #[.int .i64 0,.slice none 0 0,.slice none 0 0,.int .i64 0,.string ⟨#[]⟩,.string ⟨#[]⟩,.slice none 0 0])
 have HTB:=Aa (htab.below HB.out);have hgw:=h.lt;have HC0:=Aa (h.below HB.out);have hc:=(Lt D g i lv _ 140 4 ⟨#[38]⟩ .one .bothGo .both HC0.out HTB.out hlv (fun args W=>Fl Tryz.func140 (by kernel_rfl) (by kernel_rfl) args W) hpart (fun t r=>Fq _ _ _ _) (fun t k=>rfl)).mono (fun _ _ hh=>AG.up hh);rw[Fp];clear h htab hpart;go_enter Tryz.func105,Tryz.ntmps105;go_wp2_with fail
 generalize hW0:w.alloc (.cells #[.int .i64 0,.slice none 0 0,.slice none 0 0,.int .i64 0,.string ⟨#[]⟩,.string ⟨#[]⟩,.slice none 0 0] 33)=W0 at *;clear hW0;refine hc.mono ?_;rintro e w2 ⟨code,kd,Al,nl,cl,Ar,nr,cr,op,p,q,A,n,c,rfl,q2,hup⟩;have x9:=X0.out.other q2 (Nat.ne_of_gt hgw);have HU:=Aa (fun w9 ho9=>hup w9 w i HH.out (AB.of_below HH.out HB.out) (by omega) (Aq.refl D i) ho9);clear hc q2 hup
 go_wp2_with (with_reducible refine Ab rfl 33 _ _ rfl w.heap.size #[.int .i64 kd,.slice Al nl cl,.slice Ar nr cr,.int .i64 op,.string p,.string q,.slice A n c] rfl rfl _ x9 (by kernel_rfl) rfl (by simp[Value.oneCell']) ?_;intro w9 k9 ho9);refine Ay rfl rfl rfl k9 rfl ?_;exact HU.out _ ho9
theorem Ut (D:CD) (g i lv:Nat) (w:World) (h:Cg D g w i) (htab:Bc w) (hlv:lv<=60)
  (hpart:∀W j,Cg D g W j->Bc W->(rd D.ts j).length<=(rd D.ts i).length->Calls Tryz.prog 105 #[.pointer (some ⟨g,0,none⟩),.int .i64 (lv:Int)] W (AG D g (As D.kn .both lv (rd D.ts j)) j W)) :
  Calls Tryz.prog 62 #[.pointer (some ⟨g,0,none⟩),.int .i64 (lv:Int)] w (AG D g (As D.kn .cond lv (rd D.ts i)) i w):=by
 have HH:=Aa h;have HB:=Aa (Ae w (.cells #[.int .i64 0,.slice none 0 0,.slice none 0 0,.int .i64 0,.string ⟨#[]⟩,.string ⟨#[]⟩,.slice none 0 0] 33));have hsz:(w.alloc (.cells #[.int .i64 0,.slice none 0 0,.slice none 0 0,.int .i64 0,.string ⟨#[]⟩,.string ⟨#[]⟩,.slice none 0 0] 33)).heap.size=w.heap.size+1:=World.size_alloc _ _;have X0:=Aa (Am.new 33 w #[.int .i64 0,.slice none 0 0,.slice none 0 0,.int .i64 0,.string ⟨#[]⟩,.string ⟨#[]⟩,.slice none 0 0])
 have HTB:=Aa (htab.below HB.out);have hgw:=h.lt;have HC0:=Aa (h.below HB.out);have hc:=(Lt D g i lv _ 105 5 ⟨#[124]⟩ .both .condGo .any HC0.out HTB.out hlv (fun args W=>Fl Tryz.func105 (by kernel_rfl) (by kernel_rfl) args W) hpart (fun t r=>Hj _ _ _ _) (fun t k=>rfl)).mono (fun _ _ hh=>AG.up hh);rw[GG];clear h htab hpart;go_enter Tryz.func62,Tryz.ntmps62;go_wp2_with fail
 generalize hW0:w.alloc (.cells #[.int .i64 0,.slice none 0 0,.slice none 0 0,.int .i64 0,.string ⟨#[]⟩,.string ⟨#[]⟩,.slice none 0 0] 33)=W0 at *;clear hW0;refine hc.mono ?_;rintro e w2 ⟨code,kd,Al,nl,cl,Ar,nr,cr,op,p,q,A,n,c,rfl,q2,hup⟩;have x9:=X0.out.other q2 (Nat.ne_of_gt hgw);have HU:=Aa (fun w9 ho9=>hup w9 w i HH.out (AB.of_below HH.out HB.out) (by omega) (Aq.refl D i) ho9);clear hc q2 hup
 go_wp2_with (with_reducible refine Ab rfl 33 _ _ rfl w.heap.size #[.int .i64 kd,.slice Al nl cl,.slice Ar nr cr,.int .i64 op,.string p,.string q,.slice A n c] rfl rfl _ x9 (by kernel_rfl) rfl (by simp[Value.oneCell']) ?_;intro w9 k9 ho9);refine Ay rfl rfl rfl k9 rfl ?_;exact HU.out _ ho9
theorem V6 (D:CD) (g:Nat) (m:Nat):∀(i lv:Nat),lv<=60 ->
  (3*(rd D.ts i).length<=m->∀W,Cg D g W i->Bc W->Calls Tryz.prog 140 #[.pointer (some ⟨g,0,none⟩),.int .i64 (lv:Int)] W (AG D g (As D.kn .one lv (rd D.ts i)) i W)) /\
  (3*(rd D.ts i).length+1<=m->∀W,Cg D g W i->Bc W->Calls Tryz.prog 105 #[.pointer (some ⟨g,0,none⟩),.int .i64 (lv:Int)] W (AG D g (As D.kn .both lv (rd D.ts i)) i W)) /\
  (3*(rd D.ts i).length+2<=m->∀W,Cg D g W i->Bc W->Calls Tryz.prog 62 #[.pointer (some ⟨g,0,none⟩),.int .i64 (lv:Int)] W (AG D g (As D.kn .cond lv (rd D.ts i)) i W)):=by
 induction m with
 |zero=>intro i lv _;have:=SE D.ts i;exact ⟨fun h=>by omega,fun h=>by omega,fun h=>by omega⟩
 |succ m ih=>
  intro i lv hlv;refine ⟨fun hl W hc ht=>?_,fun hl W hc ht=>?_,fun hl W hc ht=>?_⟩
  · refine V4 D g i lv W hc ht hlv (fun W2 h1 c2 t2 hl2=>?_) (fun W2 h1 c2 t2 hl2=>?_)
    · have e:(lv:Int)-1=((lv-1:Nat):Int):=(by omega);rw[e];exact (ih (i+1) (lv-1) (by omega)).1 (by omega) W2 c2 t2
    · have e:(lv:Int)-1=((lv-1:Nat):Int):=(by omega);rw[e];exact (ih (i+1) (lv-1) (by omega)).2.2 (by omega) W2 c2 t2
  · exact Us D g i lv W hc ht hlv (fun W2 j c2 t2 hl2=>(ih j lv hlv).1 (by omega) W2 c2 t2)
  · exact Ut D g i lv W hc ht hlv (fun W2 j c2 t2 hl2=>(ih j lv hlv).2.1 (by omega) W2 c2 t2)
theorem Uu (D:CD) (g i:Nat) (w:World) (h:Cg D g w i) (htab:Bc w) :
  Calls Tryz.prog 34 #[.pointer (some ⟨g,0,none⟩)] w (AG D g (As D.kn .cond 60 (rd D.ts i)) i w):=by
 have HH:=Aa h;have HB:=Aa (Ae w (.cells #[.int .i64 0,.slice none 0 0,.slice none 0 0,.int .i64 0,.string ⟨#[]⟩,.string ⟨#[]⟩,.slice none 0 0] 33));have hsz:(w.alloc (.cells #[.int .i64 0,.slice none 0 0,.slice none 0 0,.int .i64 0,.string ⟨#[]⟩,.string ⟨#[]⟩,.slice none 0 0] 33)).heap.size=w.heap.size+1:=World.size_alloc _ _;have X0:=Aa (Am.new 33 w #[.int .i64 0,.slice none 0 0,.slice none 0 0,.int .i64 0,.string ⟨#[]⟩,.string ⟨#[]⟩,.slice none 0 0])
 have HTB:=Aa (htab.below HB.out);have hgw:=h.lt;have HC0:=Aa (h.below HB.out);have hc:=((V6 D g _ i 60 (Nat.le_refl _)).2.2 (Nat.le_refl _) _ HC0.out HTB.out).mono (fun _ _ hh=>AG.up hh);clear h htab;go_enter Tryz.func34,Tryz.ntmps34;go_wp2_with fail;generalize hW0:w.alloc (.cells #[.int .i64 0,.slice none 0 0,.slice none 0 0,.int .i64 0,.string ⟨#[]⟩,.string ⟨#[]⟩,.slice none 0 0] 33)=W0 at *;clear hW0;refine hc.mono ?_
 rintro e w2 ⟨code,kd,Al,nl,cl,Ar,nr,cr,op,p,q,A,n,c,rfl,q2,hup⟩;have x9:=X0.out.other q2 (Nat.ne_of_gt hgw);have HU:=Aa (fun w9 ho9=>hup w9 w i HH.out (AB.of_below HH.out HB.out) (by omega) (Aq.refl D i) ho9);clear hc q2 hup;go_wp2_with (with_reducible refine Ab rfl 33 _ _ rfl w.heap.size #[.int .i64 kd,.slice Al nl cl,.slice Ar nr cr,.int .i64 op,.string p,.string q,.slice A n c] rfl rfl _ x9 (by kernel_rfl) rfl (by simp[Value.oneCell']) ?_;intro w9 k9 ho9)
 refine Ay rfl rfl rfl k9 rfl ?_;exact HU.out _ ho9
end
section
open Go.RowKit
open Lx
end
section
open Go.RowKit
open Lx
end
section
open Go.RowKit
open Lx Ex
structure XU (D:CD):Prop where
 ends:Jp D.ts
 nc:D.n<=D.c
 cm:D.c<=9223372036854775807
 md:D.m<=D.d
 dm:D.d<=9223372036854775807
 few:D.n<=1000000
 small:∀t∈D.ts,t.text.size<=4611686018427387904
 kinds:∀t∈D.ts,t.kind<10
 wf:∀t∈D.ts,t.kind=3->Ea t.text=true
structure Tp (D:CD) (w:World) (i:Nat):Prop where
 kin:Q9 w D.A D.n D.ts
 sin:EN w D.V D.m D.vars
 good:XU D
 fits:i+(rd D.ts i).length<=1099511627776
end
section
open Go.RowKit
open Lx Ex
def Zc (D:CD) (i:Nat) (w:World) (e:Ending) (w':World):Prop:=e=.returned (.agg #[.slice D.A D.n D.c,.int .i64 ((i:Int)+1),.slice D.V D.m D.d,.bool D.known])/\Below w.heap.size w w'
theorem Rv (A:Option Addr) (n c:Nat) (xs:List ByteArray) (s:ByteArray) (w:World) (h:EN w A n xs) (hn:n<=9223372036854775807):Calls Tryz.prog 80 #[.slice A n c,.string s] w (fun e w'=>e=.returned (.int .i64 (Ci xs s 0))/\w=w'):=by
 have HS:=Aa h;have H0:=Aa (show Ci xs s 0=Ci (xs.drop 0) s 0 from rfl);generalize Ci xs s 0=r at *;have hl:=h.1;clear h;go_enter Tryz.func80,Tryz.ntmps80;go_wp2_with fail;go_loop [5] (fun i=>∃k:Nat,k<=n/\i=.int .i64 k/\Hid (r=Ci (xs.drop k) s k)) (fun i=>n-(intOf i).toNat)
 case atStart=>exact ⟨0,Nat.zero_le _,rfl,H0⟩
 case round=>
  obtain ⟨k,hk,rfl,HK⟩:=hrel;by_cases hlt:k<n
  · obtain ⟨b,o,x,rfl,hb,hx,hc⟩:=HS.out.at_ hlt;have HX:=Aa (HK.out.trans (KY xs s x k hx));clear hx;by_cases he:x=s
    · subst he;have hr:=HX.out.trans (if_pos rfl);subst hr;clear HK HX H0;go_wp2_with fail;go_ret
      exact ⟨rfl,rfl⟩
    · have h1:=Is he;have HY:=Aa (HX.out.trans (if_neg he));clear HX HK he;go_wp2_with fail;go_round
      case rel=>exact ⟨k+1,by omega,by go_num,HY⟩
      case measure=>simp[intOf];omega
  · have hr:=HK.out.trans (MM xs s k (by omega));subst hr;clear HK H0;go_wp2_with fail;go_ret
    exact ⟨rfl,rfl⟩
end
section
open Go.RowKit
open Lx Ex
def Dv (k:Nat) (e:Nat):Nat:=if e=0 then (if k=5 then 0 else 101) else e
def Fc (k e l:Nat):Nat:=if Dv k e=0 then 0 else l
def Y7 (t:TK) (e0:Nat) (w:World) (e:Ending) (w':World):Prop:=
 e=.returned (.tuple #[.agg #[.int .i64 (Fc t.kind e0 t.line:Nat),.int .i64 (Fc t.kind e0 t.col:Nat)],.int .i64 (Dv t.kind e0:Nat)])/\Below w.heap.size w w'
end
section
open Go.RowKit
open Lx Ex
theorem Uv:(Tryz.prog.info? 9).map (fun i=>(i.zero,i.size,i.bytes))=some (some (.string ⟨#[]⟩),1,16):=by kernel_rfl
theorem Mq:Cw (Value.string ⟨#[]⟩).cells.toList:=by show Cw [.string ⟨#[]⟩];intro u hu z e;simp at hu;subst hu;cases e
def K8 (xs:List ByteArray):List Value:=xs.map (.string ·)
theorem Uw (xs:List ByteArray):Cw (K8 xs):=by intro u hu z e;obtain ⟨s,_,rfl⟩:=List.mem_map.1 hu;cases e
theorem Ux (xs:List ByteArray):∀u∈K8 xs,u.oneCell'=true:=by intro u hu;obtain ⟨s,_,rfl⟩:=List.mem_map.1 hu;rfl
theorem NK {xs:List ByteArray} {j:Nat} {s:ByteArray} (h:xs[j]?=some s):(K8 xs)[j]?=some (.string s):=by unfold K8;rw[List.getElem?_map,h];rfl
def EX (n:Nat) (xs:List ByteArray) (w:World) (e:Ending) (w':World):Prop:=
 ∃B d,e=.returned (.slice B n d)/\EN w' B n xs/\n<=d/\d<=9223372036854775807/\Below w.heap.size w w'/\(0<n->∀a,B=some a->w.heap.size<=a.block)
theorem L1 (A:Option Addr) (n c:Nat) (xs:List ByteArray) (w:World) (h:EN w A n xs) (hA:A=none->n=0/\c=0) (hn:n<=1000000):Calls Tryz.prog 51 #[.slice A n c] w (EX n xs w):=by
 have hl:=h.1;cases A with
 |none=>
  obtain ⟨rfl,rfl⟩:=hA rfl;have HP:=Aa (show EX 0 xs w (.returned (.slice none 0 0)) w from ⟨none,0,rfl,⟨hl,fun hh=>absurd hh (by omega)⟩,by omega,by omega,Below.refl _ _,fun h0=>absurd h0 (by omega)⟩);clear h hA hl;have hcmp:=fun W=>Lib.run_eql_slice_nil (P:=Tryz.prog) W 47 9 none 0 0 0 0 Tryz.underlying47
  go_enter Tryz.func51,Tryz.ntmps51;go_wp2_with fail;go_ret
  exact HP.out
 |some ad=>
  obtain ⟨i0,hi0,hz0,hz1,hz2⟩:=info_parts Uv;have hb:=Ae w (.cells #[] 9);have hrow:=Ak.lit (T:=9) (sz:=1) (w:=w) (base:=w.heap.size) #[] 0 (Nat.le_refl _) (by decide) rfl (fun u hu=>by cases hu);have HROW:=Aa hrow;have hnews:∀j u,(K8 xs)[j]?=some u->(w.alloc (.cells #[] 9)).cell? (ad.add j)=some u:=by
   intro j u hu;have hj:j<xs.length:=by
     rcases Nat.lt_or_ge j xs.length with q|q
     · exact q
     · rw[List.getElem?_eq_none (by simpa[K8] using q)]at hu;cases hu
   obtain ⟨b,o,e,hlt,hc⟩:=(h.below hb).2 (by omega);injection e with e;subst e
   rw[addr_add];have h2:=NK (List.getElem?_eq_getElem hj);rw[hu]at h2;injection h2 with h2;subst h2
   exact hc j _ (List.getElem?_eq_getElem hj)
  have HNW:=Aa hnews;have HP:=Aa (show ∀v' w',Ak 9 1 w' w.heap.size v' (0+n) ([]++K8 xs)->Below w.heap.size w w'->EX n xs w (.returned v') w' from by
   intro v' w' hv hw;rw[Nat.zero_add,List.nil_append]at hv;obtain ⟨B,d,rfl,h1,h2,-⟩:=hv.len;refine ⟨B,d,rfl,⟨hl,fun hn0=>?_⟩,h1,h2,hw,fun hn0 a ha=>?_⟩
   · obtain ⟨g,rfl,hb,hlt,hc⟩:=hv.cell hn0;exact ⟨g,0,rfl,hlt,fun j s hs=>by rw[Nat.zero_add];exact (hc j _ (NK hs)).1⟩
   · obtain ⟨g,rfl,hb,hlt,hc⟩:=hv.cell hn0;injection ha with ha;subst ha;exact hb)
  have HB:=Aa hb;have hlen:(K8 xs).length=n*1:=by simp[K8,hl]
  have HLN:=Aa hlen;clear h hA hrow hnews hlen hl;have hcmp:=fun W=>Lib.run_eql_slice_nil (P:=Tryz.prog) W 47 9 (some ad) n c 0 0 Tryz.underlying47
  go_enter Tryz.func51,Tryz.ntmps51;go_wp2_with (at_builtin;refine Ba rfl _ _ 47 rfl w.heap.size 9 i0 _ 1 16 Tryz.underlying47 hi0 hz0 hz1 hz2 rfl (by decide) Mq _ 0 [] rfl HROW.out ad n c (K8 xs) rfl HLN.out HNW.out (Ux _) (Uw _) (by unfold maxLen;omega) (by omega) (by rw[World.size_alloc];omega) ?_;intro v' w' h1 h2;have HQ:=Aa (HP.out v' w' h1 (HB.out.trans (Ak.back HROW.out h2 (Nat.le_refl _) HB.out.size))));go_ret
  exact HQ.out
end
end Go.Proofs.YtgohmojcopajoaaGreatDoor
