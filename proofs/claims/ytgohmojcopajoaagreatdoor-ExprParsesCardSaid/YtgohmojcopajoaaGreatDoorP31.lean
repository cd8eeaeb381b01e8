/- Texts of one seat, put together: ExprC13 LexJ LexK. -/
import Derived.Test.YtgohmojcopajoaaGreatDoorP30
import Derived.Test.YtgohmojcopajoaaGreatDoorP04
set_option linter.unusedVariables false
set_option linter.unusedSimpArgs false
set_option maxRecDepth 100000
set_option maxHeartbeats 16000000
namespace Go.Proofs.YtgohmojcopajoaaGreatDoor
section
open Go.RowKit
open Lx Ex
theorem Ud (D:CD) (g i lv:Nat) (w:World) (h:Ci D g w i) (htab:Bj w) (hlv:lv<=60)
   (hone:∀W,1<=lv->Ci D g W (i+1)->Bj W->(rd D.ts (i+1)).length<(rd D.ts i).length->Calls Tryz.prog 140 #[.pointer (some ⟨g,0,none⟩),.int .i64 ((lv:Int)-1)] W (AK D g (Ak D.kn .one (lv-1) (rd D.ts (i+1))) (i+1) W))
   (hcond:∀W,1<=lv->Ci D g W (i+1)->Bj W->(rd D.ts (i+1)).length<(rd D.ts i).length->Calls Tryz.prog 62 #[.pointer (some ⟨g,0,none⟩),.int .i64 ((lv:Int)-1)] W (AK D g (Ak D.kn .cond (lv-1) (rd D.ts (i+1))) (i+1) W)) :
   Calls Tryz.prog 140 #[.pointer (some ⟨g,0,none⟩),.int .i64 (lv:Int)] w (AK D g (Ak D.kn .one lv (rd D.ts i)) i w):=by
 have HH:=Aa h;have HB:=Aa (Ae w (.cells #[.int .i64 0,.slice none 0 0,.slice none 0 0,.int .i64 0,.string ⟨#[]⟩,.string ⟨#[]⟩,.slice none 0 0] 33));have hsz:(w.alloc (.cells #[.int .i64 0,.slice none 0 0,.slice none 0 0,.int .i64 0,.string ⟨#[]⟩,.string ⟨#[]⟩,.slice none 0 0] 33)).heap.size=w.heap.size+1:=World.size_alloc _ _;have X0:=Aa (Ao.new 33 w #[.int .i64 0,.slice none 0 0,.slice none 0 0,.int .i64 0,.string ⟨#[]⟩,.string ⟨#[]⟩,.slice none 0 0])
 have HTB:=Aa (htab.below HB.out);have hgw:=h.lt;have HC0:=Aa (h.below HB.out);have HP1:=Aa (Eg D.kn lv (rd D.ts i));have HT:=Aa (fun (s:ByteArray) W (c:Ci D g W i)=>Dt D g i s W c);have HS:=Aa (fun (s:ByteArray) W (c:Ci D g W i)=>Mj D g i s W c);unfold Ct at HT;unfold EM at HS;have HTAB:=Aa htab;have HONE:=Aa hone;have HCOND:=Aa hcond;have hg2:=htab.ne h;obtain ⟨O,hO⟩:∃O,O=Ak D.kn .one lv (rd D.ts i):=⟨_,rfl⟩;rw[<-hO]at HP1 ⊢;clear h htab hone hcond hO;by_cases hl:lv=0
 · cases hb:AD ⟨#[33]⟩ (rd D.ts i) with
   |true=>
    have HO:=Aa (HP1.out.trans (if_pos (by subst hl;exact ⟨rfl,Or.inl hb⟩)));subst hl;clear HP1;go_enter Tryz.func140,Tryz.ntmps140;go_wp2_with fail;generalize hW0:w.alloc (.cells #[.int .i64 0,.slice none 0 0,.slice none 0 0,.int .i64 0,.string ⟨#[]⟩,.string ⟨#[]⟩,.slice none 0 0] 33)=W0 at *;clear hW0;have Q0:=Aa (AB.of_below HH.out HB.out);have XX0:=Aa X0.out;have hq:=HS.out ⟨#[33]⟩ _ Q0.out.2;rw[hb]at hq;refine hq.mono ?_;rintro e w1 ⟨rfl,bq⟩
    have Q1:=Aa (Q0.out.below bq);have XX1:=Aa (XX0.out.next bq);have hs1:=bq.size;clear bq hq;have x9:=XX1.out;go_wp2_with (with_reducible refine Ab rfl 33 _ _ rfl w.heap.size #[.int .i64 0,.slice none 0 0,.slice none 0 0,.int .i64 0,.string ⟨#[]⟩,.string ⟨#[]⟩,.slice none 0 0] rfl rfl _ x9 (by kernel_rfl) rfl (by simp[Value.oneCell']) ?_;intro w9 k9 ho9);refine Ay rfl rfl rfl k9 rfl ?_
    exact AK.err (c:=102) HO.out (by decide) (Aj.refl D i) (AB.fresh HH.out Q1.out ho9 (Nat.le_refl _))
   |false=>
    cases hp:AD ⟨#[40]⟩ (rd D.ts i) with
    |true=>
     have HO:=Aa (HP1.out.trans (if_pos (by subst hl;exact ⟨rfl,Or.inr hp⟩)));subst hl;clear HP1;go_enter Tryz.func140,Tryz.ntmps140;go_wp2_with fail;generalize hW0:w.alloc (.cells #[.int .i64 0,.slice none 0 0,.slice none 0 0,.int .i64 0,.string ⟨#[]⟩,.string ⟨#[]⟩,.slice none 0 0] 33)=W0 at *;clear hW0;have Q0:=Aa (AB.of_below HH.out HB.out);have XX0:=Aa X0.out;have hq:=HS.out ⟨#[33]⟩ _ Q0.out.2;rw[hb]at hq;refine hq.mono ?_;rintro e w1 ⟨rfl,bq⟩
     have Q1:=Aa (Q0.out.below bq);have XX1:=Aa (XX0.out.next bq);have hs1:=bq.size;clear bq hq;go_wp2_with fail;have hq:=HS.out ⟨#[40]⟩ _ Q1.out.2;rw[hp]at hq;refine hq.mono ?_;rintro e w2 ⟨rfl,bq⟩;have Q2:=Aa (Q1.out.below bq);have XX2:=Aa (XX1.out.next bq);have hs2:=bq.size;clear bq hq;have x9:=XX2.out
     go_wp2_with (with_reducible refine Ab rfl 33 _ _ rfl w.heap.size #[.int .i64 0,.slice none 0 0,.slice none 0 0,.int .i64 0,.string ⟨#[]⟩,.string ⟨#[]⟩,.slice none 0 0] rfl rfl _ x9 (by kernel_rfl) rfl (by simp[Value.oneCell']) ?_;intro w9 k9 ho9);refine Ay rfl rfl rfl k9 rfl ?_;exact AK.err (c:=102) HO.out (by decide) (Aj.refl D i) (AB.fresh HH.out Q2.out ho9 (Nat.le_refl _))
    |false=>
     cases ht:AD ⟨#[116,114,117,101]⟩ (rd D.ts i) with
     |true=>
      have hno:¬(lv=0/\(AD ⟨#[33]⟩ (rd D.ts i)=true\/AD ⟨#[40]⟩ (rd D.ts i)=true)):=fun hh=>by rw[hb,hp]at hh;simp at hh
      have HO:=Aa (HP1.out.trans ((if_neg hno).trans ((if_neg (by rw[hb];decide)).trans ((if_neg (by rw[hp];decide)).trans (if_pos ht)))));clear hno;have hst:=AV HH.out.good.ends ht;rw[<-hst.1]at HO;have hl1:=hst.2.1;have HST:=Aa (show Aj D i (rd D.ts (i+1)) (i+1) from ⟨rfl,by omega⟩);clear hst;subst hl;clear HP1;go_enter Tryz.func140,Tryz.ntmps140;go_wp2_with fail
      generalize hW0:w.alloc (.cells #[.int .i64 0,.slice none 0 0,.slice none 0 0,.int .i64 0,.string ⟨#[]⟩,.string ⟨#[]⟩,.slice none 0 0] 33)=W0 at *;clear hW0;have Q0:=Aa (AB.of_below HH.out HB.out);have XX0:=Aa X0.out;have hq:=HS.out ⟨#[33]⟩ _ Q0.out.2;rw[hb]at hq;refine hq.mono ?_;rintro e w1 ⟨rfl,bq⟩;have Q1:=Aa (Q0.out.below bq);have XX1:=Aa (XX0.out.next bq);have hs1:=bq.size;clear bq hq;go_wp2_with fail;have hq:=HS.out ⟨#[40]⟩ _ Q1.out.2;rw[hp]at hq
      refine hq.mono ?_;rintro e w2 ⟨rfl,bq⟩;have Q2:=Aa (Q1.out.below bq);have XX2:=Aa (XX1.out.next bq);have hs2:=bq.size;clear bq hq;go_wp2_with fail;have hq:=HT.out ⟨#[33]⟩ _ Q2.out.2;rw[hb]at hq;simp only[Bool.false_eq_true,if_false]at hq;refine hq.mono ?_;rintro e w3 ⟨rfl,bq⟩;have Q3:=Aa (Q2.out.trans bq);have XX3:=Aa (XX2.out.other bq.1 (Nat.ne_of_gt hgw));have hs3:=bq.1.size;clear bq hq;go_wp2_with fail;have hq:=HT.out ⟨#[40]⟩ _ Q3.out.2;rw[hp]at hq
      simp only[Bool.false_eq_true,if_false]at hq;refine hq.mono ?_;rintro e w4 ⟨rfl,bq⟩;have Q4:=Aa (Q3.out.trans bq);have XX4:=Aa (XX3.out.other bq.1 (Nat.ne_of_gt hgw));have hs4:=bq.1.size;clear bq hq;go_wp2_with fail;have hq:=HT.out ⟨#[116,114,117,101]⟩ _ Q4.out.2;rw[ht]at hq;simp only[if_true]at hq;refine hq.mono ?_;rintro e w5 ⟨rfl,bq⟩;have Q5:=Aa (Q4.out.trans bq);have XX5:=Aa (XX4.out.other bq.1 (Nat.ne_of_gt hgw));have hs5:=bq.1.size;clear bq hq;have x9:=XX5.out
      go_wp2_with (with_reducible refine Ab rfl 33 _ _ rfl w.heap.size #[.int .i64 0,.slice none 0 0,.slice none 0 0,.int .i64 0,.string ⟨#[]⟩,.string ⟨#[]⟩,.slice none 0 0] rfl rfl _ x9 (by kernel_rfl) rfl (by simp[Value.oneCell']) ?_;intro w9 k9 ho9);refine Ay rfl rfl rfl k9 rfl ?_
      exact AK.ok (vs:=#[.int .i64 0,.slice none 0 0,.slice none 0 0,.int .i64 0,.string ⟨#[]⟩,.string ⟨#[]⟩,.slice none 0 0]) HO.out (Bq.leaf _ _ 0) HST.out (AB.fresh HH.out Q5.out ho9 (Nat.le_refl _))
     |false=>
      cases hf:AD ⟨#[102,97,108,115,101]⟩ (rd D.ts i) with
      |true=>
       have hno:¬(lv=0/\(AD ⟨#[33]⟩ (rd D.ts i)=true\/AD ⟨#[40]⟩ (rd D.ts i)=true)):=fun hh=>by rw[hb,hp]at hh;simp at hh
       have HO:=Aa (HP1.out.trans ((if_neg hno).trans ((if_neg (by rw[hb];decide)).trans ((if_neg (by rw[hp];decide)).trans ((if_neg (by rw[ht];decide)).trans (if_pos hf))))));clear hno;have hst:=AV HH.out.good.ends hf;rw[<-hst.1]at HO;have hl1:=hst.2.1;have HST:=Aa (show Aj D i (rd D.ts (i+1)) (i+1) from ⟨rfl,by omega⟩);clear hst;subst hl;clear HP1;go_enter Tryz.func140,Tryz.ntmps140;go_wp2_with fail
       generalize hW0:w.alloc (.cells #[.int .i64 0,.slice none 0 0,.slice none 0 0,.int .i64 0,.string ⟨#[]⟩,.string ⟨#[]⟩,.slice none 0 0] 33)=W0 at *;clear hW0;have Q0:=Aa (AB.of_below HH.out HB.out);have XX0:=Aa X0.out;have hq:=HS.out ⟨#[33]⟩ _ Q0.out.2;rw[hb]at hq;refine hq.mono ?_;rintro e w1 ⟨rfl,bq⟩;have Q1:=Aa (Q0.out.below bq);have XX1:=Aa (XX0.out.next bq);have hs1:=bq.size;clear bq hq;go_wp2_with fail;have hq:=HS.out ⟨#[40]⟩ _ Q1.out.2;rw[hp]at hq
       refine hq.mono ?_;rintro e w2 ⟨rfl,bq⟩;have Q2:=Aa (Q1.out.below bq);have XX2:=Aa (XX1.out.next bq);have hs2:=bq.size;clear bq hq;go_wp2_with fail;have hq:=HT.out ⟨#[33]⟩ _ Q2.out.2;rw[hb]at hq;simp only[Bool.false_eq_true,if_false]at hq;refine hq.mono ?_;rintro e w3 ⟨rfl,bq⟩;have Q3:=Aa (Q2.out.trans bq);have XX3:=Aa (XX2.out.other bq.1 (Nat.ne_of_gt hgw));have hs3:=bq.1.size;clear bq hq;go_wp2_with fail;have hq:=HT.out ⟨#[40]⟩ _ Q3.out.2;rw[hp]at hq
       simp only[Bool.false_eq_true,if_false]at hq;refine hq.mono ?_;rintro e w4 ⟨rfl,bq⟩;have Q4:=Aa (Q3.out.trans bq);have XX4:=Aa (XX3.out.other bq.1 (Nat.ne_of_gt hgw));have hs4:=bq.1.size;clear bq hq;go_wp2_with fail;have hq:=HT.out ⟨#[116,114,117,101]⟩ _ Q4.out.2;rw[ht]at hq;simp only[Bool.false_eq_true,if_false]at hq;refine hq.mono ?_;rintro e w5 ⟨rfl,bq⟩;have Q5:=Aa (Q4.out.trans bq);have XX5:=Aa (XX4.out.other bq.1 (Nat.ne_of_gt hgw));have hs5:=bq.1.size
       clear bq hq;go_wp2_with fail;have hq:=HT.out ⟨#[102,97,108,115,101]⟩ _ Q5.out.2;rw[hf]at hq;simp only[if_true]at hq;refine hq.mono ?_;rintro e w6 ⟨rfl,bq⟩;have Q6:=Aa (Q5.out.trans bq);have XX6:=Aa (XX5.out.other bq.1 (Nat.ne_of_gt hgw));have hs6:=bq.1.size;clear bq hq;have x9:=XX6.out
       go_wp2_with (with_reducible refine Ab rfl 33 _ _ rfl w.heap.size #[.int .i64 1,.slice none 0 0,.slice none 0 0,.int .i64 0,.string ⟨#[]⟩,.string ⟨#[]⟩,.slice none 0 0] rfl rfl _ x9 (by kernel_rfl) rfl (by simp[Value.oneCell']) ?_;intro w9 k9 ho9);refine Ay rfl rfl rfl k9 rfl ?_
       exact AK.ok (vs:=#[.int .i64 1,.slice none 0 0,.slice none 0 0,.int .i64 0,.string ⟨#[]⟩,.string ⟨#[]⟩,.slice none 0 0]) HO.out (Bq.leaf _ _ 1) HST.out (AB.fresh HH.out Q6.out ho9 (Nat.le_refl _))
      |false=>
       have hno:¬(lv=0/\(AD ⟨#[33]⟩ (rd D.ts i)=true\/AD ⟨#[40]⟩ (rd D.ts i)=true)):=fun hh=>by rw[hb,hp]at hh;simp at hh
       have HO:=Aa (HP1.out.trans ((if_neg hno).trans ((if_neg (by rw[hb];decide)).trans ((if_neg (by rw[hp];decide)).trans ((if_neg (by rw[ht];decide)).trans (if_neg (by rw[hf];decide)))))));clear hno;subst hl;clear HP1;go_enter Tryz.func140,Tryz.ntmps140;go_wp2_with fail;generalize hW0:w.alloc (.cells #[.int .i64 0,.slice none 0 0,.slice none 0 0,.int .i64 0,.string ⟨#[]⟩,.string ⟨#[]⟩,.slice none 0 0] 33)=W0 at *;clear hW0;have Q0:=Aa (AB.of_below HH.out HB.out)
       have XX0:=Aa X0.out;have hq:=HS.out ⟨#[33]⟩ _ Q0.out.2;rw[hb]at hq;refine hq.mono ?_;rintro e w1 ⟨rfl,bq⟩;have Q1:=Aa (Q0.out.below bq);have XX1:=Aa (XX0.out.next bq);have hs1:=bq.size;clear bq hq;go_wp2_with fail;have hq:=HS.out ⟨#[40]⟩ _ Q1.out.2;rw[hp]at hq;refine hq.mono ?_;rintro e w2 ⟨rfl,bq⟩;have Q2:=Aa (Q1.out.below bq);have XX2:=Aa (XX1.out.next bq);have hs2:=bq.size;clear bq hq;go_wp2_with fail;have hq:=HT.out ⟨#[33]⟩ _ Q2.out.2;rw[hb]at hq
       simp only[Bool.false_eq_true,if_false]at hq;refine hq.mono ?_;rintro e w3 ⟨rfl,bq⟩;have Q3:=Aa (Q2.out.trans bq);have XX3:=Aa (XX2.out.other bq.1 (Nat.ne_of_gt hgw));have hs3:=bq.1.size;clear bq hq;go_wp2_with fail;have hq:=HT.out ⟨#[40]⟩ _ Q3.out.2;rw[hp]at hq;simp only[Bool.false_eq_true,if_false]at hq;refine hq.mono ?_;rintro e w4 ⟨rfl,bq⟩;have Q4:=Aa (Q3.out.trans bq);have XX4:=Aa (XX3.out.other bq.1 (Nat.ne_of_gt hgw));have hs4:=bq.1.size;clear bq hq
       go_wp2_with fail;have hq:=HT.out ⟨#[116,114,117,101]⟩ _ Q4.out.2;rw[ht]at hq;simp only[Bool.false_eq_true,if_false]at hq;refine hq.mono ?_;rintro e w5 ⟨rfl,bq⟩;have Q5:=Aa (Q4.out.trans bq);have XX5:=Aa (XX4.out.other bq.1 (Nat.ne_of_gt hgw));have hs5:=bq.1.size;clear bq hq;go_wp2_with fail;have hq:=HT.out ⟨#[102,97,108,115,101]⟩ _ Q5.out.2;rw[hf]at hq;simp only[Bool.false_eq_true,if_false]at hq;refine hq.mono ?_;rintro e w6 ⟨rfl,bq⟩;have Q6:=Aa (Q5.out.trans bq)
       have XX6:=Aa (XX5.out.other bq.1 (Nat.ne_of_gt hgw));have hs6:=bq.1.size;clear bq hq;go_wp2_with fail;have hd:=(ES D g i _ Q6.out.2 (HTAB.out.went HH.out Q6.out)).mono (fun _ _ hh=>AK.up hh);refine hd.mono ?_;rintro e wr ⟨code,kd,Al,nl,cl,Ar,nr,cr,op,p,q,A,n,c,rfl,or,hup⟩;have x9:=XX6.out.other or (Nat.ne_of_gt hgw);have HU:=Aa (fun w9 ho9=>hup w9 w i HH.out Q6.out (by omega) (Aj.refl D i) ho9);clear hup or hd
       go_wp2_with (with_reducible refine Ab rfl 33 _ _ rfl w.heap.size #[.int .i64 kd,.slice Al nl cl,.slice Ar nr cr,.int .i64 op,.string p,.string q,.slice A n c] rfl rfl _ x9 (by kernel_rfl) rfl (by simp[Value.oneCell']) ?_;intro w9 k9 ho9);refine Ay rfl rfl rfl k9 rfl ?_;rw[HO.out];exact HU.out _ ho9
 · cases hb:AD ⟨#[33]⟩ (rd D.ts i) with
   |true=>
    have HO:=Aa (HP1.out.trans ((if_neg (fun hh=>hl hh.1)).trans (if_pos hb)));have hst:=AV HH.out.good.ends hb;rw[<-hst.1]at HO;have hl1:=hst.2.1;have HST:=Aa (show Aj D i (rd D.ts (i+1)) (i+1) from ⟨rfl,by omega⟩);clear hst;have gl:((lv:Int)==0)=false:=(by simp;omega);clear HP1;go_enter Tryz.func140,Tryz.ntmps140;go_wp2_with fail
    generalize hW0:w.alloc (.cells #[.int .i64 0,.slice none 0 0,.slice none 0 0,.int .i64 0,.string ⟨#[]⟩,.string ⟨#[]⟩,.slice none 0 0] 33)=W0 at *;clear hW0;have Q0:=Aa (AB.of_below HH.out HB.out);have XX0:=Aa X0.out;have hq:=HT.out ⟨#[33]⟩ _ Q0.out.2;rw[hb]at hq;simp only[if_true]at hq;refine hq.mono ?_;rintro e w1 ⟨rfl,bq⟩;have Q1:=Aa (Q0.out.trans bq);have XX1:=Aa (XX0.out.other bq.1 (Nat.ne_of_gt hgw));have hs1:=bq.1.size;clear bq hq;go_wp2_with fail
    have hd:=(Sq D g (i+1) ((lv:Int)-1) _ _ Q1.out.2 (HTAB.out.went HH.out Q1.out) (fun W c tt=>HONE.out W (by omega) c tt (by omega))).mono (fun _ _ hh=>AK.up hh);refine hd.mono ?_;rintro e wr ⟨code,kd,Al,nl,cl,Ar,nr,cr,op,p,q,A,n,c,rfl,or,hup⟩;have x9:=XX1.out.other or (Nat.ne_of_gt hgw);have HU:=Aa (fun w9 ho9=>hup w9 w i HH.out Q1.out (by omega) HST.out ho9);clear hup or hd
    go_wp2_with (with_reducible refine Ab rfl 33 _ _ rfl w.heap.size #[.int .i64 kd,.slice Al nl cl,.slice Ar nr cr,.int .i64 op,.string p,.string q,.slice A n c] rfl rfl _ x9 (by kernel_rfl) rfl (by simp[Value.oneCell']) ?_;intro w9 k9 ho9);refine Ay rfl rfl rfl k9 rfl ?_;rw[HO.out];exact HU.out _ ho9
   |false=>
    cases hp:AD ⟨#[40]⟩ (rd D.ts i) with
    |true=>
     have HO:=Aa (HP1.out.trans ((if_neg (fun hh=>hl hh.1)).trans ((if_neg (by rw[hb];decide)).trans (if_pos hp))));have hst:=AV HH.out.good.ends hp;rw[<-hst.1]at HO;have hl1:=hst.2.1;have HST:=Aa (show Aj D i (rd D.ts (i+1)) (i+1) from ⟨rfl,by omega⟩);clear hst;have gl:((lv:Int)==0)=false:=(by simp;omega);clear HP1;go_enter Tryz.func140,Tryz.ntmps140;go_wp2_with fail
     generalize hW0:w.alloc (.cells #[.int .i64 0,.slice none 0 0,.slice none 0 0,.int .i64 0,.string ⟨#[]⟩,.string ⟨#[]⟩,.slice none 0 0] 33)=W0 at *;clear hW0;have Q0:=Aa (AB.of_below HH.out HB.out);have XX0:=Aa X0.out;have hq:=HT.out ⟨#[33]⟩ _ Q0.out.2;rw[hb]at hq;simp only[Bool.false_eq_true,if_false]at hq;refine hq.mono ?_;rintro e w1 ⟨rfl,bq⟩;have Q1:=Aa (Q0.out.trans bq);have XX1:=Aa (XX0.out.other bq.1 (Nat.ne_of_gt hgw));have hs1:=bq.1.size;clear bq hq
     go_wp2_with fail;have hq:=HT.out ⟨#[40]⟩ _ Q1.out.2;rw[hp]at hq;simp only[if_true]at hq;refine hq.mono ?_;rintro e w2 ⟨rfl,bq⟩;have Q2:=Aa (Q1.out.trans bq);have XX2:=Aa (XX1.out.other bq.1 (Nat.ne_of_gt hgw));have hs2:=bq.1.size;clear bq hq;go_wp2_with fail;have hd:=(Qw D g (i+1) ((lv:Int)-1) _ _ Q2.out.2 (HTAB.out.went HH.out Q2.out) (fun W c tt=>HCOND.out W (by omega) c tt (by omega))).mono (fun _ _ hh=>AK.up hh);refine hd.mono ?_
     rintro e wr ⟨code,kd,Al,nl,cl,Ar,nr,cr,op,p,q,A,n,c,rfl,or,hup⟩;have x9:=XX2.out.other or (Nat.ne_of_gt hgw);have HU:=Aa (fun w9 ho9=>hup w9 w i HH.out Q2.out (by omega) HST.out ho9);clear hup or hd;go_wp2_with (with_reducible refine Ab rfl 33 _ _ rfl w.heap.size #[.int .i64 kd,.slice Al nl cl,.slice Ar nr cr,.int .i64 op,.string p,.string q,.slice A n c] rfl rfl _ x9 (by kernel_rfl) rfl (by simp[Value.oneCell']) ?_;intro w9 k9 ho9);refine Ay rfl rfl rfl k9 rfl ?_
     rw[HO.out];exact HU.out _ ho9
    |false=>
     cases ht:AD ⟨#[116,114,117,101]⟩ (rd D.ts i) with
     |true=>
      have hno:¬(lv=0/\(AD ⟨#[33]⟩ (rd D.ts i)=true\/AD ⟨#[40]⟩ (rd D.ts i)=true)):=fun hh=>by rw[hb,hp]at hh;simp at hh
      have HO:=Aa (HP1.out.trans ((if_neg hno).trans ((if_neg (by rw[hb];decide)).trans ((if_neg (by rw[hp];decide)).trans (if_pos ht)))));clear hno;have hst:=AV HH.out.good.ends ht;rw[<-hst.1]at HO;have hl1:=hst.2.1;have HST:=Aa (show Aj D i (rd D.ts (i+1)) (i+1) from ⟨rfl,by omega⟩);clear hst;have gl:((lv:Int)==0)=false:=(by simp;omega);clear HP1;go_enter Tryz.func140,Tryz.ntmps140;go_wp2_with fail
      generalize hW0:w.alloc (.cells #[.int .i64 0,.slice none 0 0,.slice none 0 0,.int .i64 0,.string ⟨#[]⟩,.string ⟨#[]⟩,.slice none 0 0] 33)=W0 at *;clear hW0;have Q0:=Aa (AB.of_below HH.out HB.out);have XX0:=Aa X0.out;have hq:=HT.out ⟨#[33]⟩ _ Q0.out.2;rw[hb]at hq;simp only[Bool.false_eq_true,if_false]at hq;refine hq.mono ?_;rintro e w1 ⟨rfl,bq⟩;have Q1:=Aa (Q0.out.trans bq);have XX1:=Aa (XX0.out.other bq.1 (Nat.ne_of_gt hgw));have hs1:=bq.1.size;clear bq hq
      go_wp2_with fail;have hq:=HT.out ⟨#[40]⟩ _ Q1.out.2;rw[hp]at hq;simp only[Bool.false_eq_true,if_false]at hq;refine hq.mono ?_;rintro e w2 ⟨rfl,bq⟩;have Q2:=Aa (Q1.out.trans bq);have XX2:=Aa (XX1.out.other bq.1 (Nat.ne_of_gt hgw));have hs2:=bq.1.size;clear bq hq;go_wp2_with fail;have hq:=HT.out ⟨#[116,114,117,101]⟩ _ Q2.out.2;rw[ht]at hq;simp only[if_true]at hq;refine hq.mono ?_;rintro e w3 ⟨rfl,bq⟩;have Q3:=Aa (Q2.out.trans bq)
      have XX3:=Aa (XX2.out.other bq.1 (Nat.ne_of_gt hgw));have hs3:=bq.1.size;clear bq hq;have x9:=XX3.out;go_wp2_with (with_reducible refine Ab rfl 33 _ _ rfl w.heap.size #[.int .i64 0,.slice none 0 0,.slice none 0 0,.int .i64 0,.string ⟨#[]⟩,.string ⟨#[]⟩,.slice none 0 0] rfl rfl _ x9 (by kernel_rfl) rfl (by simp[Value.oneCell']) ?_;intro w9 k9 ho9);refine Ay rfl rfl rfl k9 rfl ?_
      exact AK.ok (vs:=#[.int .i64 0,.slice none 0 0,.slice none 0 0,.int .i64 0,.string ⟨#[]⟩,.string ⟨#[]⟩,.slice none 0 0]) HO.out (Bq.leaf _ _ 0) HST.out (AB.fresh HH.out Q3.out ho9 (Nat.le_refl _))
     |false=>
      cases hf:AD ⟨#[102,97,108,115,101]⟩ (rd D.ts i) with
      |true=>
       have hno:¬(lv=0/\(AD ⟨#[33]⟩ (rd D.ts i)=true\/AD ⟨#[40]⟩ (rd D.ts i)=true)):=fun hh=>by rw[hb,hp]at hh;simp at hh
       have HO:=Aa (HP1.out.trans ((if_neg hno).trans ((if_neg (by rw[hb];decide)).trans ((if_neg (by rw[hp];decide)).trans ((if_neg (by rw[ht];decide)).trans (if_pos hf))))));clear hno;have hst:=AV HH.out.good.ends hf;rw[<-hst.1]at HO;have hl1:=hst.2.1;have HST:=Aa (show Aj D i (rd D.ts (i+1)) (i+1) from ⟨rfl,by omega⟩);clear hst;have gl:((lv:Int)==0)=false:=(by simp;omega);clear HP1;go_enter Tryz.func140,Tryz.ntmps140;go_wp2_with fail
       generalize hW0:w.alloc (.cells #[.int .i64 0,.slice none 0 0,.slice none 0 0,.int .i64 0,.string ⟨#[]⟩,.string ⟨#[]⟩,.slice none 0 0] 33)=W0 at *;clear hW0;have Q0:=Aa (AB.of_below HH.out HB.out);have XX0:=Aa X0.out;have hq:=HT.out ⟨#[33]⟩ _ Q0.out.2;rw[hb]at hq;simp only[Bool.false_eq_true,if_false]at hq;refine hq.mono ?_;rintro e w1 ⟨rfl,bq⟩;have Q1:=Aa (Q0.out.trans bq);have XX1:=Aa (XX0.out.other bq.1 (Nat.ne_of_gt hgw));have hs1:=bq.1.size;clear bq hq
       go_wp2_with fail;have hq:=HT.out ⟨#[40]⟩ _ Q1.out.2;rw[hp]at hq;simp only[Bool.false_eq_true,if_false]at hq;refine hq.mono ?_;rintro e w2 ⟨rfl,bq⟩;have Q2:=Aa (Q1.out.trans bq);have XX2:=Aa (XX1.out.other bq.1 (Nat.ne_of_gt hgw));have hs2:=bq.1.size;clear bq hq;go_wp2_with fail;have hq:=HT.out ⟨#[116,114,117,101]⟩ _ Q2.out.2;rw[ht]at hq;simp only[Bool.false_eq_true,if_false]at hq;refine hq.mono ?_;rintro e w3 ⟨rfl,bq⟩;have Q3:=Aa (Q2.out.trans bq)
       have XX3:=Aa (XX2.out.other bq.1 (Nat.ne_of_gt hgw));have hs3:=bq.1.size;clear bq hq;go_wp2_with fail;have hq:=HT.out ⟨#[102,97,108,115,101]⟩ _ Q3.out.2;rw[hf]at hq;simp only[if_true]at hq;refine hq.mono ?_;rintro e w4 ⟨rfl,bq⟩;have Q4:=Aa (Q3.out.trans bq);have XX4:=Aa (XX3.out.other bq.1 (Nat.ne_of_gt hgw));have hs4:=bq.1.size;clear bq hq;have x9:=XX4.out
       go_wp2_with (with_reducible refine Ab rfl 33 _ _ rfl w.heap.size #[.int .i64 1,.slice none 0 0,.slice none 0 0,.int .i64 0,.string ⟨#[]⟩,.string ⟨#[]⟩,.slice none 0 0] rfl rfl _ x9 (by kernel_rfl) rfl (by simp[Value.oneCell']) ?_;intro w9 k9 ho9);refine Ay rfl rfl rfl k9 rfl ?_
       exact AK.ok (vs:=#[.int .i64 1,.slice none 0 0,.slice none 0 0,.int .i64 0,.string ⟨#[]⟩,.string ⟨#[]⟩,.slice none 0 0]) HO.out (Bq.leaf _ _ 1) HST.out (AB.fresh HH.out Q4.out ho9 (Nat.le_refl _))
      |false=>
       have hno:¬(lv=0/\(AD ⟨#[33]⟩ (rd D.ts i)=true\/AD ⟨#[40]⟩ (rd D.ts i)=true)):=fun hh=>by rw[hb,hp]at hh;simp at hh
       have HO:=Aa (HP1.out.trans ((if_neg hno).trans ((if_neg (by rw[hb];decide)).trans ((if_neg (by rw[hp];decide)).trans ((if_neg (by rw[ht];decide)).trans (if_neg (by rw[hf];decide)))))));clear hno;have gl:((lv:Int)==0)=false:=(by simp;omega);clear HP1;go_enter Tryz.func140,Tryz.ntmps140;go_wp2_with fail;generalize hW0:w.alloc (.cells #[.int .i64 0,.slice none 0 0,.slice none 0 0,.int .i64 0,.string ⟨#[]⟩,.string ⟨#[]⟩,.slice none 0 0] 33)=W0 at *;clear hW0
       have Q0:=Aa (AB.of_below HH.out HB.out);have XX0:=Aa X0.out;have hq:=HT.out ⟨#[33]⟩ _ Q0.out.2;rw[hb]at hq;simp only[Bool.false_eq_true,if_false]at hq;refine hq.mono ?_;rintro e w1 ⟨rfl,bq⟩;have Q1:=Aa (Q0.out.trans bq);have XX1:=Aa (XX0.out.other bq.1 (Nat.ne_of_gt hgw));have hs1:=bq.1.size;clear bq hq;go_wp2_with fail;have hq:=HT.out ⟨#[40]⟩ _ Q1.out.2;rw[hp]at hq;simp only[Bool.false_eq_true,if_false]at hq;refine hq.mono ?_;rintro e w2 ⟨rfl,bq⟩
       have Q2:=Aa (Q1.out.trans bq);have XX2:=Aa (XX1.out.other bq.1 (Nat.ne_of_gt hgw));have hs2:=bq.1.size;clear bq hq;go_wp2_with fail;have hq:=HT.out ⟨#[116,114,117,101]⟩ _ Q2.out.2;rw[ht]at hq;simp only[Bool.false_eq_true,if_false]at hq;refine hq.mono ?_;rintro e w3 ⟨rfl,bq⟩;have Q3:=Aa (Q2.out.trans bq);have XX3:=Aa (XX2.out.other bq.1 (Nat.ne_of_gt hgw));have hs3:=bq.1.size;clear bq hq;go_wp2_with fail;have hq:=HT.out ⟨#[102,97,108,115,101]⟩ _ Q3.out.2
       rw[hf]at hq;simp only[Bool.false_eq_true,if_false]at hq;refine hq.mono ?_;rintro e w4 ⟨rfl,bq⟩;have Q4:=Aa (Q3.out.trans bq);have XX4:=Aa (XX3.out.other bq.1 (Nat.ne_of_gt hgw));have hs4:=bq.1.size;clear bq hq;go_wp2_with fail;have hd:=(ES D g i _ Q4.out.2 (HTAB.out.went HH.out Q4.out)).mono (fun _ _ hh=>AK.up hh);refine hd.mono ?_;rintro e wr ⟨code,kd,Al,nl,cl,Ar,nr,cr,op,p,q,A,n,c,rfl,or,hup⟩;have x9:=XX4.out.other or (Nat.ne_of_gt hgw)
       have HU:=Aa (fun w9 ho9=>hup w9 w i HH.out Q4.out (by omega) (Aj.refl D i) ho9);clear hup or hd;go_wp2_with (with_reducible refine Ab rfl 33 _ _ rfl w.heap.size #[.int .i64 kd,.slice Al nl cl,.slice Ar nr cr,.int .i64 op,.string p,.string q,.slice A n c] rfl rfl _ x9 (by kernel_rfl) rfl (by simp[Value.oneCell']) ?_;intro w9 k9 ho9);refine Ay rfl rfl rfl k9 rfl ?_;rw[HO.out];exact HU.out _ ho9
theorem Sr (D:CD) (g i lv:Nat) (w:World) (h:Ci D g w i) (htab:Bj w) (hlv:lv<=60)
  (hpart:∀W j,Ci D g W j->Bj W->(rd D.ts j).length<=(rd D.ts i).length->Calls Tryz.prog 140 #[.pointer (some ⟨g,0,none⟩),.int .i64 (lv:Int)] W (AK D g (Ak D.kn .one lv (rd D.ts j)) j W)) :
  Calls Tryz.prog 105 #[.pointer (some ⟨g,0,none⟩),.int .i64 (lv:Int)] w (AK D g (Ak D.kn .both lv (rd D.ts i)) i w):=by
 have HH:=Aa h;have HB:=Aa (Ae w (.cells #[.int .i64 0,.slice none 0 0,.slice none 0 0,.int .i64 0,.string ⟨#[]⟩,.string ⟨#[]⟩,.slice none 0 0] 33));have hsz:(w.alloc (.cells #[.int .i64 0,.slice none 0 0,.slice none 0 0,.int .i64 0,.string ⟨#[]⟩,.string ⟨#[]⟩,.slice none 0 0] 33)).heap.size=w.heap.size+1:=World.size_alloc _ _;have X0:=Aa (Ao.new 33 w #[.int .i64 0,.slice none 0 0,.slice none 0 0,.int .i64 0,.string ⟨#[]⟩,.string ⟨#[]⟩,.slice none 0 0])
 have HTB:=Aa (htab.below HB.out);have hgw:=h.lt;have HC0:=Aa (h.below HB.out);have hc:=(KI D g i lv _ 140 4 ⟨#[38]⟩ .one .bothGo .both HC0.out HTB.out hlv (fun args W=>Fx Tryz.func140 (by kernel_rfl) (by kernel_rfl) args W) hpart (fun t r=>Eb _ _ _ _) (fun t k=>rfl)).mono (fun _ _ hh=>AK.up hh);rw[El];clear h htab hpart;go_enter Tryz.func105,Tryz.ntmps105;go_wp2_with fail
 generalize hW0:w.alloc (.cells #[.int .i64 0,.slice none 0 0,.slice none 0 0,.int .i64 0,.string ⟨#[]⟩,.string ⟨#[]⟩,.slice none 0 0] 33)=W0 at *;clear hW0;refine hc.mono ?_;rintro e w2 ⟨code,kd,Al,nl,cl,Ar,nr,cr,op,p,q,A,n,c,rfl,q2,hup⟩;have x9:=X0.out.other q2 (Nat.ne_of_gt hgw);have HU:=Aa (fun w9 ho9=>hup w9 w i HH.out (AB.of_below HH.out HB.out) (by omega) (Aj.refl D i) ho9);clear hc q2 hup
 go_wp2_with (with_reducible refine Ab rfl 33 _ _ rfl w.heap.size #[.int .i64 kd,.slice Al nl cl,.slice Ar nr cr,.int .i64 op,.string p,.string q,.slice A n c] rfl rfl _ x9 (by kernel_rfl) rfl (by simp[Value.oneCell']) ?_;intro w9 k9 ho9);refine Ay rfl rfl rfl k9 rfl ?_;exact HU.out _ ho9
theorem Ss (D:CD) (g i lv:Nat) (w:World) (h:Ci D g w i) (htab:Bj w) (hlv:lv<=60)
  (hpart:∀W j,Ci D g W j->Bj W->(rd D.ts j).length<=(rd D.ts i).length->Calls Tryz.prog 105 #[.pointer (some ⟨g,0,none⟩),.int .i64 (lv:Int)] W (AK D g (Ak D.kn .both lv (rd D.ts j)) j W)) :
  Calls Tryz.prog 62 #[.pointer (some ⟨g,0,none⟩),.int .i64 (lv:Int)] w (AK D g (Ak D.kn .cond lv (rd D.ts i)) i w):=by
 have HH:=Aa h;have HB:=Aa (Ae w (.cells #[.int .i64 0,.slice none 0 0,.slice none 0 0,.int .i64 0,.string ⟨#[]⟩,.string ⟨#[]⟩,.slice none 0 0] 33));have hsz:(w.alloc (.cells #[.int .i64 0,.slice none 0 0,.slice none 0 0,.int .i64 0,.string ⟨#[]⟩,.string ⟨#[]⟩,.slice none 0 0] 33)).heap.size=w.heap.size+1:=World.size_alloc _ _;have X0:=Aa (Ao.new 33 w #[.int .i64 0,.slice none 0 0,.slice none 0 0,.int .i64 0,.string ⟨#[]⟩,.string ⟨#[]⟩,.slice none 0 0])
 have HTB:=Aa (htab.below HB.out);have hgw:=h.lt;have HC0:=Aa (h.below HB.out);have hc:=(KI D g i lv _ 105 5 ⟨#[124]⟩ .both .condGo .any HC0.out HTB.out hlv (fun args W=>Fx Tryz.func105 (by kernel_rfl) (by kernel_rfl) args W) hpart (fun t r=>F4 _ _ _ _) (fun t k=>rfl)).mono (fun _ _ hh=>AK.up hh);rw[F3];clear h htab hpart;go_enter Tryz.func62,Tryz.ntmps62;go_wp2_with fail
 generalize hW0:w.alloc (.cells #[.int .i64 0,.slice none 0 0,.slice none 0 0,.int .i64 0,.string ⟨#[]⟩,.string ⟨#[]⟩,.slice none 0 0] 33)=W0 at *;clear hW0;refine hc.mono ?_;rintro e w2 ⟨code,kd,Al,nl,cl,Ar,nr,cr,op,p,q,A,n,c,rfl,q2,hup⟩;have x9:=X0.out.other q2 (Nat.ne_of_gt hgw);have HU:=Aa (fun w9 ho9=>hup w9 w i HH.out (AB.of_below HH.out HB.out) (by omega) (Aj.refl D i) ho9);clear hc q2 hup
 go_wp2_with (with_reducible refine Ab rfl 33 _ _ rfl w.heap.size #[.int .i64 kd,.slice Al nl cl,.slice Ar nr cr,.int .i64 op,.string p,.string q,.slice A n c] rfl rfl _ x9 (by kernel_rfl) rfl (by simp[Value.oneCell']) ?_;intro w9 k9 ho9);refine Ay rfl rfl rfl k9 rfl ?_;exact HU.out _ ho9
theorem Ue (D:CD) (g:Nat) (m:Nat):∀(i lv:Nat),lv<=60 ->
  (3*(rd D.ts i).length<=m->∀W,Ci D g W i->Bj W->Calls Tryz.prog 140 #[.pointer (some ⟨g,0,none⟩),.int .i64 (lv:Int)] W (AK D g (Ak D.kn .one lv (rd D.ts i)) i W)) /\
  (3*(rd D.ts i).length+1<=m->∀W,Ci D g W i->Bj W->Calls Tryz.prog 105 #[.pointer (some ⟨g,0,none⟩),.int .i64 (lv:Int)] W (AK D g (Ak D.kn .both lv (rd D.ts i)) i W)) /\
  (3*(rd D.ts i).length+2<=m->∀W,Ci D g W i->Bj W->Calls Tryz.prog 62 #[.pointer (some ⟨g,0,none⟩),.int .i64 (lv:Int)] W (AK D g (Ak D.kn .cond lv (rd D.ts i)) i W)):=by
 induction m with
 |zero=>intro i lv _;have:=Jg D.ts i;exact ⟨fun h=>by omega,fun h=>by omega,fun h=>by omega⟩
 |succ m ih=>
  intro i lv hlv;refine ⟨fun hl W hc ht=>?_,fun hl W hc ht=>?_,fun hl W hc ht=>?_⟩
  · refine Ud D g i lv W hc ht hlv (fun W2 h1 c2 t2 hl2=>?_) (fun W2 h1 c2 t2 hl2=>?_)
    · have e:(lv:Int)-1=((lv-1:Nat):Int):=(by omega);rw[e];exact (ih (i+1) (lv-1) (by omega)).1 (by omega) W2 c2 t2
    · have e:(lv:Int)-1=((lv-1:Nat):Int):=(by omega);rw[e];exact (ih (i+1) (lv-1) (by omega)).2.2 (by omega) W2 c2 t2
  · exact Sr D g i lv W hc ht hlv (fun W2 j c2 t2 hl2=>(ih j lv hlv).1 (by omega) W2 c2 t2)
  · exact Ss D g i lv W hc ht hlv (fun W2 j c2 t2 hl2=>(ih j lv hlv).2.1 (by omega) W2 c2 t2)
theorem Su (D:CD) (g i:Nat) (w:World) (h:Ci D g w i) (htab:Bj w) :
  Calls Tryz.prog 34 #[.pointer (some ⟨g,0,none⟩)] w (AK D g (Ak D.kn .cond 60 (rd D.ts i)) i w):=by
 have HH:=Aa h;have HB:=Aa (Ae w (.cells #[.int .i64 0,.slice none 0 0,.slice none 0 0,.int .i64 0,.string ⟨#[]⟩,.string ⟨#[]⟩,.slice none 0 0] 33));have hsz:(w.alloc (.cells #[.int .i64 0,.slice none 0 0,.slice none 0 0,.int .i64 0,.string ⟨#[]⟩,.string ⟨#[]⟩,.slice none 0 0] 33)).heap.size=w.heap.size+1:=World.size_alloc _ _;have X0:=Aa (Ao.new 33 w #[.int .i64 0,.slice none 0 0,.slice none 0 0,.int .i64 0,.string ⟨#[]⟩,.string ⟨#[]⟩,.slice none 0 0])
 have HTB:=Aa (htab.below HB.out);have hgw:=h.lt;have HC0:=Aa (h.below HB.out);have hc:=((Ue D g _ i 60 (Nat.le_refl _)).2.2 (Nat.le_refl _) _ HC0.out HTB.out).mono (fun _ _ hh=>AK.up hh);clear h htab;go_enter Tryz.func34,Tryz.ntmps34;go_wp2_with fail;generalize hW0:w.alloc (.cells #[.int .i64 0,.slice none 0 0,.slice none 0 0,.int .i64 0,.string ⟨#[]⟩,.string ⟨#[]⟩,.slice none 0 0] 33)=W0 at *;clear hW0;refine hc.mono ?_
 rintro e w2 ⟨code,kd,Al,nl,cl,Ar,nr,cr,op,p,q,A,n,c,rfl,q2,hup⟩;have x9:=X0.out.other q2 (Nat.ne_of_gt hgw);have HU:=Aa (fun w9 ho9=>hup w9 w i HH.out (AB.of_below HH.out HB.out) (by omega) (Aj.refl D i) ho9);clear hc q2 hup;go_wp2_with (with_reducible refine Ab rfl 33 _ _ rfl w.heap.size #[.int .i64 kd,.slice Al nl cl,.slice Ar nr cr,.int .i64 op,.string p,.string q,.slice A n c] rfl rfl _ x9 (by kernel_rfl) rfl (by simp[Value.oneCell']) ?_;intro w9 k9 ho9)
 refine Ay rfl rfl rfl k9 rfl ?_;exact HU.out _ ho9
end
section
open Go.RowKit
open Lx
end
section
open Go.RowKit
open Lx
theorem Qx (s:ByteArray) (w:World) (hs:s.size<=4611686018427387904):Calls Tryz.prog 103 #[.string s] w (EE (.bool (BK s)) w):=by
 have HB:=Aa (show BK s=(!(decide (s.size=0) || decide (20<s.size) || !decide (Bi (Ad s 0)=1) || Gz s)&&Bc Fh s 0) from rfl);generalize BK s=r at *;by_cases h0:s.size=0
 · have hr:r=false:=(by rw[HB.out];simp[h0]);subst hr;clear HB;go_enter Tryz.func103,Tryz.ntmps103;go_wp2_with fail;go_ret
   exact ⟨rfl,0,rfl⟩
 · have hl1:0<s.size:=(by omega);have b0:((s.size:Int)==0)=false:=(by rw[beq_eq_false_iff_ne];omega);by_cases h1:20<s.size
   · have hr:r=false:=(by rw[HB.out];simp[h1]);subst hr;clear HB;go_enter Tryz.func103,Tryz.ntmps103;go_wp2_with fail;go_ret
     exact ⟨rfl,0,rfl⟩
   · have b1:¬(20:Int)<(s.size:Int):=(by omega);have hcl:=fun (q:Nat) W=>Kw (Ad s q) W
     have hc0:=fun W=>hcl 0 W
     simp only[AE s 0 hl1]at hc0;have HB:=Aa (show r=(!(!decide (Bi (Ad s 0)=1) || Gz s)&&Bc Fh s 0) by rw[HB.out,decide_eq_false h0,decide_eq_false h1];rfl);rw[AE s 0 hl1]at HB;by_cases h2:Bi (s[0]'hl1).toNat=1
     · have hre:=fun W=>JR s W
       have HB:=Aa (show r=(!Gz s&&Bc Fh s 0) by rw[HB.out,decide_eq_true h2];rfl);rw[h2]at hc0;generalize Gz s=rb at *;cases rb with
       |true=>
        have hr:r=false:=(by rw[HB.out];rfl);subst hr;clear HB h2;go_enter Tryz.func103,Tryz.ntmps103;go_wp2_with fail;refine (hc0 _).mono ?_;rintro e w1 ⟨rfl,k1,rfl⟩;go_wp2_with fail;refine (hre _).mono ?_;rintro e w1 ⟨rfl,k2,rfl⟩;go_wp2_with fail;go_ret
        exact ⟨rfl,k1+k2,rfl⟩
       |false=>
        have HR:=Aa (show r=Bc Fh s 0 by rw[HB.out];rfl);clear HB h2;go_enter Tryz.func103,Tryz.ntmps103;go_wp2_with fail;refine (hc0 _).mono ?_;rintro e w1 ⟨rfl,k1,rfl⟩;go_wp2_with fail;refine (hre _).mono ?_;rintro e w1 ⟨rfl,k2,rfl⟩;go_wp2_with fail;clear b0 b1 hc0 hre;go_loopw [3] (fun i wr=>∃q k:Nat,q<=s.size/\i=.int .i64 (q:Int)/\wr=w.drewN k/\Hid (r=Bc Fh s q)) (fun i _=>s.size-(intOf i).toNat)
        case atStart=>exact ⟨0,k1+k2,Nat.zero_le _,rfl,rfl,HR⟩
        case round=>
         obtain ⟨q,k,hq,rfl,rfl,HE⟩:=hrel;by_cases hqn:q<s.size
         · have hc:=fun W=>hcl q W
           have hbe:=AE s q hqn;have HS:=Aa (HE.out.trans (Dn hqn));have HW:=Aa (show Fh (Ad s q)=(decide (1<=Bi (Ad s q))&&decide (Bi (Ad s q)<=3)) from rfl);generalize Fh (Ad s q)=ww at *;generalize Bi (Ad s q)=z at *;rw[hbe]at hc;by_cases hz1:1<=z
           · have g1:¬(z:Int)<1:=(by omega);by_cases hz3:z<=3
             · have g3:¬(3:Int)<(z:Int):=(by omega);have HF:=Aa (show r=Bc Fh s (q+1) by rw[HS.out,HW.out,decide_eq_true hz1,decide_eq_true hz3];rfl);clear hbe hz1 hz3;go_wp2_with fail;refine (hc _).mono ?_;rintro e w1 ⟨rfl,k3,rfl⟩;go_wp2_with fail;refine (hc _).mono ?_;rintro e w1 ⟨rfl,k4,rfl⟩;go_wp2_with fail;go_roundw
               case rel=>exact ⟨q+1,k+k3+k4,by omega,by go_num,rfl,HF⟩
               case measure=>simp[intOf];omega
             · have g3:(3:Int)<(z:Int):=(by omega);have hr:r=false:=(by rw[HS.out,HW.out,decide_eq_false hz3];simp);subst hr;clear hbe hz1 hz3 HS HW HE HR;go_wp2_with fail;refine (hc _).mono ?_;rintro e w1 ⟨rfl,k3,rfl⟩;go_wp2_with fail;refine (hc _).mono ?_;rintro e w1 ⟨rfl,k4,rfl⟩;go_wp2_with fail;go_ret
               exact ⟨rfl,k+k3+k4,rfl⟩
           · have g1:(z:Int)<1:=(by omega);have hr:r=false:=(by rw[HS.out,HW.out,decide_eq_false hz1];simp);subst hr;clear hbe hz1 HS HW HE HR;go_wp2_with fail;refine (hc _).mono ?_;rintro e w1 ⟨rfl,k3,rfl⟩;go_wp2_with fail;go_ret
             exact ⟨rfl,k+k3,rfl⟩
         · obtain rfl:q=s.size:=(by omega);have hr:r=true:=(by rw[HE.out,EI]);subst hr;go_wp2_with fail;go_ret
           exact ⟨rfl,k,rfl⟩
     · have hr:r=false:=(by rw[HB.out,decide_eq_false h2];rfl);subst hr;have g2:¬(Bi (s[0]'hl1).toNat:Int)=1:=(by omega);clear HB;generalize Bi (s[0]'hl1).toNat=z at *;have b2:((z:Int) != 1)=true:=(by simpa using g2);clear h2 g2;go_enter Tryz.func103,Tryz.ntmps103;go_wp2_with fail;refine (hc0 _).mono ?_;rintro e w1 ⟨rfl,k1,rfl⟩;go_wp2_with fail;go_ret
       exact ⟨rfl,k1,rfl⟩
end
end Go.Proofs.YtgohmojcopajoaaGreatDoor
