/- Texts of one seat, put together: LexX. -/
import Derived.Test.YtgohmojcopajoaaGreatDoorP33
import Derived.StillTailTactics
import Derived.Deep.CutBlock
import Derived.Deep.DeepCutAuto
set_option linter.unusedVariables false
set_option linter.unusedSimpArgs false
set_option maxRecDepth 100000
set_option maxHeartbeats 16000000
namespace Go.Proofs.YtgohmojcopajoaaGreatDoor
section
open Go.RowKit
open Lx
theorem OG (s:ByteArray) (w0:World) (hl:s.size<=16384):Calls Tryz.prog 30 #[.string s] w0 (Cb s w0):=by
 have HEQ:=Aa (show Ap (Ad s) s.size=C7 (Ad s) s.size (s.size+1) 0 [] from if_neg (by omega));have HCL:=Aa (fun (q:Nat) W=>Kw (Ad s q) W);have R0:=Aa (show SA s w0 ((w0.alloc (.cells #[.int .i64 0,.int .i64 0] 25)).alloc (.cells #[] 118)) (.slice (some ⟨w0.heap.size+1,0,none⟩) 0 0) [] from
  ⟨by
   have:=Am.lit (T:=118) (sz:=4) (w:=w0.alloc (.cells #[.int .i64 0,.int .i64 0] 25)) (base:=w0.heap.size+1) #[] 0 (by rw[CK];exact Nat.le_refl _) (by decide) rfl (fun u hu=>by cases hu);rw[CK]at this;exact this,EY.next (heap_alloc_new w0 _) (Ae _ _),(Ae w0 _).next (Ae _ _)⟩)
 go_enter Tryz.func30,Tryz.ntmps30;go_wp2_with fail;go_loopw [5,6,7,8,9] (fun a b c d e wr=>∃(i q m:Nat) (acc:List Tok),i<=s.size/\q<=i/\s.size<i+m/\b=.int .i64 (i:Int)/\c=.int .i64 ((Au (Ad s) q).1:Nat)/\d=.int .i64 ((Au (Ad s) q).2:Nat)/\e=.int .i64 (q:Int)/\acc.length<=i/\Hid (SA s w0 wr a acc)/\Hid (Ap (Ad s) s.size=C7 (Ad s) s.size m i acc)) (fun _ b _ _ _ _=>s.size-(intOf b).toNat)
 case atStart=>exact ⟨0,0,s.size+1,[],Nat.zero_le _,Nat.le_refl _,by omega,rfl,rfl,rfl,rfl,Nat.le_refl _,R0,HEQ⟩
 case round=>
  obtain ⟨i,q,m,acc,hi,hqi,him,rfl,rfl,rfl,rfl,hacc,HS,HE⟩:=hrel;obtain ⟨cA,cC,rfl,-,-,-⟩:=HS.out.1.len;go_wp2_with fail;go_loopw [6] (fun b wr2=>∃jx k:Nat,i<=jx/\jx<=s.size/\b=.int .i64 (jx:Int)/\wr2=wr.drewN k/\Hid (skip (Ad s) s.size i false=skip (Ad s) s.size jx false)) (fun b _=>s.size-(intOf b).toNat)
  case atStart=>exact ⟨i,0,Nat.le_refl _,hi,rfl,rfl,Aa rfl⟩
  case round=>
   obtain ⟨jx,k,hij,hj,rfl,rfl,HK⟩:=hrel;by_cases hjn:jx<s.size
   · have hbe:=AE s jx hjn;have hlt:=BN s jx;have h5:=Uh hlt;have hc:=HCL.out jx;by_cases hb:TR (Ad s jx)=true
     · have hcl:Bi (Ad s jx)=5:=of_decide_eq_true (h5.trans hb);rw[hcl,hbe]at hc;have hst:=Ed (Ad s) false hjn;by_cases h35:Ad s jx=35
       · have G35:=Aa (show ((s[jx]'hjn).toNat:Int)=35 by omega);have HT:=Aa (HK.out.trans (show skip (Ad s) s.size jx false=skip (Ad s) s.size jx true by
           rw[hst,Ed (Ad s) true hjn,if_neg (by omega),if_pos h35,if_neg (by omega),if_pos h35]))
         have HH:=Aa h35;clear hbe hlt h5 hb hcl hst h35;go_wp2_with fail;refine (hc _).mono ?_;rintro e w1 ⟨rfl,k1,rfl⟩;clear hc;have g35:=G35.out;go_wp2_with fail;go_loopw [6] (fun b wr3=>∃q3:Nat,jx<=q3/\q3<=s.size/\b=.int .i64 (q3:Int)/\wr3=wr.drewN (k+k1)/\Hid (skip (Ad s) s.size i false=skip (Ad s) s.size q3 true)/\Hid (q3=jx->Ad s q3=35)) (fun b _=>s.size-(intOf b).toNat)
         case atStart=>exact ⟨jx,Nat.le_refl _,hj,rfl,rfl,HT,Aa (fun _=>HH.out)⟩
         case round=>
           obtain ⟨q3,hjq,hq3,rfl,rfl,HK3,HJ⟩:=hrel;by_cases hqn:q3<s.size
           · have hbe:=AE s q3 hqn;have hst:=Ed (Ad s) true hqn;by_cases h10:Ad s q3=10
             · have hne:q3≠jx:=fun h=>by have:=HJ.out h;omega
               have b10:(((s[q3]'hqn).toNat:Int) != 10)=false:=(by simp;omega);have HF:=Aa (HK3.out.trans (show skip (Ad s) s.size q3 true=skip (Ad s) s.size q3 false by rw[hst,Ed (Ad s) false hqn,if_pos h10,if_pos h10]));have hm:jx<q3:=(by omega);clear hbe hst h10 hne;go_wp2_with fail;go_roundw
               case rel=>exact ⟨q3,k+k1,by omega,by omega,by first|rfl|trivial,by first|rfl|trivial,HF⟩
               case measure=>simp[intOf];omega
             · have b10:(((s[q3]'hqn).toNat:Int) != 10)=true:=(by simp;omega);have HF:=Aa (HK3.out.trans (show skip (Ad s) s.size q3 true=skip (Ad s) s.size (q3+1) true by
                 rw[hst,if_neg h10];by_cases h35:Ad s q3=35
                 · rw[if_pos h35]
                 · rw[if_neg h35,if_neg (by simp)]))
               clear hbe hst h10;go_wp2_with fail;go_roundw
               case rel=>exact ⟨q3+1,by omega,by omega,by go_num,by first|rfl|trivial,HF,Aa (fun h=>by omega)⟩
               case measure=>simp[intOf];omega
           · obtain rfl:q3=s.size:=(by omega);have HF:=Aa (HK3.out.trans (show skip (Ad s) s.size s.size true=skip (Ad s) s.size s.size false by rw[Hg,Hg]));clear HK3 HJ;go_wp2_with fail;go_roundw
             case rel=>exact ⟨s.size,k+k1,by omega,Nat.le_refl _,by first|rfl|trivial,by first|rfl|trivial,HF⟩
             case measure=>simp[intOf];omega
       · have g35:¬((s[jx]'hjn).toNat:Int)=35:=(by omega);have HF:=Aa (HK.out.trans (show skip (Ad s) s.size jx false=skip (Ad s) s.size (jx+1) false by
           rw[hst];rcases Qn hb with h|h|h|h
           · rw[if_neg (by omega),if_neg (by omega),if_neg (by omega)]
           · rw[if_neg (by omega),if_neg (by omega),if_neg (by omega)]
           · rw[if_pos h]
           · exact absurd h h35))
         clear hbe hlt h5 hb hcl hst h35;go_wp2_with fail;refine (hc _).mono ?_;rintro e w1 ⟨rfl,k1,rfl⟩;clear hc;go_wp2_with fail;go_roundw
         case rel=>exact ⟨jx+1,k+k1,by omega,by omega,by go_num,by first|rfl|trivial,HF⟩
         case measure=>simp[intOf];omega
     · have hbf:TR (Ad s jx)=false:=(by simpa using hb);have hcl:¬Bi (Ad s jx)=5:=fun h=>by rw[hbf,decide_eq_true h]at h5;cases h5
       have HF:=Aa (HK.out.trans (Qo hjn hbf));have hcz:((Bi (Ad s jx):Nat):Int)≠5:=(by omega);have hc':=hc (wr.drewN k);rw[hbe]at hc';have HBE:=Aa hbe;have HBF:=Aa hbf;rw[hbe]at hcz;generalize hzz:Bi (s[jx]'hjn).toNat=z at *;have bz:((z:Int)==5)=false:=(by simpa using hcz);clear hbe hlt h5 hb hcl hbf hc hcz HK;go_wp2_with fail;refine hc'.mono ?_;rintro e w1 ⟨rfl,k1,rfl⟩;clear hc';have RS2:=Aa (HS.out.next (Ai wr (k+k1)));clear HS;go_wp2_with fail
       go_loopw [7,8,9] (fun c d e wr4=>∃q4:Nat,q4<=jx/\c=.int .i64 ((Au (Ad s) q4).1:Nat)/\d=.int .i64 ((Au (Ad s) q4).2:Nat)/\e=.int .i64 (q4:Int)/\wr4=wr.drewN (k+k1)) (fun _ _ e _=>jx-(intOf e).toNat)
       case atStart=>exact ⟨q,by omega,rfl,rfl,rfl,by first|rfl|trivial⟩
       case round=>
         obtain ⟨q4,hq4,rfl,rfl,rfl,rfl⟩:=hrel;by_cases hq4j:q4<jx
         · have hq4n:q4<s.size:=(by omega);have hbe:=AE s q4 hq4n;have hp4:=Fg (Ad s) q4;have hps:Au (Ad s) (q4+1)=Cr (Au (Ad s) q4) (Ad s q4):=rfl;by_cases h10:Ad s q4=10
           · have g10:((s[q4]'hq4n).toNat:Int)=10:=(by omega);rw[Cr,if_pos h10]at hps;have HP:=Aa hps;have hl1:(Au (Ad s) q4).1<=1000000:=(by omega);clear hps hp4 hbe h10;generalize Au (Ad s) q4=p4 at *;go_wp2_with fail;go_roundw
             case rel=>exact ⟨q4+1,by omega,by rw[HP.out];go_num,by rw[HP.out];rfl,by go_num,by first|rfl|trivial⟩
             case measure=>simp[intOf];omega
           · have g10:¬((s[q4]'hq4n).toNat:Int)=10:=(by omega);rw[Cr,if_neg h10]at hps;have HP:=Aa hps;have hl1:(Au (Ad s) q4).2<=1000000:=(by omega);clear hps hp4 hbe h10;generalize Au (Ad s) q4=p4 at *;go_wp2_with fail;go_roundw
             case rel=>exact ⟨q4+1,by omega,by rw[HP.out],by rw[HP.out];go_num,by go_num,by first|rfl|trivial⟩
             case measure=>simp[intOf];omega
         · obtain rfl:jx=q4:=(by omega);generalize wr.drewN (k+k1)=W2 at *;clear bz;obtain ⟨p,hp⟩:∃p,Au (Ad s) jx=p:=⟨_,rfl⟩;rw[hp];have HPJ:=Aa hp;clear hp;have hlt:=BN s jx;have RS3:=Aa (RS2.out.next (Ae W2 (.cells #[.int .i64 (p.1:Nat),.int .i64 (p.2:Nat)] 25)));have X3:=Aa (show EY (W2.alloc (.cells #[.int .i64 (p.1:Nat),.int .i64 (p.2:Nat)] 25)) W2.heap.size (.int .i64 (p.1:Nat)) (.int .i64 (p.2:Nat)) from heap_alloc_new W2 _)
           have bj:((jx:Int)==(s.size:Int))=false:=(by rw[beq_eq_false_iff_ne];omega);have hc:=fun W=>HCL.out jx W
           rw[HBE.out]at hc;obtain ⟨cz,hcz⟩:∃cz,Bi (s[jx]'hjn).toNat=cz:=⟨_,rfl⟩;rw[hcz]at hc;have HCZ:=Aa hcz;clear hcz;go_wp2_with fail;refine (hc _).mono ?_;rintro e w3 ⟨rfl,k3,rfl⟩;have RS4:=Aa (RS3.out.next (Ai _ k3));have X4:=Aa (X3.out.next (Ai _ k3));clear hc RS3 X3 RS2;generalize (W2.alloc (.cells #[.int .i64 (p.1:Nat),.int .i64 (p.2:Nat)] 25)).drewN k3=W4 at *
           have HMEET:=Aa (fun (wx:World) (kk E:Nat) (h1:jx<E/\E<=s.size) (h2:((cz==1&&kk==1) || (cz==2&&kk==3) || (cz==4&&kk==4) || (cz==6&&kk==2))=true) (h3:Hid (SA s w0 wx (.slice cA acc.length cC) acc)) (h4:Hid (EY wx W2.heap.size (.int .i64 (p.1:Nat)) (.int .i64 (p.2:Nat)))) (h5:Hid (Ap (Ad s) s.size=C7 (Ad s) s.size (m-1) E (acc++[(kk,jx,E)])))=>(⟨E,kk,rfl,Aa h1,Aa h2,h3,h4,h5⟩:∃E' kk':Nat,(.int .i64 (E:Int):Value)=.int .i64 (E':Int)/\Hid (jx<E'/\E'<=s.size)/\Hid (((cz==1&&kk'==1) || (cz==2&&kk'==3) || (cz==4&&kk'==4) || (cz==6&&kk'==2))=true)/\Hid (SA s w0 wx (.slice cA acc.length cC) acc)/\Hid (EY wx W2.heap.size (.int .i64 (p.1:Nat)) (.int .i64 (p.2:Nat)))/\Hid (Ap (Ad s) s.size=C7 (Ad s) s.size (m-1) E' (acc++[(kk',jx,E')]))))
           go_upto_block 8 with fail;go_cut [6] from 82 to 160 (fun b wx=>∃E kk:Nat,b=.int .i64 (E:Int)/\Hid (jx<E/\E<=s.size)/\Hid (((cz==1&&kk==1) || (cz==2&&kk==3) || (cz==4&&kk==4) || (cz==6&&kk==2))=true)/\Hid (SA s w0 wx (.slice cA acc.length cC) acc)/\Hid (EY wx W2.heap.size (.int .i64 (p.1:Nat)) (.int .i64 (p.2:Nat)))/\Hid (Ap (Ad s) s.size=C7 (Ad s) s.size (m-1) E (acc++[(kk,jx,E)])))
           case first=>
             by_cases c1:Cd (Ad s jx)=true
             · have HV:=Aa (show cz=1 from by have:=Ui c1;rw[HBE.out,HCZ.out]at this;exact this);have bz0:((cz:Int)==0)=false:=(by rw[HV.out];rfl);have bz3:((cz:Int)==3)=false:=(by rw[HV.out];rfl);have bz1:((cz:Int)==1)=true:=(by rw[HV.out];rfl);have bz2:((cz:Int)==2)=false:=(by rw[HV.out];rfl);have bz6:((cz:Int)==6)=false:=(by rw[HV.out];rfl);have HKD:=Aa (show AG (Ad s jx)=1 by unfold AG;rw[if_pos c1])
               have HWJ:=Aa (show CX (Ad s jx)=true by unfold CX;rw[c1];rfl);have HC1:=Aa c1;clear c1 HBE HBF hlt;go_wp2_with fail;go_loopw [6] (fun b wr5=>∃q5 k5:Nat,jx+1<=q5/\q5<=s.size/\b=.int .i64 (q5:Int)/\wr5=W4.drewN k5/\Hid (stop CX (Ad s) s.size jx=stop CX (Ad s) s.size q5)) (fun b _=>s.size-(intOf b).toNat)
               case atStart=>exact ⟨jx+1,0,Nat.le_refl _,by omega,by go_num,by first|rfl|trivial,Aa (by rw[BS _ _ hjn,if_pos HWJ.out])⟩
               case round=>
                 obtain ⟨q5,k5,hjq,hq5,rfl,rfl,HT5⟩:=hrel;by_cases hqn:q5<s.size
                 · have hbe5:=AE s q5 hqn;have hc5:=fun W=>HCL.out q5 W
                   have hst:=BS CX (Ad s) hqn;rw[<-LZ (BN s q5)]at hst;unfold Fh at hst;generalize Bi (Ad s q5)=z at *;rw[hbe5]at hc5;clear hbe5;by_cases hz1:1<=z
                   · have g1:(1:Int)<=(z:Int):=(by omega);rw[decide_eq_true hz1]at hst;by_cases hz3:z<=3
                     · have g3:(z:Int)<=3:=(by omega);rw[decide_eq_true hz3]at hst;have HF5:=Aa (HT5.out.trans (hst.trans (if_pos rfl)));clear hst hz1 hz3 HT5;go_wp2_with fail;refine (hc5 _).mono ?_;rintro e w1 ⟨rfl,k6,rfl⟩;go_wp2_with fail;refine (hc5 _).mono ?_;rintro e w1 ⟨rfl,k7,rfl⟩;go_wp2_with fail;go_roundw
                       case rel=>exact ⟨q5+1,k5+k6+k7,by omega,by omega,by go_num,by first|rfl|trivial,HF5⟩
                       case measure=>simp[intOf];omega
                     · have g3:(3:Int)<(z:Int):=(by omega);have b3:decide ((z:Int)<=3)=false:=decide_eq_false (by omega);rw[decide_eq_false hz3]at hst;have HST:=Aa (HT5.out.trans (hst.trans (if_neg (by decide))));clear hst hz1 hz3 HT5;have RS50:=Aa (RS4.out.next (Ai W4 k5));have X50:=Aa (X4.out.next (Ai W4 k5));clear RS4 X4;generalize W4.drewN k5=W50 at *;go_wp2_with fail;refine (hc5 _).mono ?_;rintro e w9 ⟨rfl,ka0,rfl⟩
                       have RS51:=Aa (RS50.out.next (Ai _ ka0));have X51:=Aa (X50.out.next (Ai _ ka0));clear RS50 X50;generalize W50.drewN ka0=W51 at *;go_wp2_with fail;refine (hc5 _).mono ?_;rintro e w9 ⟨rfl,ka1,rfl⟩;have RS52:=Aa (RS51.out.next (Ai _ ka1));have X52:=Aa (X51.out.next (Ai _ ka1));clear RS51 X51;generalize W51.drewN ka1=W52 at *;clear hc5;go_upto_region 31 with fail;have RS6:=RS52;have X6:=X52;clear RS52 X52;generalize W52=W6 at *
                       by_cases h20:20<q5-jx
                       · have HGE:=Aa (HE.out.trans (Gl (er:=2) HF.out hjn (by omega) (by unfold AQ;rw[if_pos HC1.out,HST.out,if_pos h20]) (by decide)));have g20:(20:Int)<(q5:Int)-(jx:Int):=(by omega);clear HE HF HST HEQ;have HPQ:=Aa (show ∀w',Below w0.heap.size w0 w'->Cb s w0 (.returned (.tuple #[.slice none 0 0,.agg #[.int .i64 (p.1:Nat),.int .i64 (p.2:Nat)],.int .i64 2])) w' from by
                           intro w' h2;refine ⟨.slice none 0 0,?_,h2,?_⟩
                           · unfold AU;rw[HGE.out];dsimp only;rw[if_neg (by decide),HPJ.out];rfl
                           · rw[HGE.out];exact Am.nil _ _ _ _)
                         have u0:=X6.out.cells.1;have u1:=X6.out.cells.2;go_wp2_with fail;go_still_tail 2,(by kernel_rfl)
                         have x7:W6.drew.heap[w0.heap.size]?=some (.cells #[.int .i64 0,.int .i64 0] 25 (0,0)):=RS6.out.2.1;have B7:=Aa (show Below w0.heap.size w0 W6.drew from RS6.out.2.2.next (Ai W6 1));change wpList _ _ _ _ _ W6.drew;generalize W6.drew=W7 at *
                         go_wp2_with (with_reducible refine wpList_store_row rfl 25 _ _ rfl w0.heap.size #[.int .i64 (p.1:Nat),.int .i64 (p.2:Nat)] rfl rfl 25 #[.int .i64 0,.int .i64 0] x7 (by kernel_rfl) rfl (by simp[Value.oneCell']) ?_);refine Av (g:=w0.heap.size) (x:=.int .i64 (p.1:Nat)) (y:=.int .i64 (p.2:Nat)) rfl rfl rfl rfl (setRow_heap _ _ _ _ _ _ x7) rfl ?_;exact HPQ.out _ (B7.out.trans ((AP _ _ _).below B7.out.size (Nat.le_refl _)))
                       · have HGO:=Aa (HE.out.trans (EC (E:=q5) (kk:=1) HF.out hjn (by omega) (by unfold AQ;rw[if_pos HC1.out,HST.out,if_neg h20]) (by unfold BI;rw[if_pos HC1.out,HST.out]) HKD.out));have g20:¬(20:Int)<(q5:Int)-(jx:Int):=(by omega);clear HE HF HST HEQ;have hjE:jx<q5:=(by omega);have hEn:q5<=s.size:=(by omega);have HREL:=Aa (HMEET.out W6 1 q5 ⟨hjE,hEn⟩ (by rw[HV.out];decide) RS6 X6 HGO);clear HMEET RS6 X6 HGO;go_wp2_with fail;go_meet
                         case rel=>exact HREL.out
                   · have g1:(z:Int)<1:=(by omega);have b1:decide ((1:Int)<=(z:Int))=false:=decide_eq_false (by omega);rw[decide_eq_false hz1]at hst;have HST:=Aa (HT5.out.trans (hst.trans (if_neg (by rw[Bool.false_and];decide))));clear hst hz1 HT5;have RS50:=Aa (RS4.out.next (Ai W4 k5));have X50:=Aa (X4.out.next (Ai W4 k5));clear RS4 X4;generalize W4.drewN k5=W50 at *;go_wp2_with fail;refine (hc5 _).mono ?_;rintro e w9 ⟨rfl,ka0,rfl⟩
                     have RS51:=Aa (RS50.out.next (Ai _ ka0));have X51:=Aa (X50.out.next (Ai _ ka0));clear RS50 X50;generalize W50.drewN ka0=W51 at *;clear hc5;go_upto_region 31 with fail;have RS6:=RS51;have X6:=X51;clear RS51 X51;generalize W51=W6 at *;by_cases h20:20<q5-jx
                     · have HGE:=Aa (HE.out.trans (Gl (er:=2) HF.out hjn (by omega) (by unfold AQ;rw[if_pos HC1.out,HST.out,if_pos h20]) (by decide)));have g20:(20:Int)<(q5:Int)-(jx:Int):=(by omega);clear HE HF HST HEQ;have HPQ:=Aa (show ∀w',Below w0.heap.size w0 w'->Cb s w0 (.returned (.tuple #[.slice none 0 0,.agg #[.int .i64 (p.1:Nat),.int .i64 (p.2:Nat)],.int .i64 2])) w' from by
                         intro w' h2;refine ⟨.slice none 0 0,?_,h2,?_⟩
                         · unfold AU;rw[HGE.out];dsimp only;rw[if_neg (by decide),HPJ.out];rfl
                         · rw[HGE.out];exact Am.nil _ _ _ _)
                       have u0:=X6.out.cells.1;have u1:=X6.out.cells.2;go_wp2_with fail;go_still_tail 2,(by kernel_rfl)
                       have x7:W6.drew.heap[w0.heap.size]?=some (.cells #[.int .i64 0,.int .i64 0] 25 (0,0)):=RS6.out.2.1;have B7:=Aa (show Below w0.heap.size w0 W6.drew from RS6.out.2.2.next (Ai W6 1));change wpList _ _ _ _ _ W6.drew;generalize W6.drew=W7 at *
                       go_wp2_with (with_reducible refine wpList_store_row rfl 25 _ _ rfl w0.heap.size #[.int .i64 (p.1:Nat),.int .i64 (p.2:Nat)] rfl rfl 25 #[.int .i64 0,.int .i64 0] x7 (by kernel_rfl) rfl (by simp[Value.oneCell']) ?_);refine Av (g:=w0.heap.size) (x:=.int .i64 (p.1:Nat)) (y:=.int .i64 (p.2:Nat)) rfl rfl rfl rfl (setRow_heap _ _ _ _ _ _ x7) rfl ?_;exact HPQ.out _ (B7.out.trans ((AP _ _ _).below B7.out.size (Nat.le_refl _)))
                     · have HGO:=Aa (HE.out.trans (EC (E:=q5) (kk:=1) HF.out hjn (by omega) (by unfold AQ;rw[if_pos HC1.out,HST.out,if_neg h20]) (by unfold BI;rw[if_pos HC1.out,HST.out]) HKD.out));have g20:¬(20:Int)<(q5:Int)-(jx:Int):=(by omega);clear HE HF HST HEQ;have hjE:jx<q5:=(by omega);have hEn:q5<=s.size:=(by omega);have HREL:=Aa (HMEET.out W6 1 q5 ⟨hjE,hEn⟩ (by rw[HV.out];decide) RS6 X6 HGO);clear HMEET RS6 X6 HGO;go_wp2_with fail;go_meet
                       case rel=>exact HREL.out
                 · obtain rfl:q5=s.size:=(by omega);have HST:=Aa (HT5.out.trans (Ff _ _ _));clear HT5;have RS50:=Aa (RS4.out.next (Ai W4 k5));have X50:=Aa (X4.out.next (Ai W4 k5));clear RS4 X4;generalize W4.drewN k5=W50 at *;go_upto_region 31 with fail;have RS6:=RS50;have X6:=X50;clear RS50 X50;generalize W50=W6 at *;by_cases h20:20<s.size-jx
                   · have HGE:=Aa (HE.out.trans (Gl (er:=2) HF.out hjn (by omega) (by unfold AQ;rw[if_pos HC1.out,HST.out,if_pos h20]) (by decide)));have g20:(20:Int)<(s.size:Int)-(jx:Int):=(by omega);clear HE HF HST HEQ;have HPQ:=Aa (show ∀w',Below w0.heap.size w0 w'->Cb s w0 (.returned (.tuple #[.slice none 0 0,.agg #[.int .i64 (p.1:Nat),.int .i64 (p.2:Nat)],.int .i64 2])) w' from by
                       intro w' h2;refine ⟨.slice none 0 0,?_,h2,?_⟩
                       · unfold AU;rw[HGE.out];dsimp only;rw[if_neg (by decide),HPJ.out];rfl
                       · rw[HGE.out];exact Am.nil _ _ _ _)
                     have u0:=X6.out.cells.1;have u1:=X6.out.cells.2;go_wp2_with fail;go_still_tail 2,(by kernel_rfl)
                     have x7:W6.drew.heap[w0.heap.size]?=some (.cells #[.int .i64 0,.int .i64 0] 25 (0,0)):=RS6.out.2.1;have B7:=Aa (show Below w0.heap.size w0 W6.drew from RS6.out.2.2.next (Ai W6 1));change wpList _ _ _ _ _ W6.drew;generalize W6.drew=W7 at *
                     go_wp2_with (with_reducible refine wpList_store_row rfl 25 _ _ rfl w0.heap.size #[.int .i64 (p.1:Nat),.int .i64 (p.2:Nat)] rfl rfl 25 #[.int .i64 0,.int .i64 0] x7 (by kernel_rfl) rfl (by simp[Value.oneCell']) ?_);refine Av (g:=w0.heap.size) (x:=.int .i64 (p.1:Nat)) (y:=.int .i64 (p.2:Nat)) rfl rfl rfl rfl (setRow_heap _ _ _ _ _ _ x7) rfl ?_;exact HPQ.out _ (B7.out.trans ((AP _ _ _).below B7.out.size (Nat.le_refl _)))
                   · have HGO:=Aa (HE.out.trans (EC (E:=s.size) (kk:=1) HF.out hjn (by omega) (by unfold AQ;rw[if_pos HC1.out,HST.out,if_neg h20]) (by unfold BI;rw[if_pos HC1.out,HST.out]) HKD.out));have g20:¬(20:Int)<(s.size:Int)-(jx:Int):=(by omega);clear HE HF HST HEQ;have hjE:jx<s.size:=(by omega);have hEn:s.size<=s.size:=(by omega);have HREL:=Aa (HMEET.out W6 1 s.size ⟨hjE,hEn⟩ (by rw[HV.out];decide) RS6 X6 HGO);clear HMEET RS6 X6 HGO;go_wp2_with fail
                     go_meet
                     case rel=>exact HREL.out
             by_cases c2:Be (Ad s jx)=true
             · have HV:=Aa (show cz=2 from by have:=Uj hlt c2;rw[HBE.out,HCZ.out]at this;exact this);have bz0:((cz:Int)==0)=false:=(by rw[HV.out];rfl);have bz3:((cz:Int)==3)=false:=(by rw[HV.out];rfl);have bz1:((cz:Int)==1)=false:=(by rw[HV.out];rfl);have bz2:((cz:Int)==2)=true:=(by rw[HV.out];rfl);have bz6:((cz:Int)==6)=false:=(by rw[HV.out];rfl);have HKD:=Aa (show AG (Ad s jx)=3 by unfold AG;rw[if_neg c1,if_pos c2]);have HWJ:=Aa c2;have HC1:=Aa c1
               clear c1 c2 HBF hlt;go_wp2_with fail;go_loopw [6] (fun b wr5=>∃q5 k5:Nat,jx+1<=q5/\q5<=s.size/\b=.int .i64 (q5:Int)/\wr5=W4.drewN k5/\Hid (stop Be (Ad s) s.size jx=stop Be (Ad s) s.size q5)) (fun b _=>s.size-(intOf b).toNat)
               case atStart=>exact ⟨jx+1,0,Nat.le_refl _,by omega,by go_num,by first|rfl|trivial,Aa (by rw[BS _ _ hjn,if_pos HWJ.out])⟩
               case round=>
                 obtain ⟨q5,k5,hjq,hq5,rfl,rfl,HT5⟩:=hrel;by_cases hqn:q5<s.size
                 · have hbe5:=AE s q5 hqn;have hc5:=fun W=>HCL.out q5 W
                   have hst:=BS Be (Ad s) hqn;rw[<-KW (BN s q5)]at hst;unfold P4 at hst;generalize Bi (Ad s q5)=z at *;rw[hbe5]at hc5;clear hbe5;by_cases hz2:z=2
                   · subst hz2;have HF5:=Aa (HT5.out.trans (hst.trans (if_pos (decide_eq_true rfl))));clear hst HT5;go_wp2_with fail;refine (hc5 _).mono ?_;rintro e w1 ⟨rfl,k6,rfl⟩;go_wp2_with fail;go_roundw
                     case rel=>exact ⟨q5+1,k5+k6,by omega,by omega,by go_num,by first|rfl|trivial,HF5⟩
                     case measure=>simp[intOf];omega
                   · have bz:((z:Int)==2)=false:=(by rw[beq_eq_false_iff_ne];omega);rw[decide_eq_false hz2]at hst;have HST:=Aa (HT5.out.trans (hst.trans (if_neg (by decide))));clear hst hz2 HT5;have RS50:=Aa (RS4.out.next (Ai W4 k5));have X50:=Aa (X4.out.next (Ai W4 k5));clear RS4 X4;generalize W4.drewN k5=W50 at *;go_wp2_with fail;refine (hc5 _).mono ?_;rintro e w9 ⟨rfl,ka0,rfl⟩;have RS51:=Aa (RS50.out.next (Ai _ ka0))
                     have X51:=Aa (X50.out.next (Ai _ ka0));clear RS50 X50;generalize W50.drewN ka0=W51 at *;clear hc5;go_upto_region 36 with fail;have RS6:=RS51;have X6:=X51;clear RS51 X51;generalize W51=W6 at *;by_cases h60:60<q5-jx
                     · have HGE:=Aa (HE.out.trans (Gl (er:=2) HF.out hjn (by omega) (by unfold AQ;rw[if_neg HC1.out,if_pos HWJ.out,HST.out,if_pos h60]) (by decide)));have g60:(60:Int)<(q5:Int)-(jx:Int):=(by omega);clear HE HF HST HEQ HBE;have HPQ:=Aa (show ∀w',Below w0.heap.size w0 w'->Cb s w0 (.returned (.tuple #[.slice none 0 0,.agg #[.int .i64 (p.1:Nat),.int .i64 (p.2:Nat)],.int .i64 2])) w' from by
                         intro w' h2;refine ⟨.slice none 0 0,?_,h2,?_⟩
                         · unfold AU;rw[HGE.out];dsimp only;rw[if_neg (by decide),HPJ.out];rfl
                         · rw[HGE.out];exact Am.nil _ _ _ _)
                       have u0:=X6.out.cells.1;have u1:=X6.out.cells.2;go_wp2_with fail;go_still_tail 2,(by kernel_rfl)
                       have x7:W6.drew.heap[w0.heap.size]?=some (.cells #[.int .i64 0,.int .i64 0] 25 (0,0)):=RS6.out.2.1;have B7:=Aa (show Below w0.heap.size w0 W6.drew from RS6.out.2.2.next (Ai W6 1));change wpList _ _ _ _ _ W6.drew;generalize W6.drew=W7 at *
                       go_wp2_with (with_reducible refine wpList_store_row rfl 25 _ _ rfl w0.heap.size #[.int .i64 (p.1:Nat),.int .i64 (p.2:Nat)] rfl rfl 25 #[.int .i64 0,.int .i64 0] x7 (by kernel_rfl) rfl (by simp[Value.oneCell']) ?_);refine Av (g:=w0.heap.size) (x:=.int .i64 (p.1:Nat)) (y:=.int .i64 (p.2:Nat)) rfl rfl rfl rfl (setRow_heap _ _ _ _ _ _ x7) rfl ?_;exact HPQ.out _ (B7.out.trans ((AP _ _ _).below B7.out.size (Nat.le_refl _)))
                     · have g60:¬(60:Int)<(q5:Int)-(jx:Int):=(by omega);have hjE:jx<q5:=(by omega);have hEn:q5<=s.size:=(by omega);by_cases h1:1<q5-jx
                       · have g1:(1:Int)<(q5:Int)-(jx:Int):=(by omega);by_cases h48:Ad s jx=48
                         · have HGE:=Aa (HE.out.trans (Gl (er:=20) HF.out hjn (by omega) (by unfold AQ;rw[if_neg HC1.out,if_pos HWJ.out,HST.out,if_neg h60,if_pos ⟨h1,h48⟩]) (by decide)));have b48:(((s[jx]'hjn).toNat:Int)==48)=true:=(by rw[beq_iff_eq];have:=HBE.out;omega);clear HE HF HST HEQ HBE h48
                           have HPQ:=Aa (show ∀w',Below w0.heap.size w0 w'->Cb s w0 (.returned (.tuple #[.slice none 0 0,.agg #[.int .i64 (p.1:Nat),.int .i64 (p.2:Nat)],.int .i64 20])) w' from by
                             intro w' h2;refine ⟨.slice none 0 0,?_,h2,?_⟩
                             · unfold AU;rw[HGE.out];dsimp only;rw[if_neg (by decide),HPJ.out];rfl
                             · rw[HGE.out];exact Am.nil _ _ _ _)
                           have u0:=X6.out.cells.1;have u1:=X6.out.cells.2;go_wp2_with fail;go_still_tail 2,(by kernel_rfl)
                           have x7:W6.drew.heap[w0.heap.size]?=some (.cells #[.int .i64 0,.int .i64 0] 25 (0,0)):=RS6.out.2.1;have B7:=Aa (show Below w0.heap.size w0 W6.drew from RS6.out.2.2.next (Ai W6 1));change wpList _ _ _ _ _ W6.drew;generalize W6.drew=W7 at *
                           go_wp2_with (with_reducible refine wpList_store_row rfl 25 _ _ rfl w0.heap.size #[.int .i64 (p.1:Nat),.int .i64 (p.2:Nat)] rfl rfl 25 #[.int .i64 0,.int .i64 0] x7 (by kernel_rfl) rfl (by simp[Value.oneCell']) ?_);refine Av (g:=w0.heap.size) (x:=.int .i64 (p.1:Nat)) (y:=.int .i64 (p.2:Nat)) rfl rfl rfl rfl (setRow_heap _ _ _ _ _ _ x7) rfl ?_;exact HPQ.out _ (B7.out.trans ((AP _ _ _).below B7.out.size (Nat.le_refl _)))
                         · have HGO:=Aa (HE.out.trans (EC (E:=q5) (kk:=3) HF.out hjn (by omega) (by unfold AQ;rw[if_neg HC1.out,if_pos HWJ.out,HST.out,if_neg h60,if_neg (fun hh=>h48 hh.2)]) (by unfold BI;rw[if_neg HC1.out,if_pos HWJ.out,HST.out]) HKD.out));have b48:(((s[jx]'hjn).toNat:Int)==48)=false:=(by rw[beq_eq_false_iff_ne];have:=HBE.out;omega);clear HE HF HST HEQ HBE h48
                           have HREL:=Aa (HMEET.out W6 3 q5 ⟨hjE,hEn⟩ (by rw[HV.out];decide) RS6 X6 HGO);clear HMEET RS6 X6 HGO;go_wp2_with fail;go_meet
                           case rel=>exact HREL.out
                       · have HGO:=Aa (HE.out.trans (EC (E:=q5) (kk:=3) HF.out hjn (by omega) (by unfold AQ;rw[if_neg HC1.out,if_pos HWJ.out,HST.out,if_neg h60,if_neg (fun hh=>h1 hh.1)]) (by unfold BI;rw[if_neg HC1.out,if_pos HWJ.out,HST.out]) HKD.out));have g1:¬(1:Int)<(q5:Int)-(jx:Int):=(by omega);clear HE HF HST HEQ HBE;have HREL:=Aa (HMEET.out W6 3 q5 ⟨hjE,hEn⟩ (by rw[HV.out];decide) RS6 X6 HGO);clear HMEET RS6 X6 HGO;go_wp2_with fail;go_meet
                         case rel=>exact HREL.out
                 · obtain rfl:q5=s.size:=(by omega);have HST:=Aa (HT5.out.trans (Ff _ _ _));clear HT5;have RS50:=Aa (RS4.out.next (Ai W4 k5));have X50:=Aa (X4.out.next (Ai W4 k5));clear RS4 X4;generalize W4.drewN k5=W50 at *;go_upto_region 36 with fail;have RS6:=RS50;have X6:=X50;clear RS50 X50;generalize W50=W6 at *;by_cases h60:60<s.size-jx
                   · have HGE:=Aa (HE.out.trans (Gl (er:=2) HF.out hjn (by omega) (by unfold AQ;rw[if_neg HC1.out,if_pos HWJ.out,HST.out,if_pos h60]) (by decide)));have g60:(60:Int)<(s.size:Int)-(jx:Int):=(by omega);clear HE HF HST HEQ HBE;have HPQ:=Aa (show ∀w',Below w0.heap.size w0 w'->Cb s w0 (.returned (.tuple #[.slice none 0 0,.agg #[.int .i64 (p.1:Nat),.int .i64 (p.2:Nat)],.int .i64 2])) w' from by
                       intro w' h2;refine ⟨.slice none 0 0,?_,h2,?_⟩
                       · unfold AU;rw[HGE.out];dsimp only;rw[if_neg (by decide),HPJ.out];rfl
                       · rw[HGE.out];exact Am.nil _ _ _ _)
                     have u0:=X6.out.cells.1;have u1:=X6.out.cells.2;go_wp2_with fail;go_still_tail 2,(by kernel_rfl)
                     have x7:W6.drew.heap[w0.heap.size]?=some (.cells #[.int .i64 0,.int .i64 0] 25 (0,0)):=RS6.out.2.1;have B7:=Aa (show Below w0.heap.size w0 W6.drew from RS6.out.2.2.next (Ai W6 1));change wpList _ _ _ _ _ W6.drew;generalize W6.drew=W7 at *
                     go_wp2_with (with_reducible refine wpList_store_row rfl 25 _ _ rfl w0.heap.size #[.int .i64 (p.1:Nat),.int .i64 (p.2:Nat)] rfl rfl 25 #[.int .i64 0,.int .i64 0] x7 (by kernel_rfl) rfl (by simp[Value.oneCell']) ?_);refine Av (g:=w0.heap.size) (x:=.int .i64 (p.1:Nat)) (y:=.int .i64 (p.2:Nat)) rfl rfl rfl rfl (setRow_heap _ _ _ _ _ _ x7) rfl ?_;exact HPQ.out _ (B7.out.trans ((AP _ _ _).below B7.out.size (Nat.le_refl _)))
                   · have g60:¬(60:Int)<(s.size:Int)-(jx:Int):=(by omega);have hjE:jx<s.size:=(by omega);have hEn:s.size<=s.size:=(by omega);by_cases h1:1<s.size-jx
                     · have g1:(1:Int)<(s.size:Int)-(jx:Int):=(by omega);by_cases h48:Ad s jx=48
                       · have HGE:=Aa (HE.out.trans (Gl (er:=20) HF.out hjn (by omega) (by unfold AQ;rw[if_neg HC1.out,if_pos HWJ.out,HST.out,if_neg h60,if_pos ⟨h1,h48⟩]) (by decide)));have b48:(((s[jx]'hjn).toNat:Int)==48)=true:=(by rw[beq_iff_eq];have:=HBE.out;omega);clear HE HF HST HEQ HBE h48
                         have HPQ:=Aa (show ∀w',Below w0.heap.size w0 w'->Cb s w0 (.returned (.tuple #[.slice none 0 0,.agg #[.int .i64 (p.1:Nat),.int .i64 (p.2:Nat)],.int .i64 20])) w' from by
                           intro w' h2;refine ⟨.slice none 0 0,?_,h2,?_⟩
                           · unfold AU;rw[HGE.out];dsimp only;rw[if_neg (by decide),HPJ.out];rfl
                           · rw[HGE.out];exact Am.nil _ _ _ _)
                         have u0:=X6.out.cells.1;have u1:=X6.out.cells.2;go_wp2_with fail;go_still_tail 2,(by kernel_rfl)
                         have x7:W6.drew.heap[w0.heap.size]?=some (.cells #[.int .i64 0,.int .i64 0] 25 (0,0)):=RS6.out.2.1;have B7:=Aa (show Below w0.heap.size w0 W6.drew from RS6.out.2.2.next (Ai W6 1));change wpList _ _ _ _ _ W6.drew;generalize W6.drew=W7 at *
                         go_wp2_with (with_reducible refine wpList_store_row rfl 25 _ _ rfl w0.heap.size #[.int .i64 (p.1:Nat),.int .i64 (p.2:Nat)] rfl rfl 25 #[.int .i64 0,.int .i64 0] x7 (by kernel_rfl) rfl (by simp[Value.oneCell']) ?_);refine Av (g:=w0.heap.size) (x:=.int .i64 (p.1:Nat)) (y:=.int .i64 (p.2:Nat)) rfl rfl rfl rfl (setRow_heap _ _ _ _ _ _ x7) rfl ?_;exact HPQ.out _ (B7.out.trans ((AP _ _ _).below B7.out.size (Nat.le_refl _)))
                       · have HGO:=Aa (HE.out.trans (EC (E:=s.size) (kk:=3) HF.out hjn (by omega) (by unfold AQ;rw[if_neg HC1.out,if_pos HWJ.out,HST.out,if_neg h60,if_neg (fun hh=>h48 hh.2)]) (by unfold BI;rw[if_neg HC1.out,if_pos HWJ.out,HST.out]) HKD.out));have b48:(((s[jx]'hjn).toNat:Int)==48)=false:=(by rw[beq_eq_false_iff_ne];have:=HBE.out;omega);clear HE HF HST HEQ HBE h48
                         have HREL:=Aa (HMEET.out W6 3 s.size ⟨hjE,hEn⟩ (by rw[HV.out];decide) RS6 X6 HGO);clear HMEET RS6 X6 HGO;go_wp2_with fail;go_meet
                         case rel=>exact HREL.out
                     · have HGO:=Aa (HE.out.trans (EC (E:=s.size) (kk:=3) HF.out hjn (by omega) (by unfold AQ;rw[if_neg HC1.out,if_pos HWJ.out,HST.out,if_neg h60,if_neg (fun hh=>h1 hh.1)]) (by unfold BI;rw[if_neg HC1.out,if_pos HWJ.out,HST.out]) HKD.out));have g1:¬(1:Int)<(s.size:Int)-(jx:Int):=(by omega);clear HE HF HST HEQ HBE;have HREL:=Aa (HMEET.out W6 3 s.size ⟨hjE,hEn⟩ (by rw[HV.out];decide) RS6 X6 HGO);clear HMEET RS6 X6 HGO;go_wp2_with fail
                       go_meet
                       case rel=>exact HREL.out
             by_cases c3:D8 (Ad s jx)=true
             · have HV:=Aa (show cz=4 from by have:=Uk hlt c3;rw[HBE.out,HCZ.out]at this;exact this);have bz0:((cz:Int)==0)=false:=(by rw[HV.out];rfl);have bz3:((cz:Int)==3)=false:=(by rw[HV.out];rfl);have bz1:((cz:Int)==1)=false:=(by rw[HV.out];rfl);have bz2:((cz:Int)==2)=false:=(by rw[HV.out];rfl);have bz6:((cz:Int)==6)=false:=(by rw[HV.out];rfl)
               have HGO:=Aa (HE.out.trans (EC (E:=jx+1) (kk:=4) HF.out hjn (by omega) (by unfold AQ;rw[if_neg c1,if_neg c2,if_pos c3]) (by unfold BI;rw[if_neg c1,if_neg c2,if_pos c3]) (by unfold AG;rw[if_neg c1,if_neg c2,if_pos c3])));clear c1 c2 c3 HBE HBF HE HF HEQ hlt;have RS6:=RS4;have X6:=X4;clear RS4 X4;have hjE:jx<jx+1:=(by omega);have hEn:jx+1<=s.size:=(by omega);generalize W4=W6 at *
               have HREL:=Aa (HMEET.out W6 4 (jx+1) ⟨hjE,hEn⟩ (by rw[HV.out];decide) RS6 X6 HGO);clear HMEET RS6 X6 HGO;go_wp2_with fail;go_meet
               case rel=>exact HREL.out
             by_cases c4:Fe (Ad s jx)=true
             · have HV:=Aa (show cz=6 from by have:=Ul hlt c4;rw[HBE.out,HCZ.out]at this;exact this);have bz0:((cz:Int)==0)=false:=(by rw[HV.out];rfl);have bz3:((cz:Int)==3)=false:=(by rw[HV.out];rfl);have bz1:((cz:Int)==1)=false:=(by rw[HV.out];rfl);have bz2:((cz:Int)==2)=false:=(by rw[HV.out];rfl);have bz6:((cz:Int)==6)=true:=(by rw[HV.out];rfl);by_cases hj2:jx+1<s.size
               · have gj2:(jx:Int)+1<(s.size:Int):=(by omega);have htw:=fun W=>Ug (Ad s jx) (Ad s (jx+1)) (BN _ _) (BN _ _) W
                 by_cases ht:Ft (Ad s jx) (Ad s (jx+1))=true
                 · rw[ht,AE s jx hjn,AE s (jx+1) hj2]at htw;have HTW:=Aa htw;clear htw;have HGO:=Aa (HE.out.trans (EC (E:=(jx+2)) (kk:=2) HF.out hjn (by omega) (by unfold AQ;rw[if_neg c1,if_neg c2,if_neg c3,if_pos c4]) (by unfold BI;rw[if_neg c1,if_neg c2,if_neg c3,if_pos ⟨hj2,ht⟩]) (by unfold AG;rw[if_neg c1,if_neg c2,if_neg c3])));have hjE:jx<(jx+2):=(by omega);have hEn:(jx+2)<=s.size:=(by omega);clear HE HF HEQ HBE HBF;go_upto_region 41 with fail
                   refine AJ (by kernel_rfl) (by kernel_rfl) (by kernel_rfl) (fun w w'=>Below w.heap.size w w') (fun j v w=>match j with|0=>v=.int .i64 ((jx:Int)+1)|1=>v=.string s|2=>v=.int .i64 (s.size:Int)|3=>v=.bool true|4=>v=.bool true|5=>v=.string s|6=>v=.int .i64 (jx:Int)|7=>v=.int .u8 ((s[jx]'hjn).toNat:Int)|8=>v=.string s|9=>v=.int .i64 ((jx:Int)+1)|10=>v=.int .u8 ((s[jx+1]'hj2).toNat:Int)|11=>v=.bool true|12=>v=.bool true|_=>True) (fun _ _ w=>Below W4.heap.size W4 w) ?_ (fun _=>Ai W4 1) ?_ ?_
                   · intro j v w w' hT h;match j,h with
                     |0,h=>exact h
                     |1,h=>exact h
                     |2,h=>exact h
                     |3,h=>exact h
                     |4,h=>exact h
                     |5,h=>exact h
                     |6,h=>exact h
                     |7,h=>exact h
                     |8,h=>exact h
                     |9,h=>exact h
                     |10,h=>exact h
                     |11,h=>exact h
                     |12,h=>exact h
                     |j+13,h=>trivial
                   · refine ⟨?_,?_,?_,?_,?_,?_,?_,?_,?_,?_,?_,?_,?_,trivial⟩
                     · intro listed σ w a hin hout hl hc hp hG hF;refine Ac.none rfl ?_;have e6:a.tmps.getD 6 undef=.int .i64 ((jx:Int)+1):=hout 6 (Af (by kernel_rfl));refine Does.val (.int .i64 ((jx:Int)+1)) (w':=w) ?_ ⟨Below.refl _ _,rfl,hG⟩;simp only[Array.getD_eq_getD_getElem?]at e6;go_simp
                     · intro listed σ w a hin hout hl hc hp hG hF;refine Ac.none rfl ?_;have e0:a.tmps.getD 0 undef=.string s:=hout 0 (Af (by kernel_rfl));refine Does.val (.string s) (w':=w) ?_ ⟨Below.refl _ _,rfl,hG⟩;simp only[Array.getD_eq_getD_getElem?]at e0;go_simp
                     · intro listed σ w a hin hout hl hc hp hG hF;refine Ac.none rfl ?_;have e147:a.tmps.getD 147 undef=.string s:=(hin 1 147 rfl (hp ⟨1,.data⟩ (by simp) rfl)).trans (hF 1 (hp ⟨1,.data⟩ (by simp) rfl));refine Does.val (.int .i64 (s.size:Int)) (w':=w) ?_ ⟨Below.refl _ _,rfl,hG⟩;simp only[Array.getD_eq_getD_getElem?]at e147;go_simp
                     · intro listed σ w a hin hout hl hc hp hG hF;refine Ac.none rfl ?_;have e146:a.tmps.getD 146 undef=.int .i64 ((jx:Int)+1):=(hin 0 146 rfl (hp ⟨0,.data⟩ (by simp) rfl)).trans (hF 0 (hp ⟨0,.data⟩ (by simp) rfl));have e148:a.tmps.getD 148 undef=.int .i64 (s.size:Int):=(hin 2 148 rfl (hp ⟨2,.data⟩ (by simp) rfl)).trans (hF 2 (hp ⟨2,.data⟩ (by simp) rfl));refine Does.val (.bool true) (w':=w) ?_ ⟨Below.refl _ _,rfl,hG⟩
                       simp only[Array.getD_eq_getD_getElem?]at e146 e148;go_simp;(try (intro hh;exfalso;omega))
                       (try (simp;omega))
                       (try omega)
                       (try (rw[dif_pos (show (0:Int)<=(jx:Int)+1 by omega)];rfl))
                     · intro listed σ w a hin hout hl hc hp hG hF;refine Ac.none rfl ?_;have e149:a.tmps.getD 149 undef=.bool true:=(hin 3 149 rfl (hp ⟨3,.data⟩ (by simp) rfl)).trans (hF 3 (hp ⟨3,.data⟩ (by simp) rfl));refine Does.val (.bool true) (w':=w) ?_ ⟨Below.refl _ _,rfl,hG⟩;simp only[Array.getD_eq_getD_getElem?]at e149;go_simp
                     · intro listed σ w a hin hout hl hc hp hG hF;refine Ac.some (d:=150) (b:=true) rfl rfl ((hin 4 150 rfl (hp ⟨4,.guard⟩ (by simp) rfl)).trans (hF 4 (hp ⟨4,.guard⟩ (by simp) rfl))) ?_;refine Or.inl ⟨rfl,?_⟩;have e0:a.tmps.getD 0 undef=.string s:=hout 0 (Af (by kernel_rfl));refine Does.val (.string s) (w':=w) ?_ ⟨Below.refl _ _,rfl,hG⟩;simp only[Array.getD_eq_getD_getElem?]at e0;go_simp
                     · intro listed σ w a hin hout hl hc hp hG hF;refine Ac.some (d:=150) (b:=true) rfl rfl ((hin 4 150 rfl (hp ⟨4,.guard⟩ (by simp) rfl)).trans (hF 4 (hp ⟨4,.guard⟩ (by simp) rfl))) ?_;refine Or.inl ⟨rfl,?_⟩;have e11:a.tmps.getD 11 undef=.int .i64 (jx:Int):=hout 11 (Af (by kernel_rfl));refine Does.val (.int .i64 (jx:Int)) (w':=w) ?_ ⟨Below.refl _ _,rfl,hG⟩;simp only[Array.getD_eq_getD_getElem?]at e11;go_simp
                     · intro listed σ w a hin hout hl hc hp hG hF;refine Ac.some (d:=150) (b:=true) rfl rfl ((hin 4 150 rfl (hp ⟨4,.guard⟩ (by simp) rfl)).trans (hF 4 (hp ⟨4,.guard⟩ (by simp) rfl))) ?_;refine Or.inl ⟨rfl,?_⟩;have e151:a.tmps.getD 151 undef=.string s:=(hin 5 151 rfl (hp ⟨5,.data⟩ (by simp) rfl)).trans (hF 5 (hp ⟨5,.data⟩ (by simp) rfl))
                       have e152:a.tmps.getD 152 undef=.int .i64 (jx:Int):=(hin 6 152 rfl (hp ⟨6,.data⟩ (by simp) rfl)).trans (hF 6 (hp ⟨6,.data⟩ (by simp) rfl));refine Does.val (.int .u8 ((s[jx]'hjn).toNat:Int)) (w':=w) ?_ ⟨Below.refl _ _,rfl,hG⟩;simp only[Array.getD_eq_getD_getElem?]at e151 e152;go_simp;(try (intro hh;exfalso;omega))
                       (try (simp;omega))
                       (try omega)
                       (try (rw[dif_pos (show (0:Int)<=(jx:Int)+1 by omega)];rfl))
                     · intro listed σ w a hin hout hl hc hp hG hF;refine Ac.some (d:=150) (b:=true) rfl rfl ((hin 4 150 rfl (hp ⟨4,.guard⟩ (by simp) rfl)).trans (hF 4 (hp ⟨4,.guard⟩ (by simp) rfl))) ?_;refine Or.inl ⟨rfl,?_⟩;have e0:a.tmps.getD 0 undef=.string s:=hout 0 (Af (by kernel_rfl));refine Does.val (.string s) (w':=w) ?_ ⟨Below.refl _ _,rfl,hG⟩;simp only[Array.getD_eq_getD_getElem?]at e0;go_simp
                     · intro listed σ w a hin hout hl hc hp hG hF;refine Ac.some (d:=150) (b:=true) rfl rfl ((hin 4 150 rfl (hp ⟨4,.guard⟩ (by simp) rfl)).trans (hF 4 (hp ⟨4,.guard⟩ (by simp) rfl))) ?_;refine Or.inl ⟨rfl,?_⟩;have e6:a.tmps.getD 6 undef=.int .i64 ((jx:Int)+1):=hout 6 (Af (by kernel_rfl));refine Does.val (.int .i64 ((jx:Int)+1)) (w':=w) ?_ ⟨Below.refl _ _,rfl,hG⟩;simp only[Array.getD_eq_getD_getElem?]at e6;go_simp
                     · intro listed σ w a hin hout hl hc hp hG hF;refine Ac.some (d:=150) (b:=true) rfl rfl ((hin 4 150 rfl (hp ⟨4,.guard⟩ (by simp) rfl)).trans (hF 4 (hp ⟨4,.guard⟩ (by simp) rfl))) ?_;refine Or.inl ⟨rfl,?_⟩;have e154:a.tmps.getD 154 undef=.string s:=(hin 8 154 rfl (hp ⟨8,.data⟩ (by simp) rfl)).trans (hF 8 (hp ⟨8,.data⟩ (by simp) rfl))
                       have e155:a.tmps.getD 155 undef=.int .i64 ((jx:Int)+1):=(hin 9 155 rfl (hp ⟨9,.data⟩ (by simp) rfl)).trans (hF 9 (hp ⟨9,.data⟩ (by simp) rfl));refine Does.val (.int .u8 ((s[jx+1]'hj2).toNat:Int)) (w':=w) ?_ ⟨Below.refl _ _,rfl,hG⟩;simp only[Array.getD_eq_getD_getElem?]at e154 e155;go_simp;(try (intro hh;exfalso;omega))
                       (try (simp;omega))
                       (try omega)
                       (try (rw[dif_pos (show (0:Int)<=(jx:Int)+1 by omega)];rfl))
                     · intro listed σ w a hin hout hl hc hp hG hF;refine Ac.some (d:=150) (b:=true) rfl rfl ((hin 4 150 rfl (hp ⟨4,.guard⟩ (by simp) rfl)).trans (hF 4 (hp ⟨4,.guard⟩ (by simp) rfl))) ?_;refine Or.inl ⟨rfl,?_⟩;have e153:a.tmps.getD 153 undef=.int .u8 ((s[jx]'hjn).toNat:Int):=(hin 7 153 rfl (hp ⟨7,.data⟩ (by simp) rfl)).trans (hF 7 (hp ⟨7,.data⟩ (by simp) rfl))
                       have e156:a.tmps.getD 156 undef=.int .u8 ((s[jx+1]'hj2).toNat:Int):=(hin 10 156 rfl (hp ⟨10,.data⟩ (by simp) rfl)).trans (hF 10 (hp ⟨10,.data⟩ (by simp) rfl));refine Does.call ?_ (HTW.out w) ?_
                       · go_simp
                       · rintro e w' ⟨rfl,hb⟩;exact ⟨_,rfl,hb,rfl,hG.next hb⟩
                     · intro listed σ w a hin hout hl hc hp hG hF;refine Ac.none rfl ?_;have e150:a.tmps.getD 150 undef=.bool true:=(hin 4 150 rfl (hp ⟨4,.data⟩ (by simp) rfl)).trans (hF 4 (hp ⟨4,.data⟩ (by simp) rfl));have e157:a.tmps.getD 157 undef=.bool true:=(hin 11 157 rfl (hp ⟨11,.data⟩ (by simp) rfl)).trans (hF 11 (hp ⟨11,.data⟩ (by simp) rfl));refine Does.val (.bool true) (w':=w) ?_ ⟨Below.refl _ _,rfl,hG⟩
                       simp only[Array.getD_eq_getD_getElem?]at e150 e157;go_simp
                   · intro listed σ W9 hall hG hF;rw[show mid _ σ listed _=(Act.put (Act.put (Act.put (Act.put (Act.put (Act.put (Act.put (Act.put (Act.put (Act.put (Act.put (Act.put (Act.put _ (some 146) (σ 0)) (some 147) (σ 1)) (some 148) (σ 2)) (some 149) (σ 3)) (some 150) (σ 4)) (some 151) (σ 5)) (some 152) (σ 6)) (some 153) (σ 7)) (some 154) (σ 8)) (some 155) (σ 9)) (some 156) (σ 10)) (some 157) (σ 11)) (some 158) (σ 12)) from (AZ hall).trans rfl]
                     generalize σ 0=tt0;generalize σ 1=tt1;generalize σ 2=tt2;generalize σ 3=tt3;generalize σ 4=tt4;generalize σ 5=tt5;generalize σ 6=tt6;generalize σ 7=tt7;generalize σ 8=tt8;generalize σ 9=tt9;generalize σ 10=tt10;generalize σ 11=tt11;rw[show σ 12=.bool true from hF 12 (by decide)];simp only[Act.put,List.setIfInBounds_toArray,List.set_cons_zero,List.set_cons_succ];have TG:=hG;clear hF hG hall;clear σ;have RS6:=Aa (RS4.out.next TG)
                     have X6:=Aa (X4.out.next TG);clear RS4 X4 TG;generalize W9=W6 at *;have HREL:=Aa (HMEET.out W6 2 (jx+2) ⟨hjE,hEn⟩ (by rw[HV.out];decide) RS6 X6 HGO);clear HMEET RS6 X6 HGO;go_wp2_with fail;go_meet
                     case rel=>exact HREL.out
                 · rw[show Ft (Ad s jx) (Ad s (jx+1))=false by simpa using ht,AE s jx hjn,AE s (jx+1) hj2]at htw;have HTW:=Aa htw;clear htw;have HGO:=Aa (HE.out.trans (EC (E:=(jx+1)) (kk:=2) HF.out hjn (by omega) (by unfold AQ;rw[if_neg c1,if_neg c2,if_neg c3,if_pos c4]) (by unfold BI;rw[if_neg c1,if_neg c2,if_neg c3,if_neg (fun hh=>ht hh.2)]) (by unfold AG;rw[if_neg c1,if_neg c2,if_neg c3])));have hjE:jx<(jx+1):=(by omega);have hEn:(jx+1)<=s.size:=(by omega)
                   clear HE HF HEQ HBE HBF;go_upto_region 41 with fail
                   refine AJ (by kernel_rfl) (by kernel_rfl) (by kernel_rfl) (fun w w'=>Below w.heap.size w w') (fun j v w=>match j with|0=>v=.int .i64 ((jx:Int)+1)|1=>v=.string s|2=>v=.int .i64 (s.size:Int)|3=>v=.bool true|4=>v=.bool true|5=>v=.string s|6=>v=.int .i64 (jx:Int)|7=>v=.int .u8 ((s[jx]'hjn).toNat:Int)|8=>v=.string s|9=>v=.int .i64 ((jx:Int)+1)|10=>v=.int .u8 ((s[jx+1]'hj2).toNat:Int)|11=>v=.bool false|12=>v=.bool false|_=>True) (fun _ _ w=>Below W4.heap.size W4 w) ?_ (fun _=>Ai W4 1) ?_ ?_
                   · intro j v w w' hT h;match j,h with
                     |0,h=>exact h
                     |1,h=>exact h
                     |2,h=>exact h
                     |3,h=>exact h
                     |4,h=>exact h
                     |5,h=>exact h
                     |6,h=>exact h
                     |7,h=>exact h
                     |8,h=>exact h
                     |9,h=>exact h
                     |10,h=>exact h
                     |11,h=>exact h
                     |12,h=>exact h
                     |j+13,h=>trivial
                   · refine ⟨?_,?_,?_,?_,?_,?_,?_,?_,?_,?_,?_,?_,?_,trivial⟩
                     · intro listed σ w a hin hout hl hc hp hG hF;refine Ac.none rfl ?_;have e6:a.tmps.getD 6 undef=.int .i64 ((jx:Int)+1):=hout 6 (Af (by kernel_rfl));refine Does.val (.int .i64 ((jx:Int)+1)) (w':=w) ?_ ⟨Below.refl _ _,rfl,hG⟩;simp only[Array.getD_eq_getD_getElem?]at e6;go_simp
                     · intro listed σ w a hin hout hl hc hp hG hF;refine Ac.none rfl ?_;have e0:a.tmps.getD 0 undef=.string s:=hout 0 (Af (by kernel_rfl));refine Does.val (.string s) (w':=w) ?_ ⟨Below.refl _ _,rfl,hG⟩;simp only[Array.getD_eq_getD_getElem?]at e0;go_simp
                     · intro listed σ w a hin hout hl hc hp hG hF;refine Ac.none rfl ?_;have e147:a.tmps.getD 147 undef=.string s:=(hin 1 147 rfl (hp ⟨1,.data⟩ (by simp) rfl)).trans (hF 1 (hp ⟨1,.data⟩ (by simp) rfl));refine Does.val (.int .i64 (s.size:Int)) (w':=w) ?_ ⟨Below.refl _ _,rfl,hG⟩;simp only[Array.getD_eq_getD_getElem?]at e147;go_simp
                     · intro listed σ w a hin hout hl hc hp hG hF;refine Ac.none rfl ?_;have e146:a.tmps.getD 146 undef=.int .i64 ((jx:Int)+1):=(hin 0 146 rfl (hp ⟨0,.data⟩ (by simp) rfl)).trans (hF 0 (hp ⟨0,.data⟩ (by simp) rfl));have e148:a.tmps.getD 148 undef=.int .i64 (s.size:Int):=(hin 2 148 rfl (hp ⟨2,.data⟩ (by simp) rfl)).trans (hF 2 (hp ⟨2,.data⟩ (by simp) rfl));refine Does.val (.bool true) (w':=w) ?_ ⟨Below.refl _ _,rfl,hG⟩
                       simp only[Array.getD_eq_getD_getElem?]at e146 e148;go_simp;(try (intro hh;exfalso;omega))
                       (try (simp;omega))
                       (try omega)
                       (try (rw[dif_pos (show (0:Int)<=(jx:Int)+1 by omega)];rfl))
                     · intro listed σ w a hin hout hl hc hp hG hF;refine Ac.none rfl ?_;have e149:a.tmps.getD 149 undef=.bool true:=(hin 3 149 rfl (hp ⟨3,.data⟩ (by simp) rfl)).trans (hF 3 (hp ⟨3,.data⟩ (by simp) rfl));refine Does.val (.bool true) (w':=w) ?_ ⟨Below.refl _ _,rfl,hG⟩;simp only[Array.getD_eq_getD_getElem?]at e149;go_simp
                     · intro listed σ w a hin hout hl hc hp hG hF;refine Ac.some (d:=150) (b:=true) rfl rfl ((hin 4 150 rfl (hp ⟨4,.guard⟩ (by simp) rfl)).trans (hF 4 (hp ⟨4,.guard⟩ (by simp) rfl))) ?_;refine Or.inl ⟨rfl,?_⟩;have e0:a.tmps.getD 0 undef=.string s:=hout 0 (Af (by kernel_rfl));refine Does.val (.string s) (w':=w) ?_ ⟨Below.refl _ _,rfl,hG⟩;simp only[Array.getD_eq_getD_getElem?]at e0;go_simp
                     · intro listed σ w a hin hout hl hc hp hG hF;refine Ac.some (d:=150) (b:=true) rfl rfl ((hin 4 150 rfl (hp ⟨4,.guard⟩ (by simp) rfl)).trans (hF 4 (hp ⟨4,.guard⟩ (by simp) rfl))) ?_;refine Or.inl ⟨rfl,?_⟩;have e11:a.tmps.getD 11 undef=.int .i64 (jx:Int):=hout 11 (Af (by kernel_rfl));refine Does.val (.int .i64 (jx:Int)) (w':=w) ?_ ⟨Below.refl _ _,rfl,hG⟩;simp only[Array.getD_eq_getD_getElem?]at e11;go_simp
                     · intro listed σ w a hin hout hl hc hp hG hF;refine Ac.some (d:=150) (b:=true) rfl rfl ((hin 4 150 rfl (hp ⟨4,.guard⟩ (by simp) rfl)).trans (hF 4 (hp ⟨4,.guard⟩ (by simp) rfl))) ?_;refine Or.inl ⟨rfl,?_⟩;have e151:a.tmps.getD 151 undef=.string s:=(hin 5 151 rfl (hp ⟨5,.data⟩ (by simp) rfl)).trans (hF 5 (hp ⟨5,.data⟩ (by simp) rfl))
                       have e152:a.tmps.getD 152 undef=.int .i64 (jx:Int):=(hin 6 152 rfl (hp ⟨6,.data⟩ (by simp) rfl)).trans (hF 6 (hp ⟨6,.data⟩ (by simp) rfl));refine Does.val (.int .u8 ((s[jx]'hjn).toNat:Int)) (w':=w) ?_ ⟨Below.refl _ _,rfl,hG⟩;simp only[Array.getD_eq_getD_getElem?]at e151 e152;go_simp;(try (intro hh;exfalso;omega))
                       (try (simp;omega))
                       (try omega)
                       (try (rw[dif_pos (show (0:Int)<=(jx:Int)+1 by omega)];rfl))
                     · intro listed σ w a hin hout hl hc hp hG hF;refine Ac.some (d:=150) (b:=true) rfl rfl ((hin 4 150 rfl (hp ⟨4,.guard⟩ (by simp) rfl)).trans (hF 4 (hp ⟨4,.guard⟩ (by simp) rfl))) ?_;refine Or.inl ⟨rfl,?_⟩;have e0:a.tmps.getD 0 undef=.string s:=hout 0 (Af (by kernel_rfl));refine Does.val (.string s) (w':=w) ?_ ⟨Below.refl _ _,rfl,hG⟩;simp only[Array.getD_eq_getD_getElem?]at e0;go_simp
                     · intro listed σ w a hin hout hl hc hp hG hF;refine Ac.some (d:=150) (b:=true) rfl rfl ((hin 4 150 rfl (hp ⟨4,.guard⟩ (by simp) rfl)).trans (hF 4 (hp ⟨4,.guard⟩ (by simp) rfl))) ?_;refine Or.inl ⟨rfl,?_⟩;have e6:a.tmps.getD 6 undef=.int .i64 ((jx:Int)+1):=hout 6 (Af (by kernel_rfl));refine Does.val (.int .i64 ((jx:Int)+1)) (w':=w) ?_ ⟨Below.refl _ _,rfl,hG⟩;simp only[Array.getD_eq_getD_getElem?]at e6;go_simp
                     · intro listed σ w a hin hout hl hc hp hG hF;refine Ac.some (d:=150) (b:=true) rfl rfl ((hin 4 150 rfl (hp ⟨4,.guard⟩ (by simp) rfl)).trans (hF 4 (hp ⟨4,.guard⟩ (by simp) rfl))) ?_;refine Or.inl ⟨rfl,?_⟩;have e154:a.tmps.getD 154 undef=.string s:=(hin 8 154 rfl (hp ⟨8,.data⟩ (by simp) rfl)).trans (hF 8 (hp ⟨8,.data⟩ (by simp) rfl))
                       have e155:a.tmps.getD 155 undef=.int .i64 ((jx:Int)+1):=(hin 9 155 rfl (hp ⟨9,.data⟩ (by simp) rfl)).trans (hF 9 (hp ⟨9,.data⟩ (by simp) rfl));refine Does.val (.int .u8 ((s[jx+1]'hj2).toNat:Int)) (w':=w) ?_ ⟨Below.refl _ _,rfl,hG⟩;simp only[Array.getD_eq_getD_getElem?]at e154 e155;go_simp;(try (intro hh;exfalso;omega))
                       (try (simp;omega))
                       (try omega)
                       (try (rw[dif_pos (show (0:Int)<=(jx:Int)+1 by omega)];rfl))
                     · intro listed σ w a hin hout hl hc hp hG hF;refine Ac.some (d:=150) (b:=true) rfl rfl ((hin 4 150 rfl (hp ⟨4,.guard⟩ (by simp) rfl)).trans (hF 4 (hp ⟨4,.guard⟩ (by simp) rfl))) ?_;refine Or.inl ⟨rfl,?_⟩;have e153:a.tmps.getD 153 undef=.int .u8 ((s[jx]'hjn).toNat:Int):=(hin 7 153 rfl (hp ⟨7,.data⟩ (by simp) rfl)).trans (hF 7 (hp ⟨7,.data⟩ (by simp) rfl))
                       have e156:a.tmps.getD 156 undef=.int .u8 ((s[jx+1]'hj2).toNat:Int):=(hin 10 156 rfl (hp ⟨10,.data⟩ (by simp) rfl)).trans (hF 10 (hp ⟨10,.data⟩ (by simp) rfl));refine Does.call ?_ (HTW.out w) ?_
                       · go_simp
                       · rintro e w' ⟨rfl,hb⟩;exact ⟨_,rfl,hb,rfl,hG.next hb⟩
                     · intro listed σ w a hin hout hl hc hp hG hF;refine Ac.none rfl ?_;have e150:a.tmps.getD 150 undef=.bool true:=(hin 4 150 rfl (hp ⟨4,.data⟩ (by simp) rfl)).trans (hF 4 (hp ⟨4,.data⟩ (by simp) rfl));have e157:a.tmps.getD 157 undef=.bool false:=(hin 11 157 rfl (hp ⟨11,.data⟩ (by simp) rfl)).trans (hF 11 (hp ⟨11,.data⟩ (by simp) rfl));refine Does.val (.bool false) (w':=w) ?_ ⟨Below.refl _ _,rfl,hG⟩
                       simp only[Array.getD_eq_getD_getElem?]at e150 e157;go_simp
                   · intro listed σ W9 hall hG hF;rw[show mid _ σ listed _=(Act.put (Act.put (Act.put (Act.put (Act.put (Act.put (Act.put (Act.put (Act.put (Act.put (Act.put (Act.put (Act.put _ (some 146) (σ 0)) (some 147) (σ 1)) (some 148) (σ 2)) (some 149) (σ 3)) (some 150) (σ 4)) (some 151) (σ 5)) (some 152) (σ 6)) (some 153) (σ 7)) (some 154) (σ 8)) (some 155) (σ 9)) (some 156) (σ 10)) (some 157) (σ 11)) (some 158) (σ 12)) from (AZ hall).trans rfl]
                     generalize σ 0=tt0;generalize σ 1=tt1;generalize σ 2=tt2;generalize σ 3=tt3;generalize σ 4=tt4;generalize σ 5=tt5;generalize σ 6=tt6;generalize σ 7=tt7;generalize σ 8=tt8;generalize σ 9=tt9;generalize σ 10=tt10;generalize σ 11=tt11;rw[show σ 12=.bool false from hF 12 (by decide)];simp only[Act.put,List.setIfInBounds_toArray,List.set_cons_zero,List.set_cons_succ];have TG:=hG;clear hF hG hall;clear σ;have RS6:=Aa (RS4.out.next TG)
                     have X6:=Aa (X4.out.next TG);clear RS4 X4 TG;generalize W9=W6 at *;have HREL:=Aa (HMEET.out W6 2 (jx+1) ⟨hjE,hEn⟩ (by rw[HV.out];decide) RS6 X6 HGO);clear HMEET RS6 X6 HGO;go_wp2_with fail;go_meet
                     case rel=>exact HREL.out
               · have gj2:¬(jx:Int)+1<(s.size:Int):=(by omega);have HGO:=Aa (HE.out.trans (EC (E:=(jx+1)) (kk:=2) HF.out hjn (by omega) (by unfold AQ;rw[if_neg c1,if_neg c2,if_neg c3,if_pos c4]) (by unfold BI;rw[if_neg c1,if_neg c2,if_neg c3,if_neg (fun hh=>hj2 hh.1)]) (by unfold AG;rw[if_neg c1,if_neg c2,if_neg c3])));have hjE:jx<(jx+1):=(by omega);have hEn:(jx+1)<=s.size:=(by omega);clear HE HF HEQ HBE HBF;go_upto_region 41 with fail
                 refine AJ (by kernel_rfl) (by kernel_rfl) (by kernel_rfl) (fun w w'=>Below w.heap.size w w') (fun j v w=>match j with|0=>v=.int .i64 ((jx:Int)+1)|1=>v=.string s|2=>v=.int .i64 (s.size:Int)|3=>v=.bool false|4=>v=.bool false|5=>v=undef|6=>v=undef|7=>v=undef|8=>v=undef|9=>v=undef|10=>v=undef|11=>v=undef|12=>v=.bool false|_=>True) (fun _ _ w=>Below W4.heap.size W4 w) ?_ (fun _=>Ai W4 1) ?_ ?_
                 · intro j v w w' hT h;match j,h with
                   |0,h=>exact h
                   |1,h=>exact h
                   |2,h=>exact h
                   |3,h=>exact h
                   |4,h=>exact h
                   |5,h=>exact h
                   |6,h=>exact h
                   |7,h=>exact h
                   |8,h=>exact h
                   |9,h=>exact h
                   |10,h=>exact h
                   |11,h=>exact h
                   |12,h=>exact h
                   |j+13,h=>trivial
                 · refine ⟨?_,?_,?_,?_,?_,?_,?_,?_,?_,?_,?_,?_,?_,trivial⟩
                   · intro listed σ w a hin hout hl hc hp hG hF;refine Ac.none rfl ?_;have e6:a.tmps.getD 6 undef=.int .i64 ((jx:Int)+1):=hout 6 (Af (by kernel_rfl));refine Does.val (.int .i64 ((jx:Int)+1)) (w':=w) ?_ ⟨Below.refl _ _,rfl,hG⟩;simp only[Array.getD_eq_getD_getElem?]at e6;go_simp
                   · intro listed σ w a hin hout hl hc hp hG hF;refine Ac.none rfl ?_;have e0:a.tmps.getD 0 undef=.string s:=hout 0 (Af (by kernel_rfl));refine Does.val (.string s) (w':=w) ?_ ⟨Below.refl _ _,rfl,hG⟩;simp only[Array.getD_eq_getD_getElem?]at e0;go_simp
                   · intro listed σ w a hin hout hl hc hp hG hF;refine Ac.none rfl ?_;have e147:a.tmps.getD 147 undef=.string s:=(hin 1 147 rfl (hp ⟨1,.data⟩ (by simp) rfl)).trans (hF 1 (hp ⟨1,.data⟩ (by simp) rfl));refine Does.val (.int .i64 (s.size:Int)) (w':=w) ?_ ⟨Below.refl _ _,rfl,hG⟩;simp only[Array.getD_eq_getD_getElem?]at e147;go_simp
                   · intro listed σ w a hin hout hl hc hp hG hF;refine Ac.none rfl ?_;have e146:a.tmps.getD 146 undef=.int .i64 ((jx:Int)+1):=(hin 0 146 rfl (hp ⟨0,.data⟩ (by simp) rfl)).trans (hF 0 (hp ⟨0,.data⟩ (by simp) rfl));have e148:a.tmps.getD 148 undef=.int .i64 (s.size:Int):=(hin 2 148 rfl (hp ⟨2,.data⟩ (by simp) rfl)).trans (hF 2 (hp ⟨2,.data⟩ (by simp) rfl));refine Does.val (.bool false) (w':=w) ?_ ⟨Below.refl _ _,rfl,hG⟩
                     simp only[Array.getD_eq_getD_getElem?]at e146 e148;go_simp;(try (intro hh;exfalso;omega))
                     (try (simp;omega))
                     (try omega)
                     (try (rw[dif_pos (show (0:Int)<=(jx:Int)+1 by omega)];rfl))
                   · intro listed σ w a hin hout hl hc hp hG hF;refine Ac.none rfl ?_;have e149:a.tmps.getD 149 undef=.bool false:=(hin 3 149 rfl (hp ⟨3,.data⟩ (by simp) rfl)).trans (hF 3 (hp ⟨3,.data⟩ (by simp) rfl));refine Does.val (.bool false) (w':=w) ?_ ⟨Below.refl _ _,rfl,hG⟩;simp only[Array.getD_eq_getD_getElem?]at e149;go_simp
                   · intro listed σ w a hin hout hl hc hp hG hF;refine Ac.some (d:=150) (b:=false) rfl rfl ((hin 4 150 rfl (hp ⟨4,.guard⟩ (by simp) rfl)).trans (hF 4 (hp ⟨4,.guard⟩ (by simp) rfl))) ?_;exact Or.inr ⟨(fun h=>by cases h),Below.refl _ _,rfl,hG⟩
                   · intro listed σ w a hin hout hl hc hp hG hF;refine Ac.some (d:=150) (b:=false) rfl rfl ((hin 4 150 rfl (hp ⟨4,.guard⟩ (by simp) rfl)).trans (hF 4 (hp ⟨4,.guard⟩ (by simp) rfl))) ?_;exact Or.inr ⟨(fun h=>by cases h),Below.refl _ _,rfl,hG⟩
                   · intro listed σ w a hin hout hl hc hp hG hF;refine Ac.some (d:=150) (b:=false) rfl rfl ((hin 4 150 rfl (hp ⟨4,.guard⟩ (by simp) rfl)).trans (hF 4 (hp ⟨4,.guard⟩ (by simp) rfl))) ?_;exact Or.inr ⟨(fun h=>by cases h),Below.refl _ _,rfl,hG⟩
                   · intro listed σ w a hin hout hl hc hp hG hF;refine Ac.some (d:=150) (b:=false) rfl rfl ((hin 4 150 rfl (hp ⟨4,.guard⟩ (by simp) rfl)).trans (hF 4 (hp ⟨4,.guard⟩ (by simp) rfl))) ?_;exact Or.inr ⟨(fun h=>by cases h),Below.refl _ _,rfl,hG⟩
                   · intro listed σ w a hin hout hl hc hp hG hF;refine Ac.some (d:=150) (b:=false) rfl rfl ((hin 4 150 rfl (hp ⟨4,.guard⟩ (by simp) rfl)).trans (hF 4 (hp ⟨4,.guard⟩ (by simp) rfl))) ?_;exact Or.inr ⟨(fun h=>by cases h),Below.refl _ _,rfl,hG⟩
                   · intro listed σ w a hin hout hl hc hp hG hF;refine Ac.some (d:=150) (b:=false) rfl rfl ((hin 4 150 rfl (hp ⟨4,.guard⟩ (by simp) rfl)).trans (hF 4 (hp ⟨4,.guard⟩ (by simp) rfl))) ?_;exact Or.inr ⟨(fun h=>by cases h),Below.refl _ _,rfl,hG⟩
                   · intro listed σ w a hin hout hl hc hp hG hF;refine Ac.some (d:=150) (b:=false) rfl rfl ((hin 4 150 rfl (hp ⟨4,.guard⟩ (by simp) rfl)).trans (hF 4 (hp ⟨4,.guard⟩ (by simp) rfl))) ?_;exact Or.inr ⟨(fun h=>by cases h),Below.refl _ _,rfl,hG⟩
                   · intro listed σ w a hin hout hl hc hp hG hF;refine Ac.none rfl ?_;have e150:a.tmps.getD 150 undef=.bool false:=(hin 4 150 rfl (hp ⟨4,.data⟩ (by simp) rfl)).trans (hF 4 (hp ⟨4,.data⟩ (by simp) rfl));have e157:a.tmps.getD 157 undef=undef:=(hin 11 157 rfl (hp ⟨11,.data⟩ (by simp) rfl)).trans (hF 11 (hp ⟨11,.data⟩ (by simp) rfl));refine Does.val (.bool false) (w':=w) ?_ ⟨Below.refl _ _,rfl,hG⟩
                     simp only[Array.getD_eq_getD_getElem?]at e150 e157;go_simp
                 · intro listed σ W9 hall hG hF;rw[show mid _ σ listed _=(Act.put (Act.put (Act.put (Act.put (Act.put (Act.put (Act.put (Act.put (Act.put (Act.put (Act.put (Act.put (Act.put _ (some 146) (σ 0)) (some 147) (σ 1)) (some 148) (σ 2)) (some 149) (σ 3)) (some 150) (σ 4)) (some 151) (σ 5)) (some 152) (σ 6)) (some 153) (σ 7)) (some 154) (σ 8)) (some 155) (σ 9)) (some 156) (σ 10)) (some 157) (σ 11)) (some 158) (σ 12)) from (AZ hall).trans rfl]
                   generalize σ 0=tt0;generalize σ 1=tt1;generalize σ 2=tt2;generalize σ 3=tt3;generalize σ 4=tt4;generalize σ 5=tt5;generalize σ 6=tt6;generalize σ 7=tt7;generalize σ 8=tt8;generalize σ 9=tt9;generalize σ 10=tt10;generalize σ 11=tt11;rw[show σ 12=.bool false from hF 12 (by decide)];simp only[Act.put,List.setIfInBounds_toArray,List.set_cons_zero,List.set_cons_succ];have TG:=hG;clear hF hG hall;clear σ;have RS6:=Aa (RS4.out.next TG)
                   have X6:=Aa (X4.out.next TG);clear RS4 X4 TG;generalize W9=W6 at *;have HREL:=Aa (HMEET.out W6 2 (jx+1) ⟨hjE,hEn⟩ (by rw[HV.out];decide) RS6 X6 HGO);clear HMEET RS6 X6 HGO;go_wp2_with fail;go_meet
                   case rel=>exact HREL.out
             · have c1':Cd (Ad s jx)=false:=(by simpa using c1);have c2':Be (Ad s jx)=false:=(by simpa using c2);have c3':D8 (Ad s jx)=false:=(by simpa using c3);have c4':Fe (Ad s jx)=false:=(by simpa using c4);have hk1:=S9 hlt c1' c2' c3' c4' HBF.out;rw[HBE.out,HCZ.out]at hk1;have HGE:=Aa (HE.out.trans (Gl (er:=100) HF.out hjn (by omega) (Nb.2 ⟨c1',c2',c3',c4'⟩) (by decide)));have RS6:=RS4;have X6:=X4
               clear c1 c2 c3 c4 c1' c2' c3' c4' HBE HBF HE HF HEQ hlt HMEET RS4 X4 HCZ;generalize W4=W6 at *;rcases hk1 with hk1|hk1
               · subst hk1;have HPQ:=Aa (show ∀w',Below w0.heap.size w0 w'->Cb s w0 (.returned (.tuple #[.slice none 0 0,.agg #[.int .i64 (p.1:Nat),.int .i64 (p.2:Nat)],.int .i64 100])) w' from by
                   intro w' h2;refine ⟨.slice none 0 0,?_,h2,?_⟩
                   · unfold AU;rw[HGE.out];dsimp only;rw[if_neg (by decide),HPJ.out];rfl
                   · rw[HGE.out];exact Am.nil _ _ _ _)
                 have u0:=X6.out.cells.1;have u1:=X6.out.cells.2;go_wp2_with fail;go_still_tail 2,(by kernel_rfl)
                 have x7:W6.drew.heap[w0.heap.size]?=some (.cells #[.int .i64 0,.int .i64 0] 25 (0,0)):=RS6.out.2.1;have B7:=Aa (show Below w0.heap.size w0 W6.drew from RS6.out.2.2.next (Ai W6 1));change wpList _ _ _ _ _ W6.drew;generalize W6.drew=W7 at *
                 go_wp2_with (with_reducible refine wpList_store_row rfl 25 _ _ rfl w0.heap.size #[.int .i64 (p.1:Nat),.int .i64 (p.2:Nat)] rfl rfl 25 #[.int .i64 0,.int .i64 0] x7 (by kernel_rfl) rfl (by simp[Value.oneCell']) ?_);refine Av (g:=w0.heap.size) (x:=.int .i64 (p.1:Nat)) (y:=.int .i64 (p.2:Nat)) rfl rfl rfl rfl (setRow_heap _ _ _ _ _ _ x7) rfl ?_;exact HPQ.out _ (B7.out.trans ((AP _ _ _).below B7.out.size (Nat.le_refl _)))
               · subst hk1;have HPQ:=Aa (show ∀w',Below w0.heap.size w0 w'->Cb s w0 (.returned (.tuple #[.slice none 0 0,.agg #[.int .i64 (p.1:Nat),.int .i64 (p.2:Nat)],.int .i64 100])) w' from by
                   intro w' h2;refine ⟨.slice none 0 0,?_,h2,?_⟩
                   · unfold AU;rw[HGE.out];dsimp only;rw[if_neg (by decide),HPJ.out];rfl
                   · rw[HGE.out];exact Am.nil _ _ _ _)
                 have u0:=X6.out.cells.1;have u1:=X6.out.cells.2;go_wp2_with fail;go_still_tail 2,(by kernel_rfl)
                 have x7:W6.drew.heap[w0.heap.size]?=some (.cells #[.int .i64 0,.int .i64 0] 25 (0,0)):=RS6.out.2.1;have B7:=Aa (show Below w0.heap.size w0 W6.drew from RS6.out.2.2.next (Ai W6 1));change wpList _ _ _ _ _ W6.drew;generalize W6.drew=W7 at *
                 go_wp2_with (with_reducible refine wpList_store_row rfl 25 _ _ rfl w0.heap.size #[.int .i64 (p.1:Nat),.int .i64 (p.2:Nat)] rfl rfl 25 #[.int .i64 0,.int .i64 0] x7 (by kernel_rfl) rfl (by simp[Value.oneCell']) ?_);refine Av (g:=w0.heap.size) (x:=.int .i64 (p.1:Nat)) (y:=.int .i64 (p.2:Nat)) rfl rfl rfl rfl (setRow_heap _ _ _ _ _ _ x7) rfl ?_;exact HPQ.out _ (B7.out.trans ((AP _ _ _).below B7.out.size (Nat.le_refl _)))
           case rest=>
             clear RS4 X4 HMEET;obtain ⟨E,kk,rfl,HEE,HKD,RS5,X5,HGO⟩:=hcut;have hjE:=HEE.out.1;have hEn:=HEE.out.2;obtain ⟨K1,hK1⟩:∃K1:Int,K1=(if cz=2 then 3 else 1):=⟨_,rfl⟩;obtain ⟨K2,hK2⟩:∃K2:Int,K2=(if cz=4 then 4 else K1):=⟨_,rfl⟩;have HK3:=Aa (show (kk:Int)=(if cz=6 then 2 else K2) from by have:=HKD.out;simp only[Bool.or_eq_true,Bool.and_eq_true,beq_iff_eq]at this;rw[hK2,hK1];rcases this with ((⟨rfl,rfl⟩|⟨rfl,rfl⟩)|⟨rfl,rfl⟩)|⟨rfl,rfl⟩<;>rfl)
             have HK1:=Aa hK1;have HK2:=Aa hK2;clear hK1 hK2;go_upto_if 162 with fail;go_cut [12,13,78,81] from 161 to 162 (fun cv kv qv sv wx=>cv=.int .i64 (cz:Int)/\qv=.int .i64 (cz:Int)/\sv=.int .i64 (cz:Int)/\kv=.int .i64 K1/\wc=wx)
             case first=>
               by_cases h:cz=2
               · have bq:((cz:Int)==2)=true:=(by rw[h];rfl);have HV:=Aa (show (.int .i64 3:Value)=.int .i64 K1 from by rw[HK1.out,if_pos h]);have HH:=Aa (show (.int .i64 2:Value)=.int .i64 (cz:Int) from by rw[h];rfl);clear h;go_wp2_with fail;go_meet
                 case rel=>exact ⟨by first|exact HH.out|rfl,by first|exact HH.out|rfl,by first|exact HH.out|rfl,HV.out,rfl⟩
               · have bq:((cz:Int)==2)=false:=(by rw[beq_eq_false_iff_ne];omega);have HV:=Aa (show (.int .i64 1:Value)=.int .i64 K1 from by rw[HK1.out,if_neg h]);clear h;go_wp2_with fail;go_meet
                 case rel=>exact ⟨rfl,rfl,rfl,HV.out,rfl⟩
             case rest=>
             obtain ⟨rfl,rfl,rfl,rfl,rfl⟩:=hcut;go_upto_if 164 with fail;go_cut [12,13,78,81] from 163 to 164 (fun cv kv qv sv wx=>cv=.int .i64 (cz:Int)/\qv=.int .i64 (cz:Int)/\sv=.int .i64 (cz:Int)/\kv=.int .i64 K2/\wc=wx)
             case first=>
               by_cases h:cz=4
               · have bq:((cz:Int)==4)=true:=(by rw[h];rfl);have HV:=Aa (show (.int .i64 4:Value)=.int .i64 K2 from by rw[HK2.out,if_pos h]);have HH:=Aa (show (.int .i64 4:Value)=.int .i64 (cz:Int) from by rw[h];rfl);clear h;go_wp2_with fail;go_meet
                 case rel=>exact ⟨by first|exact HH.out|rfl,by first|exact HH.out|rfl,by first|exact HH.out|rfl,HV.out,rfl⟩
               · have bq:((cz:Int)==4)=false:=(by rw[beq_eq_false_iff_ne];omega);have HV:=Aa (show (.int .i64 K1:Value)=.int .i64 K2 from by rw[HK2.out,if_neg h]);clear h;go_wp2_with fail;go_meet
                 case rel=>exact ⟨rfl,rfl,rfl,HV.out,rfl⟩
             case rest=>
             obtain ⟨rfl,rfl,rfl,rfl,rfl⟩:=hcut;go_upto_if 166 with fail;go_cut [12,13,78,81] from 165 to 166 (fun cv kv qv sv wx=>cv=.int .i64 (cz:Int)/\qv=.int .i64 (cz:Int)/\sv=.int .i64 (cz:Int)/\kv=.int .i64 (kk:Int)/\wc=wx)
             case first=>
               by_cases h:cz=6
               · have bq:((cz:Int)==6)=true:=(by rw[h];rfl);have HV:=Aa (show (.int .i64 2:Value)=.int .i64 (kk:Int) from by rw[HK3.out,if_pos h]);have HH:=Aa (show (.int .i64 6:Value)=.int .i64 (cz:Int) from by rw[h];rfl);clear h;go_wp2_with fail;go_meet
                 case rel=>exact ⟨by first|exact HH.out|rfl,by first|exact HH.out|rfl,by first|exact HH.out|rfl,HV.out,rfl⟩
               · have bq:((cz:Int)==6)=false:=(by rw[beq_eq_false_iff_ne];omega);have HV:=Aa (show (.int .i64 K2:Value)=.int .i64 (kk:Int) from by rw[HK3.out,if_neg h]);clear h;go_wp2_with fail;go_meet
                 case rel=>exact ⟨rfl,rfl,rfl,HV.out,rfl⟩
             case rest=>
             obtain ⟨rfl,rfl,rfl,rfl,rfl⟩:=hcut;have RS6:=RS5;have X6:=X5;clear RS5 X5;generalize wc=W6 at *;go_upto_region 50 with fail;have HTK:=Aa (show acc.map (tk s)++[TK.mk kk (s.extract jx E) p.1 p.2]=(acc++[(kk,jx,E)]).map (tk s) by rw[List.map_append,<-HPJ.out];rfl)
             have SOF:=Aa (show ∀W,Below W6.heap.size W6 W->W.cell? ⟨W2.heap.size,0,none⟩=some (.int .i64 (p.1:Nat))/\W.cell? ⟨W2.heap.size,1,none⟩=some (.int .i64 (p.2:Nat)) from fun W h=>(X6.out.next h).cells);have HRW:=Aa (fun k hk=>(RS6.out.1.lt k hk).2);have HX6:=Aa RS6.out.2.1;have HBW:=Aa RS6.out.2.2;have HL6:=Aa (show Am 118 4 W6 (w0.heap.size+1) _ (acc.map (tk s)).length _ from by rw[List.length_map];exact RS6.out.1);have hac6:acc.length<16384+1:=(by omega)
             rw[List.length_map]at HL6;obtain ⟨B0,hB0⟩:∃x,x=w0.heap.size+1:=⟨_,rfl⟩;rw[<-hB0]at HL6;have HWS:=Aa (show B0<=W6.heap.size by have:=(Array.getElem?_eq_some_iff.1 RS6.out.2.1).1;omega);have HB0:=Aa (show w0.heap.size<B0 by omega);have HBL:=Aa (show w0.heap.size<=B0 by omega);have HBE0:=Aa hB0;clear hB0
             refine Cx (by kernel_rfl) (by kernel_rfl) (by kernel_rfl) (by kernel_rfl) (Tg (Value.slice cA acc.length cC).ownBlock) (fun j v w=>match j with|0=>v=.slice cA acc.length cC|1=>v=.int .i64 (kk:Int)|2=>v=.string s|3=>v=.int .i64 (jx:Int)|4=>v=.int .i64 (E:Int)|5=>v=.string (s.extract jx E)|6=>v=.agg #[.int .i64 (p.1:Nat),.int .i64 (p.2:Nat)]|7=>v=.agg #[.int .i64 (kk:Int),.string (s.extract jx E),.int .i64 (p.1:Nat),.int .i64 (p.2:Nat)]|8=>∃gs,v=.slice (some ⟨gs,0,none⟩) 1 1/\W6.heap.size<=gs/\w.heap[gs]?=some (.cells (TK.cells (TK.mk kk (s.extract jx E) p.1 p.2)).toArray 118 (0,0))|9=>True|_=>True) (GA 9 W6 (fun v w=>Am 118 4 w B0 v (acc.map (tk s)++[(TK.mk kk (s.extract jx E) p.1 p.2)]).length (AW (acc.map (tk s)++[(TK.mk kk (s.extract jx E) p.1 p.2)]))/\W6.grownBy w (Value.slice cA acc.length cC).ownBlock)) ?_ (fun _=>GA.start _ (Ai W6 1)) ?_ ?_
             · intro j v w w' hT h;match j,h with
               |0,h=>exact h
               |1,h=>exact h
               |2,h=>exact h
               |3,h=>exact h
               |4,h=>exact h
               |5,h=>exact h
               |6,h=>exact h
               |7,h=>exact h
               |8,h=>exact (by obtain ⟨gs,e,h1,h2⟩:=h;exact ⟨gs,e,h1,(hT.1.block gs (Array.getElem?_eq_some_iff.1 h2).1 (fun e=>by have:=HRW.out gs e.symm;omega)).trans h2⟩)
               |9,h=>exact trivial
               |j+10,h=>trivial
             · refine ⟨?_,?_,?_,?_,?_,?_,?_,?_,?_,?_,trivial⟩
               · intro listed σ w a hin hout hl hla hs hc hp hG hF;refine Ac.none rfl ?_;have e5:a.tmps.getD 5 undef=.slice cA acc.length cC:=hout 5 (Da (j:=10) (by kernel_rfl) hla);refine Does.val (.slice cA acc.length cC) (w':=w) ?_ ⟨Tg.refl _ _,rfl,hG.same (by decide)⟩;simp only[Array.getD_eq_getD_getElem?]at e5;go_simp
               · intro listed σ w a hin hout hl hla hs hc hp hG hF;refine Ac.none rfl ?_;have e13:a.tmps.getD 13 undef=.int .i64 (kk:Int):=hout 13 (Af (by kernel_rfl));refine Does.val (.int .i64 (kk:Int)) (w':=w) ?_ ⟨Tg.refl _ _,rfl,hG.same (by decide)⟩;simp only[Array.getD_eq_getD_getElem?]at e13;go_simp
               · intro listed σ w a hin hout hl hla hs hc hp hG hF;refine Ac.none rfl ?_;have e0:a.tmps.getD 0 undef=.string s:=hout 0 (Af (by kernel_rfl));refine Does.val (.string s) (w':=w) ?_ ⟨Tg.refl _ _,rfl,hG.same (by decide)⟩;simp only[Array.getD_eq_getD_getElem?]at e0;go_simp
               · intro listed σ w a hin hout hl hla hs hc hp hG hF;refine Ac.none rfl ?_;have e11:a.tmps.getD 11 undef=.int .i64 (jx:Int):=hout 11 (Af (by kernel_rfl));refine Does.val (.int .i64 (jx:Int)) (w':=w) ?_ ⟨Tg.refl _ _,rfl,hG.same (by decide)⟩;simp only[Array.getD_eq_getD_getElem?]at e11;go_simp
               · intro listed σ w a hin hout hl hla hs hc hp hG hF;refine Ac.none rfl ?_;have e6:a.tmps.getD 6 undef=.int .i64 (E:Int):=hout 6 (Af (by kernel_rfl));refine Does.val (.int .i64 (E:Int)) (w':=w) ?_ ⟨Tg.refl _ _,rfl,hG.same (by decide)⟩;simp only[Array.getD_eq_getD_getElem?]at e6;go_simp
               · intro listed σ w a hin hout hl hla hs hc hp hG hF;refine Ac.none rfl ?_;have e169:a.tmps.getD 169 undef=.string s:=(hin 2 169 rfl (hp ⟨2,.data⟩ (by simp) rfl)).trans (hF 2 (hp ⟨2,.data⟩ (by simp) rfl));have e170:a.tmps.getD 170 undef=.int .i64 (jx:Int):=(hin 3 170 rfl (hp ⟨3,.data⟩ (by simp) rfl)).trans (hF 3 (hp ⟨3,.data⟩ (by simp) rfl))
                 have e171:a.tmps.getD 171 undef=.int .i64 (E:Int):=(hin 4 171 rfl (hp ⟨4,.data⟩ (by simp) rfl)).trans (hF 4 (hp ⟨4,.data⟩ (by simp) rfl));refine Does.val (.string (s.extract jx E)) (w':=w) ?_ ⟨Tg.refl _ _,rfl,hG.same (by decide)⟩;simp only[Array.getD_eq_getD_getElem?]at e169 e170 e171;go_simp;(try (rw[if_pos (show (0:Int)<=(E:Int)/\(E:Int)<=(s.size:Int) from ⟨by omega,by omega⟩),if_pos (show (jx:Int)<=(E:Int) by omega)]))
                 (try (intro hh;exfalso;omega))
                 (try (rw[show ((jx:Int)+1+1).toNat=jx+2 by omega]))
               · intro listed σ w a hin hout hl hla hs hc hp hG hF;refine Ac.none rfl ?_;have e10:a.tmps.getD 10 undef=.pointer (some ⟨W2.heap.size,0,none⟩):=hout 10 (Af (by kernel_rfl));have CC:=SOF.out w (hG.1 (BH (k:=9) hc (BH (k:=8) hc (BH (k:=7) hc hl (by kernel_rfl)) (by kernel_rfl)) (by kernel_rfl)));obtain ⟨C0,C1⟩:=CC;refine Does.val (.agg #[.int .i64 (p.1:Nat),.int .i64 (p.2:Nat)]) (w':=w) ?_ ⟨Tg.refl _ _,rfl,hG.same (by decide)⟩;go_simp
               · intro listed σ w a hin hout hl hla hs hc hp hG hF;refine Ac.none rfl ?_;have e168:a.tmps.getD 168 undef=.int .i64 (kk:Int):=(hin 1 168 rfl (hp ⟨1,.data⟩ (by simp) rfl)).trans (hF 1 (hp ⟨1,.data⟩ (by simp) rfl));have e172:a.tmps.getD 172 undef=.string (s.extract jx E):=(hin 5 172 rfl (hp ⟨5,.data⟩ (by simp) rfl)).trans (hF 5 (hp ⟨5,.data⟩ (by simp) rfl))
                 have e173:a.tmps.getD 173 undef=.agg #[.int .i64 (p.1:Nat),.int .i64 (p.2:Nat)]:=(hin 6 173 rfl (hp ⟨6,.data⟩ (by simp) rfl)).trans (hF 6 (hp ⟨6,.data⟩ (by simp) rfl));refine Does.val (.agg #[.int .i64 (kk:Int),.string (s.extract jx E),.int .i64 (p.1:Nat),.int .i64 (p.2:Nat)]) (w':=w) ?_ ⟨Tg.refl _ _,rfl,hG.same (by decide)⟩;simp only[Array.getD_eq_getD_getElem?]at e168 e172 e173;go_simp
               · intro listed σ w a hin hout hl hla hs hc hp hG hF;refine Ac.none rfl ?_;have e174:a.tmps.getD 174 undef=.agg #[.int .i64 (kk:Int),.string (s.extract jx E),.int .i64 (p.1:Nat),.int .i64 (p.2:Nat)]:=(hin 7 174 rfl (hp ⟨7,.data⟩ (by simp) rfl)).trans (hF 7 (hp ⟨7,.data⟩ (by simp) rfl))
                 refine Does.val (.slice (some ⟨w.heap.size,0,none⟩) 1 1) (w':=w.alloc (.cells (TK.cells (TK.mk kk (s.extract jx E) p.1 p.2)).toArray 118)) ?_ ⟨Tg.of_below (Ae w _),⟨w.heap.size,rfl,(hG.1 (BH (k:=9) hc hl (by kernel_rfl))).size,heap_alloc_new w _⟩,hG.call (by decide) (BH (k:=9) hc hl (by kernel_rfl)) (Ae w _)⟩;simp only[Array.getD_eq_getD_getElem?]at e174;go_simp;(try rfl)
               · intro listed σ w a hin hout hl hla hs hc hp hG hF;refine Ac.none rfl ?_;have e167:a.tmps.getD 167 undef=.slice cA acc.length cC:=(hin 0 167 rfl (hp ⟨0,.data⟩ (by simp) rfl)).trans (hF 0 (hp ⟨0,.data⟩ (by simp) rfl));have e175:=hin 8 175 rfl (hp ⟨8,.data⟩ (by simp) rfl);obtain ⟨g8,ev8,hg8,x8⟩:=hF 8 (hp ⟨8,.data⟩ (by simp) rfl);rw[ev8]at e175;have hl0:=hl;have hB:=hG.1 hl;have hl:=HL6.out.below hB;obtain ⟨i0,hi0,hz0,hz1,hz2⟩:=info_parts Kv
                 obtain ⟨v',w',hr,h2,h3⟩:=Cs (P:=Tryz.prog) (w:=w) B0 73 73 118 i0 _ 4 40 Tryz.underlying73 hi0 hz0 hz1 hz2 rfl (by decide) Fz (.slice cA acc.length cC) acc.length (AW (acc.map (tk s))) hl ⟨g8,0,none⟩ 1 1 (AW [(TK.mk kk (s.extract jx E) p.1 p.2)]) rfl (fun jj u hu=>by rw[addr_add,Nat.zero_add,cell_of_row w g8 jj _ _ _ x8];simpa[AW] using hu) (Im _) (Io _) (by unfold maxLen;omega) (by omega) (Nat.le_trans HWS.out hB.size)
                 refine Does.val v' (w':=w') ?_ ⟨⟨h3,hl.kp h3⟩,trivial,GA.on_ hl0 (by rw[hs];decide) ⟨?_,V7 hB h3⟩⟩
                 · exact Dd rfl e167 e175 hr
                 · rw[Fy,List.length_append,List.length_map];exact h2
             · intro o ho;injection ho with ho;subst ho
               intro listed σ w a hall hin hout hG hF;refine Ac.none rfl ?_;have e176:=hin 9 176 rfl (by decide);have z9:=hF 9 (by decide);obtain ⟨l2,g2⟩:=hG.2 (hall 9 (by decide));refine Does.val (σ 9) (w':=w) (by simp only[Array.getD_eq_getD_getElem?]at e176;go_simp) ?_
               rw[show JS _ σ (σ 9) _=(Act.put (Act.put (Act.put (Act.put (Act.put (Act.put (Act.put (Act.put (Act.put (Act.put (Act.put _ (some 167) (σ 0)) (some 168) (σ 1)) (some 169) (σ 2)) (some 170) (σ 3)) (some 171) (σ 4)) (some 172) (σ 5)) (some 173) (σ 6)) (some 174) (σ 7)) (some 175) (σ 8)) (some 176) (σ 9)) (some 5) (σ 9)) from (DL hall).trans rfl];simp only[Act.put,List.setIfInBounds_toArray,List.set_cons_zero,List.set_cons_succ]
               generalize σ 0=tt0;generalize σ 1=tt1;generalize σ 2=tt2;generalize σ 3=tt3;generalize σ 4=tt4;generalize σ 5=tt5;generalize σ 6=tt6;generalize σ 7=tt7;generalize σ 8=tt8;generalize σ 9=v9 at *;have X7:=HX6.out.grown HL6.out HB0.out g2;have B7:=HL6.out.old HBW.out g2 HBL.out (Nat.le_refl _);clear hF hG hall hin hout SOF z9 g2;rw[HTK.out,List.length_map]at l2;have R7:=Aa (SA.mk (HBE0.out▸l2) X7 B7);clear l2 X7 B7;go_wp2_with fail;go_roundw
               case rel=>exact ⟨E,jx,m-1,acc++[(kk,jx,E)],by omega,by omega,by omega,by go_num,by rw[HPJ.out],by rw[HPJ.out],rfl,by rw[List.length_append];simp only[List.length_cons,List.length_nil];omega,R7,HGO⟩
               case measure=>simp[intOf];omega
   · obtain rfl:jx=s.size:=(by omega);have HR:=Aa (show Ap (Ad s) s.size=⟨acc++[(5,s.size,s.size)],0,0⟩ by
       obtain ⟨m',rfl⟩:∃k,m=k+1:=⟨m-1,by omega⟩;rw[HE.out,C7,HK.out,Hg,if_pos rfl])
     have HPQ:=Aa (show ∀v w',Am 118 4 w' (w0.heap.size+1) v (acc.map (tk s)++[TK.mk 5 ⟨#[]⟩ (Au (Ad s) s.size).1 (Au (Ad s) s.size).2]).length (AW (acc.map (tk s)++[TK.mk 5 ⟨#[]⟩ (Au (Ad s) s.size).1 (Au (Ad s) s.size).2]))->Below w0.heap.size w0 w' ->
         Cb s w0 (.returned (.tuple #[v,.agg #[.int .i64 0,.int .i64 0],.int .i64 0])) w' from by
       intro v w' h1 h2;have e5:(acc++[(5,s.size,s.size)]).map (tk s)=acc.map (tk s)++[TK.mk 5 ⟨#[]⟩ (Au (Ad s) s.size).1 (Au (Ad s) s.size).2]:=by rw[List.map_append];simp only[List.map_cons,List.map_nil,tk];rw[Pt]
       refine ⟨v,?_,h2,?_⟩
       · unfold AU;rw[HR.out];rfl
       · rw[HR.out];show Am _ 4 w' w0.heap.size v (acc++[(5,s.size,s.size)]).length _;have e6:(acc++[(5,s.size,s.size)]).length=(acc.map (tk s)++[TK.mk 5 ⟨#[]⟩ (Au (Ad s) s.size).1 (Au (Ad s) s.size).2]).length:=(by simp);rw[e5,e6];exact h1.low (Nat.le_succ _))
     have RS2:=Aa (HS.out.next (Ai wr k));clear HE HK HS;go_wp2_with fail;go_loopw [7,8,9] (fun c d e wr4=>∃q4:Nat,q4<=s.size/\c=.int .i64 ((Au (Ad s) q4).1:Nat)/\d=.int .i64 ((Au (Ad s) q4).2:Nat)/\e=.int .i64 (q4:Int)/\wr4=wr.drewN k) (fun _ _ e _=>s.size-(intOf e).toNat)
     case atStart=>exact ⟨q,by omega,rfl,rfl,rfl,by first|rfl|trivial⟩
     case round=>
       obtain ⟨q4,hq4,rfl,rfl,rfl,rfl⟩:=hrel;by_cases hq4j:q4<s.size
       · have hq4n:q4<s.size:=(by omega);have hbe:=AE s q4 hq4n;have hp4:=Fg (Ad s) q4;have hps:Au (Ad s) (q4+1)=Cr (Au (Ad s) q4) (Ad s q4):=rfl;by_cases h10:Ad s q4=10
         · have g10:((s[q4]'hq4n).toNat:Int)=10:=(by omega);rw[Cr,if_pos h10]at hps;have HP:=Aa hps;have hl1:(Au (Ad s) q4).1<=1000000:=(by omega);clear hps hp4 hbe h10;generalize Au (Ad s) q4=p4 at *;go_wp2_with fail;go_roundw
           case rel=>exact ⟨q4+1,by omega,by rw[HP.out];go_num,by rw[HP.out];rfl,by go_num,by first|rfl|trivial⟩
           case measure=>simp[intOf];omega
         · have g10:¬((s[q4]'hq4n).toNat:Int)=10:=(by omega);rw[Cr,if_neg h10]at hps;have HP:=Aa hps;have hl1:(Au (Ad s) q4).2<=1000000:=(by omega);clear hps hp4 hbe h10;generalize Au (Ad s) q4=p4 at *;go_wp2_with fail;go_roundw
           case rel=>exact ⟨q4+1,by omega,by rw[HP.out],by rw[HP.out];go_num,by go_num,by first|rfl|trivial⟩
           case measure=>simp[intOf];omega
       · obtain rfl:q4=s.size:=(by omega);have HQ:=Aa (show Au (Ad s) s.size=Au (Ad s) s.size from rfl);generalize wr.drewN k=W2 at *;generalize Au (Ad s) s.size=p at *;clear HQ;have hsz:=RS2.out.2.2.size;have RS4:=Aa ((RS2.out.next (Ae W2 (.cells #[.int .i64 (p.1:Nat),.int .i64 (p.2:Nat)] 25))).next (Ae _ (.cells (TK.cells (TK.mk 5 ⟨#[]⟩ p.1 p.2)).toArray 118)))
         have xT:((W2.alloc (.cells #[.int .i64 (p.1:Nat),.int .i64 (p.2:Nat)] 25)).alloc (.cells (TK.cells (TK.mk 5 ⟨#[]⟩ p.1 p.2)).toArray 118)).heap[W2.heap.size+1]?=some (.cells (TK.cells (TK.mk 5 ⟨#[]⟩ p.1 p.2)).toArray 118 (0,0)):=by have:=heap_alloc_new (W2.alloc (.cells #[.int .i64 (p.1:Nat),.int .i64 (p.2:Nat)] 25)) (.cells (TK.cells (TK.mk 5 ⟨#[]⟩ p.1 p.2)).toArray 118);rwa [CK]at this
         have XT:=Aa xT;clear xT;have hacc2:acc.length<16384+1:=(by omega);go_wp2_with (first
           |(at_builtin;refine GG rfl _ _ rfl (w0.heap.size+1) _ (acc.map (tk s)) rfl (by rw[List.length_map];exact RS4.out.1) (W2.heap.size+1) (TK.mk 5 ⟨#[]⟩ p.1 p.2) rfl XT.out (by rw[List.length_map];omega) (by rw[CK,CK];omega) ?_;intro v' w4 l4 g4;have x4:=RS4.out.2.1.grown RS4.out.1 (Nat.lt_succ_self _) g4;have L4:=Aa l4;have B4:=Aa (RS4.out.1.old RS4.out.2.2 g4 (Nat.le_succ _) (Nat.le_refl _));clear l4 g4)
           |(with_reducible refine wpList_store_row rfl 25 _ _ rfl w0.heap.size #[.int .i64 0,.int .i64 0] rfl rfl 25 #[.int .i64 0,.int .i64 0] x4 (by kernel_rfl) rfl (by simp[Value.oneCell']) ?_))
         refine Av (g:=w0.heap.size) (x:=.int .i64 0) (y:=.int .i64 0) rfl rfl rfl rfl (setRow_heap _ _ _ _ _ _ x4) rfl ?_;exact HPQ.out _ _ (L4.out.other (AP _ _ _) (Or.inl (Nat.lt_succ_self _))) (B4.out.trans ((AP _ _ _).below B4.out.size (Nat.le_refl _)))
end
end Go.Proofs.YtgohmojcopajoaaGreatDoor
