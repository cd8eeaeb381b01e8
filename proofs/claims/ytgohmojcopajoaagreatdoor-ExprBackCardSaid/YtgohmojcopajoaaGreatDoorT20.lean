/- Texts of one seat, put together: ExprB ExprT ExprG ExprRt. -/
import Derived.Test.YtgohmojcopajoaaGreatDoorT19
import Derived.Test.YtgohmojcopajoaaGreatDoorT05
import Derived.Test.YtgohmojcopajoaaGreatDoorT04
set_option linter.unusedVariables false
set_option linter.unusedSimpArgs false
set_option maxRecDepth 100000
set_option maxHeartbeats 16000000
namespace Go.Proofs.YtgohmojcopajoaaGreatDoor.Ex
section
theorem It (i:Nat) (x:ByteArray) (r:List PT):AK x ((2,EA i)::r)=decide (EA i=x):=by simp[AK]
theorem TW (op:Nat) (h:op<6) (r:List PT):N0 ((2,EA op)::r)=some op:=by
 unfold N0;rw[show (fun i=>AK (EA i) ((2,EA op)::r))=fun i=>decide (EA op=EA i) from funext fun i=>It op (EA i) r];have h6:op=0\/op=1\/op=2\/op=3\/op=4\/op=5:=by omega
 rcases h6 with rfl|rfl|rfl|rfl|rfl|rfl<;>decide +kernel
theorem TY (op:Nat) (h:op<6) (r:List PT):Ep ((2,EA op)::r):=by
 unfold Ep;rw[It,It,It];have h6:op=0\/op=1\/op=2\/op=3\/op=4\/op=5:=by omega
 rcases h6 with rfl|rfl|rfl|rfl|rfl|rfl<;>exact ⟨by decide +kernel,by decide +kernel,by decide +kernel⟩
theorem TZ (kn:ByteArray->Bool) (l:List Mn) (op:Nat) (x:List Mn) (r:List PT) (hl:Dd l) (ho:op<6) (hx:Dd x) (kl:Fh kn l) (kx:Fh kn x) (hr:Ep r):Gg kn (FQ l++(2,EA op)::(FQ x++r))=.ok (.cmp l op x) r:=by
 unfold Gg;rw[Kv kn l _ hl kl (TY op ho _)];dsimp only
 rw[TW op ho];dsimp only
 rw[List.tail_cons,Kv kn x r hx kx hr]
theorem CX (s:ByteArray) (c:UInt8) (hs:s≠⟨#[c]⟩) (r:List PT):AK ⟨#[c]⟩ ((1,s)::r)=false:=by
 cases hd:AK ⟨#[c]⟩ ((1,s)::r) with
 |false=>rfl
 |true=> have h2:(decide (s=⟨#[c]⟩)&&((1:Nat)==1 || (1:Nat)==2 || (1:Nat)==4))=true:=hd;rw[Bool.and_eq_true]at h2;exact absurd (of_decide_eq_true h2.1) hs
theorem MJ (s:ByteArray) (r:List PT):AK s ((1,s)::r)=true:=by simp[AK]
theorem LH (kn:ByteArray->Bool) (lv:Nat) (l r:List PT) (t:Tr) (hlv:1<=lv) (h:Am kn .cond (lv-1) (l++sg 41::r)=.ok t (sg 41::r)):Am kn .one lv (KP true l++r)=.ok t r:=by
 have e:KP true l++r=sg 40::(l++sg 41::r):=by simp[KP]
 rw[e,BS,if_neg (fun hh=>by omega),if_neg (by rw[Cy 40 _ (by decide)];decide),if_pos (Do 40 _),List.tail_cons,h];show (if AK ⟨#[41]⟩ (sg 41::r)=true then Out.ok t (sg 41::r).tail else .err 101 (sg 41::r))=_;rw[if_pos (Do 41 r),List.tail_cons]
theorem IL (kn:ByteArray->Bool) (lv:Nat) (t:Tr) (r:List PT) (h:AK ⟨#[124]⟩ r=false):Am kn (.condGo t) lv r=.ok t r:=by rw[FF,if_neg (by rw[h];decide)]
theorem F7 (kn:ByteArray->Bool) (lv:Nat) (t:Tr) (r:List PT) (h:AK ⟨#[38]⟩ r=false):Am kn (.bothGo t) lv r=.ok t r:=by rw[FE,if_neg (by rw[h];decide)]
structure IM (kn:ByteArray->Bool) (t:Tr) (lv:Nat):Prop where
 one:AD t=false->Au t=false->∀r,Ep r->Am kn .one lv (pr t++r)=.ok t r
 both:Au t=false->∀r,Ep r->Am kn .both lv (pr t++r)=Am kn (.bothGo t) lv r
 cond:∀r,Ep r->AK ⟨#[38]⟩ r=false->Am kn .cond lv (pr t++r)=Am kn (.condGo t) lv r
theorem IM.paren {kn:ByteArray->Bool} {t:Tr} {lv:Nat} (h:IM kn t (lv-1)) (hlv:1<=lv) (r:List PT):Am kn .one lv (KP true (pr t)++r)=.ok t r:=
 LH kn lv (pr t) r t hlv (by rw[h.cond (sg 41::r) (Ku 41 (by decide) (by decide) (by decide) r) (Cy 41 _ (by decide) r)];exact IL kn _ t _ (Cy 41 _ (by decide) r))
theorem IM.of_one {kn:ByteArray->Bool} {t:Tr} {lv:Nat} (h:∀r,Ep r->Am kn .one lv (pr t++r)=.ok t r) (hb:AD t=false) (ha:Au t=false):IM kn t lv:=by
 have hboth:∀r,Ep r->Am kn .both lv (pr t++r)=Am kn (.bothGo t) lv r:=fun r hr=>by
  rw[Dy,h r hr];rfl
 refine ⟨fun _ _=>h,fun _=>hboth,fun r hr h38=>?_⟩;rw[EB,hboth r hr,F7 kn lv t r h38];rfl
theorem IM.of_both {kn:ByteArray->Bool} {t:Tr} {lv:Nat} (h:∀r,Ep r->Am kn .both lv (pr t++r)=Am kn (.bothGo t) lv r) (hb:AD t=true):IM kn t lv:=by refine ⟨(fun e=>by rw[hb]at e;cases e),fun _=>h,fun r hr h38=>?_⟩;rw[EB,h r hr,F7 kn lv t r h38];rfl
theorem QG {kn:ByteArray->Bool} {t:Tr} {lv:Nat} (h0:(AD t || Au t)=true->1<=lv/\IM kn t (lv-1)) (h1:(AD t || Au t)=false->IM kn t lv) (r:List PT) (hr:Ep r):Am kn .one lv (KP (AD t || Au t) (pr t)++r)=.ok t r:=by
 cases hc:AD t || Au t with
 |true=>exact (h0 hc).2.paren (h0 hc).1 r
 |false=> have hh:=Bool.or_eq_false_iff.1 hc;exact (h1 hc).one hh.1 hh.2 r hr
theorem back (kn:ByteArray->Bool) (t:Tr):∀lv,right lv t->knows kn t->IM kn t lv:=by
 induction t with
 |leaf b=>
  intro lv _ _;refine IM.of_one (fun r hr=>?_) rfl rfl;cases b with
  |true=>
   show Am kn .one lv ((1,⟨#[116,114,117,101]⟩)::r)=_;rw[BS,if_neg (fun hh=>by rw[CX _ _ (by decide),CX _ _ (by decide)]at hh;rcases hh.2 with h|h<;>cases h),if_neg (by rw[CX _ _ (by decide)];decide),if_neg (by rw[CX _ _ (by decide)];decide),if_pos (MJ _ _)]
   rfl
  |false=>
   show Am kn .one lv ((1,⟨#[102,97,108,115,101]⟩)::r)=_;rw[BS,if_neg (fun hh=>by rw[CX _ _ (by decide),CX _ _ (by decide)]at hh;rcases hh.2 with h|h<;>cases h),if_neg (by rw[CX _ _ (by decide)];decide),if_neg (by rw[CX _ _ (by decide)];decide),if_neg (by simp[AK]),if_pos (MJ _ _)]
   rfl
 |cmp l op x=>
  intro lv hr hk;obtain ⟨h1,h2,h3⟩:=hr;obtain ⟨k1,k2⟩:=hk;refine IM.of_one (fun r hs=>?_) rfl rfl;have e:pr (.cmp l op x)++r=FQ l++(2,EA op)::(FQ x++r):=by simp[pr]
  have f:=fun (y:ByteArray) (hy:BL y=false) (h45:y≠⟨#[45]⟩)=>Pk l h1 y hy h45 ((2,EA op)::(FQ x++r))
  rw[e,BS,f ⟨#[33]⟩ (by decide +kernel) (by decide),f ⟨#[40]⟩ (by decide +kernel) (by decide),f ⟨#[116,114,117,101]⟩ (by decide +kernel) (by decide),f ⟨#[102,97,108,115,101]⟩ (by decide +kernel) (by decide),
   if_neg (fun hh=>by rcases hh.2 with h|h<;>cases h),if_neg (by decide),if_neg (by decide),if_neg (by decide),if_neg (by decide)]
  exact TZ kn l op x r h1 h2 h3 k1 k2 hs
 |deny t ih=>
  intro lv hr hk;refine IM.of_one (fun r hs=>?_) rfl rfl;have e:pr (.deny t)++r=sg 33::(KP (AD t || Au t) (pr t)++r):=by simp[pr]
  unfold right at hr;have hlv:1<=lv:=by
   split at hr
   · have:=hr.1;omega
   · exact hr.1
  have hkid:Am kn .one (lv-1) (KP (AD t || Au t) (pr t)++r)=.ok t r:=by
   refine QG (fun hc=>?_) (fun hc=>?_) r hs
   · rw[if_pos hc]at hr;exact ⟨by have:=hr.1;omega,ih _ (by rw[show lv-1-1=lv-2 by omega];exact hr.2) hk⟩
   · rw[if_neg (by rw[hc];decide)]at hr;exact ih _ hr.2 hk
  rw[e,BS,if_neg (fun hh=>by omega),if_pos (Do 33 _),List.tail_cons,hkid];rfl
 |both a b iha ihb=>
  intro lv hr hk;obtain ⟨ha,hb⟩:=hr;obtain ⟨ka,kb⟩:=hk;refine IM.of_both (fun r hs=>?_) rfl;have e:pr (.both a b)++r=KP (Au a) (pr a)++(sg 38::(KP (AD b || Au b) (pr b)++r)):=by simp[pr]
  have hst:Ep (sg 38::(KP (AD b || Au b) (pr b)++r)):=Ku 38 (by decide) (by decide) (by decide) _;have hkb:Am kn .one lv (KP (AD b || Au b) (pr b)++r)=.ok b r:=by
   refine QG (fun hc=>?_) (fun hc=>?_) r hs
   · rw[if_pos hc]at hb;exact ⟨hb.1,ihb _ hb.2 kb⟩
   · rw[if_neg (by rw[hc];decide)]at hb;exact ihb _ hb kb
  have hgo:Am kn (.bothGo a) lv (sg 38::(KP (AD b || Au b) (pr b)++r))=Am kn (.bothGo (.both a b)) lv r:=by rw[FE,if_pos (Do 38 _),List.tail_cons,hkb];rfl
  rw[e];cases hany:Au a with
  |true=>
   rw[hany,if_pos rfl]at ha;rw[Dy,(iha _ ha.2 ka).paren ha.1];exact hgo
  |false=>
   rw[hany,if_neg (by decide)]at ha;show Am kn .both lv (pr a++_)=_;rw[(iha _ ha ka).both hany _ hst,hgo]
 |any a b iha ihb=>
  intro lv hr hk;obtain ⟨ha,hb⟩:=hr;obtain ⟨ka,kb⟩:=hk;refine ⟨(fun _ e=>by cases e),(fun e=>by cases e),fun r hs h38=>?_⟩;have e:pr (.any a b)++r=pr a++(sg 124::(KP (Au b) (pr b)++r)):=by simp[pr]
  have hkb:Am kn .both lv (KP (Au b) (pr b)++r)=.ok b r:=by
   cases hany:Au b with
   |true=>
     rw[hany,if_pos rfl]at hb;rw[Dy,(ihb _ hb.2 kb).paren hb.1];exact F7 kn lv b r h38
   |false=> rw[hany,if_neg (by decide)]at hb;show Am kn .both lv (pr b++r)=_;rw[(ihb _ hb kb).both hany r hs];exact F7 kn lv b r h38
  rw[e,(iha _ ha ka).cond _ (Ku 124 (by decide) (by decide) (by decide) _) (Cy 124 _ (by decide) _),FF,if_pos (Do 124 _),List.tail_cons,hkb];rfl
theorem Pl (kn:ByteArray->Bool) (t:Tr) (lv:Nat) (h:right lv t) (hk:knows kn t):Am kn .cond lv (pr t++[(5,eS)])=.ok t [(5,eS)]:=by
 have hz:∀x:ByteArray,AK x [(5,eS)]=false:=fun x=>by simp[AK]
 rw[(back kn t lv h hk).cond _ ⟨hz _,hz _,hz _⟩ (hz _)];exact IL kn lv t _ (hz _)
end
section
theorem Hs (t:Tr):∀lv lv',lv<=lv'->right lv t->right lv' t:=by
 induction t with
 |leaf b=>intro lv lv' _ _;trivial
 |cmp l op x=>intro lv lv' _ h;exact h
 |deny t ih=>
  intro lv lv' hl h;unfold right at h ⊢;split
  · rename_i hc
    rw[if_pos hc]at h;exact ⟨by have:=h.1;omega,ih _ _ (by omega) h.2⟩
  · rename_i hc
    rw[if_neg hc]at h;exact ⟨by have:=h.1;omega,ih _ _ (by omega) h.2⟩
 |both a b iha ihb=>
  intro lv lv' hl h;obtain ⟨h1,h2⟩:=h;refine ⟨?_,?_⟩
  · split
    · rename_i hc
      rw[if_pos hc]at h1;exact ⟨by have:=h1.1;omega,iha _ _ (by omega) h1.2⟩
    · rename_i hc
      rw[if_neg hc]at h1;exact iha _ _ hl h1
  · split
    · rename_i hc
      rw[if_pos hc]at h2;exact ⟨by have:=h2.1;omega,ihb _ _ (by omega) h2.2⟩
    · rename_i hc
      rw[if_neg hc]at h2;exact ihb _ _ hl h2
 |any a b iha ihb=>
  intro lv lv' hl h;obtain ⟨h1,h2⟩:=h;refine ⟨iha _ _ hl h1,?_⟩;split
  · rename_i hc
    rw[if_pos hc]at h2;exact ⟨by have:=h2.1;omega,ihb _ _ (by omega) h2.2⟩
  · rename_i hc
    rw[if_neg hc]at h2;exact ihb _ _ hl h2
def WF (r:List PT):Prop:=∀p∈r,p.1=3->Da p.2=true
theorem WF.tail {r:List PT} (h:WF r):WF r.tail:=fun p hp=>h p (List.mem_of_mem_tail hp)
theorem WF.of_cons {p:PT} {r:List PT} (h:WF (p::r)):WF r:=h.tail
theorem WZ:Da eS=false:=by decide +kernel
theorem Vt:BL eS=false:=by decide +kernel
theorem Pm {kn:ByteArray->Bool} {full neg:Bool} {r r1:List PT} {x:Mn} (hw:WF r) (h:Bc kn full neg r=.ok x r1):Hr x/\WF r1/\(x.var≠eS->kn x.var=true)/\full=false:=by
 cases r with
 |nil=>cases h
 |cons p r=>
  rw[Bc]at h;by_cases c1:(p.1==3)=true
  · have hn:=hw p (List.mem_cons_self ..) (by simpa using c1);have hne:p.2≠eS:=fun e=>by rw[e,WZ]at hn;cases hn
    rw[if_pos c1]at h;by_cases c2:full=true
    · rw[if_pos c2]at h;cases h
    · have hf:full=false:=(by simpa using c2);rw[if_neg c2]at h;by_cases c3:AK ⟨#[42]⟩ r=true
      · rw[if_pos c3]at h;cases hr:r.tail with
        |nil=>rw[hr]at h;cases h
        |cons p2 r2=>
          rw[hr]at h;dsimp only at h
          by_cases c4:Bb p2=true
          · rw[if_pos c4]at h;by_cases c5:kn p2.2=true
            · rw[if_pos c5]at h;injection h with h1 h2
              subst h1 h2;have hv:BL p2.2=true:=by simp only[Bb,Bool.and_eq_true]at c4;exact c4.2
              refine ⟨⟨fun hh=>hne hh.1,Or.inr hn,Or.inr hv⟩,?_,fun _=>c5,hf⟩;have:=hw.of_cons.tail;rw[hr]at this;exact this.of_cons
            · rw[if_neg c5]at h;cases h
          · rw[if_neg c4]at h;cases h
      · rw[if_neg c3]at h;injection h with h1 h2
        subst h1 h2;exact ⟨⟨fun hh=>hne hh.1,Or.inr hn,Or.inl rfl⟩,hw.of_cons,fun hh=>absurd rfl hh,hf⟩
  · rw[if_neg c1]at h;by_cases c2:Bb p=true
    · rw[if_pos c2]at h;have hv:BL p.2=true:=by
        simp only[Bb,Bool.and_eq_true]at c2;exact c2.2
      have hne:p.2≠eS:=fun e=>by rw[e,Vt]at hv;cases hv
      by_cases c3:full=true
      · rw[if_pos c3]at h;cases h
      · rw[if_neg c3]at h;by_cases c4:kn p.2=true
        · rw[if_pos c4]at h;injection h with h1 h2
          subst h1 h2;exact ⟨⟨fun hh=>hne hh.2,Or.inl rfl,Or.inr hv⟩,hw.of_cons,fun _=>c4,by simpa using c3⟩
        · rw[if_neg c4]at h;cases h
    · rw[if_neg c2]at h;cases h
theorem Jm (kn:ByteArray->Bool) (m:Nat):∀(neg:Bool) (acc:List Mn) (r:List PT) (l:List Mn) (r1:List PT),WF r->acc.length<=64->(∀x∈acc,Hr x)->Fh kn acc->Cd kn m neg acc r=.ok l r1->Dd l/\WF r1/\Fh kn l:=by
 induction m with
 |zero=>intro neg acc r l r1 _ _ _ _ h;cases h
 |succ m ih=>
  intro neg acc r l r1 hw hc ha hk h;rw[Cd]at h;cases hm:Bc kn (acc.length==64) neg r with
  |fuel=>rw[hm]at h;cases h
  |err c r2=>rw[hm]at h;cases h
  |ok x r2=>
   rw[hm]at h;obtain ⟨h1,h2,h3,h4⟩:=Pm hw hm;have h5:acc.length≠64:=(by simpa using h4);have ha2:∀y∈acc++[x],Hr y:=fun y hy=>by
     rcases List.mem_append.1 hy with hy|hy
     · exact ha y hy
     · have:y=x:=by simpa using hy
       rw[this];exact h1
   have hk2:Fh kn (acc++[x]):=fun y hy=>by
     rcases List.mem_append.1 hy with hy|hy
     · exact hk y hy
     · have:y=x:=by simpa using hy
       rw[this];exact h3
   have hc2:(acc++[x]).length<=64:=(by rw[List.length_append,List.length_cons,List.length_nil];omega);dsimp only at h
   by_cases c1:AK ⟨#[45]⟩ r2=true
   · rw[if_pos c1]at h;exact ih _ _ _ _ _ h2.tail hc2 ha2 hk2 h
   · rw[if_neg c1]at h;by_cases c2:AK ⟨#[43]⟩ r2=true
     · rw[if_pos c2]at h;exact ih _ _ _ _ _ h2.tail hc2 ha2 hk2 h
     · rw[if_neg c2]at h;injection h with e1 e2
       subst e1 e2;exact ⟨⟨by rw[List.length_append,List.length_cons,List.length_nil];omega,hc2,ha2⟩,h2,hk2⟩
theorem LI {kn:ByteArray->Bool} {r r1:List PT} {l:List Mn} (hw:WF r) (h:Be kn r=.ok l r1):Dd l/\WF r1/\Fh kn l:=by
 unfold Be at h;split at h
 · exact Jm kn _ _ _ _ _ _ hw.tail (Nat.zero_le _) (fun x hx=>by cases hx) (fun x hx=>by cases hx) h
 · exact Jm kn _ _ _ _ _ _ hw (Nat.zero_le _) (fun x hx=>by cases hx) (fun x hx=>by cases hx) h
theorem Xa {r:List PT} {op:Nat} (h:N0 r=some op):op<6:=by unfold N0 at h;have:=List.mem_of_find?_eq_some h;simpa using this
theorem RP {kn:ByteArray->Bool} {r r1:List PT} {t:Tr} (hw:WF r) (h:Gg kn r=.ok t r1):∃l op x,t=.cmp l op x/\Dd l/\op<6/\Dd x/\WF r1/\Fh kn l/\Fh kn x:=by
 unfold Gg at h;cases h1:Be kn r with
 |fuel=>rw[h1]at h;cases h
 |err c r1=>rw[h1]at h;cases h
 |ok l r2=>
  rw[h1]at h;obtain ⟨a1,a2,a3⟩:=LI hw h1;dsimp only at h
  cases h2:N0 r2 with
  |none=>rw[h2]at h;cases h
  |some op=>
   rw[h2]at h;dsimp only at h
   cases h3:Be kn r2.tail with
   |fuel=>rw[h3]at h;cases h
   |err c r2=>rw[h3]at h;cases h
   |ok x r3=>
    rw[h3]at h;obtain ⟨b1,b2,b3⟩:=LI a2.tail h3;dsimp only at h
    injection h with e1 e2
    subst e1 e2;exact ⟨l,op,x,rfl,a1,Xa h2,b1,b2,a3,b3⟩
def Kw (lv:Nat) (t:Tr):Prop:=if AD t || Au t then 1<=lv/\right (lv-1) t else right lv t
def Og (lv:Nat) (t:Tr):Prop:=if Au t then 1<=lv/\right (lv-1) t else right lv t
theorem RQ {lv:Nat} {t:Tr} (h:Kw lv t):right lv t:=by
 unfold Kw at h;split at h
 · exact Hs t _ _ (by omega) h.2
 · exact h
theorem RR {lv:Nat} {t:Tr} (h:Og lv t):right lv t:=by
 unfold Og at h;split at h
 · exact Hs t _ _ (by omega) h.2
 · exact h
theorem Vu {lv:Nat} {t:Tr} (h:Kw lv t):Og lv t:=by
 unfold Og;split
 · rename_i hc
   unfold Kw at h;rw[hc,Bool.or_true,if_pos rfl]at h;exact h
 · exact RQ h
def Zb (lv:Nat):Md->Tr->Prop
 |.one,t=>Kw lv t
 |.both,t=>Og lv t
 |.bothGo _,t=>Og lv t
 |.cond,t=>right lv t
 |.condGo _,t=>right lv t
def Vv (kn:ByteArray->Bool) (lv:Nat):Md->Prop
 |.bothGo t=>Og lv t/\knows kn t
 |.condGo t=>right lv t/\knows kn t
 |_=>True
theorem Pn (kn:ByteArray->Bool) (n:Nat):∀(md:Md) (lv:Nat) (r:List PT) (t:Tr) (r1:List PT),WF r->Vv kn lv md->AW kn n md lv r=.ok t r1->Zb lv md t/\WF r1/\knows kn t:=by
 induction n with
 |zero=>intro md lv r t r1 _ _ h;cases h
 |succ n ih=>
  intro md lv r t r1 hw hs h;cases md with
  |one=>
   rw[Ic]at h;by_cases c1:lv=0/\(AK ⟨#[33]⟩ r=true\/AK ⟨#[40]⟩ r=true)
   · rw[if_pos c1]at h;cases h
   · rw[if_neg c1]at h;by_cases c2:AK ⟨#[33]⟩ r=true
     · rw[if_pos c2]at h;obtain ⟨t2,r2,h1,h2⟩:=bind_ok h;injection h2 with e1 e2
       subst e1 e2;obtain ⟨a1,a2,a3⟩:=ih .one _ _ _ _ hw.tail trivial h1;have hlv:1<=lv:=by
         rcases Nat.eq_zero_or_pos lv with h0|h0
         · exact absurd ⟨h0,Or.inl c2⟩ c1
         · exact h0
       refine ⟨?_,a2,a3⟩;show Kw lv (.deny t2);unfold Kw;rw[if_neg (show ¬((AD (.deny t2) || Au (.deny t2))=true) from Bool.false_ne_true)];unfold right;have a1':Kw (lv-1) t2:=a1;unfold Kw at a1';split
       · rename_i hc
         rw[if_pos hc]at a1';exact ⟨by have:=a1'.1;omega,by rw[show lv-2=lv-1-1 by omega];exact a1'.2⟩
       · rename_i hc
         rw[if_neg hc]at a1';exact ⟨hlv,a1'⟩
     · rw[if_neg c2]at h;by_cases c3:AK ⟨#[40]⟩ r=true
       · rw[if_pos c3]at h;obtain ⟨t2,r2,h1,h2⟩:=bind_ok h;obtain ⟨a1,a2,a3⟩:=ih .cond _ _ _ _ hw.tail trivial h1;have hlv:1<=lv:=by
           rcases Nat.eq_zero_or_pos lv with h0|h0
           · exact absurd ⟨h0,Or.inr c3⟩ c1
           · exact h0
         split at h2
         · injection h2 with e1 e2
           subst e1 e2;refine ⟨?_,a2.tail,a3⟩;show Kw lv t2;unfold Kw;split
           · exact ⟨hlv,a1⟩
           · exact Hs t2 _ _ (by omega) a1
         · cases h2
       · rw[if_neg c3]at h;split at h
         · injection h with e1 e2
           subst e1 e2;exact ⟨trivial,hw.tail,trivial⟩
         · split at h
           · injection h with e1 e2
             subst e1 e2;exact ⟨trivial,hw.tail,trivial⟩
           · obtain ⟨l,op,x,rfl,a1,a2,a3,a4,a5,a6⟩:=RP hw h;exact ⟨⟨a1,a2,a3⟩,a4,a5,a6⟩
  |both=>
   rw[GG]at h;obtain ⟨t2,r2,h1,h2⟩:=bind_ok h;obtain ⟨a1,a2,a3⟩:=ih .one _ _ _ _ hw trivial h1;exact ih (.bothGo t2) _ _ _ _ a2 ⟨Vu a1,a3⟩ h2
  |bothGo k=>
   rw[EZ]at h;split at h
   · obtain ⟨t2,r2,h1,h2⟩:=bind_ok h;obtain ⟨a1,a2,a3⟩:=ih .one _ _ _ _ hw.tail trivial h1;refine ih (.bothGo (.both k t2)) _ _ _ _ a2 ⟨?_,hs.2,a3⟩ h2;unfold Og;rw[if_neg (show ¬(Au (.both k t2)=true) from Bool.false_ne_true)];exact ⟨hs.1,a1⟩
   · injection h with e1 e2
     subst e1 e2;exact ⟨hs.1,hw,hs.2⟩
  |cond=>
   rw[GH]at h;obtain ⟨t2,r2,h1,h2⟩:=bind_ok h;obtain ⟨a1,a2,a3⟩:=ih .both _ _ _ _ hw trivial h1;exact ih (.condGo t2) _ _ _ _ a2 ⟨RR a1,a3⟩ h2
  |condGo k=>
   rw[Fa]at h;split at h
   · obtain ⟨t2,r2,h1,h2⟩:=bind_ok h;obtain ⟨a1,a2,a3⟩:=ih .both _ _ _ _ hw.tail trivial h1;exact ih (.condGo (.any k t2)) _ _ _ _ a2 ⟨⟨hs.1,a1⟩,hs.2,a3⟩ h2
   · injection h with e1 e2
     subst e1 e2;exact ⟨hs.1,hw,hs.2⟩
theorem Po {kn:ByteArray->Bool} {lv:Nat} {r r1:List PT} {t:Tr} (hw:WF r) (h:Am kn .cond lv r=.ok t r1):right lv t/\WF r1/\knows kn t:=Pn kn _ .cond lv r t r1 hw trivial h
end
end Go.Proofs.YtgohmojcopajoaaGreatDoor.Ex
namespace Go.Proofs.YtgohmojcopajoaaGreatDoor
section
open Lx Ex
def Jn (m:Mn):Bool:=!(decide (m.num=eS)&&decide (m.var=eS))&&(decide (m.num=eS) || Da m.num)&&(decide (m.var=eS) || BL m.var)
theorem Vw (m:Mn):Jn m=true↔Hr m:=by
 unfold Jn Hr;simp only[Bool.and_eq_true,Bool.or_eq_true,decide_eq_true_eq,Bool.not_eq_true',Bool.and_eq_false_imp,decide_eq_false_iff_not];constructor
 · rintro ⟨⟨h1,h2⟩,h3⟩;exact ⟨fun h=>h1 h.1 h.2,h2,h3⟩
 · rintro ⟨h1,h2,h3⟩;exact ⟨⟨fun h h'=>h1 ⟨h,h'⟩,h2⟩,h3⟩
def Bd (l:List Mn):Bool:=decide (1<=l.length)&&decide (l.length<=64)&&l.all Jn
theorem EN (l:List Mn):Bd l=true↔Dd l:=by unfold Bd Dd;simp only[Bool.and_eq_true,decide_eq_true_eq,List.all_eq_true,Vw,and_assoc]
def GT.kind:GT->Int|.mk k _ _ _ _ _ _=>k
def GT.kids:GT->List GT|.mk _ _ _ _ _ _ ks=>ks
def Gc:GT->Bool|.mk _ l r op p q _=>decide (l.length=0)&&decide (r.length=0)&&decide (op=0)&&decide (p=eS)&&decide (q=eS)
def Lc:GT->Bool|.mk k l r op p q ks=>decide (k=2)&&decide (p=eS)&&decide (q=eS)&&decide (ks.length=0)&&decide (0<=op)&&decide (op<6)&&Bd l&&Bd r
def AZ (k kid:Int) (i:Nat):Bool:=if kid=5 then decide (k≠5) || decide (0<i) else if kid=4 then decide (k=3) || (decide (k=4)&&decide (0<i)) else false
def Cu (k:Int):Option Nat:=if k=0\/k=1 then some 0 else if k=3 then some 1 else if k=4\/k=5 then some 2 else none
mutual
def AH:GT->Int->Bool
 |.mk k l r op p q kids,lv=>if k=2 then Lc (.mk k l r op p q kids) else match Cu k with
  |none=>false
  |some n=>decide (kids.length=n)&&Gc (.mk k l r op p q kids)&&BO kids k 0 (if k=3 then lv-1 else lv)
def BO:List GT->Int->Nat->Int->Bool
 |[],_,_,_=>true
 |t::ts,k,i,lv=>(decide (0<=(if AZ k t.kind i then lv-1 else lv))&&AH t (if AZ k t.kind i then lv-1 else lv))&&BO ts k (i+1) lv
end
theorem Jo (u:Tr):AD u=decide ((gt u).kind=4):=by cases u<;>first|rfl|(rename_i b;cases b<;>rfl)
theorem FR (u:Tr):Au u=decide ((gt u).kind=5):=by cases u<;>first|rfl|(rename_i b;cases b<;>rfl)
theorem Wh (u:Tr) (i:Nat):AZ 3 (gt u).kind i=(AD u || Au u):=by
 rw[Jo,FR];unfold AZ;by_cases h5:(gt u).kind=5
 · rw[h5];simp
 · by_cases h4:(gt u).kind=4
   · rw[h4];simp
   · simp[h4,h5]
theorem Ua (u:Tr):AZ 4 (gt u).kind 0=Au u:=by
 rw[FR];unfold AZ;by_cases h5:(gt u).kind=5
 · rw[h5];simp
 · by_cases h4:(gt u).kind=4
   · rw[h4];simp
   · simp[h4,h5]
theorem Ub (u:Tr):AZ 4 (gt u).kind 1=(AD u || Au u):=by
 rw[Jo,FR];unfold AZ;by_cases h5:(gt u).kind=5
 · rw[h5];simp
 · by_cases h4:(gt u).kind=4
   · rw[h4];simp
   · simp[h4,h5]
theorem Uc (u:Tr):AZ 5 (gt u).kind 0=false:=by
 unfold AZ;by_cases h5:(gt u).kind=5
 · rw[h5];simp
 · by_cases h4:(gt u).kind=4
   · rw[h4];simp
   · simp[h4,h5]
theorem Ud (u:Tr):AZ 5 (gt u).kind 1=Au u:=by
 rw[FR];unfold AZ;by_cases h5:(gt u).kind=5
 · rw[h5];simp
 · by_cases h4:(gt u).kind=4
   · rw[h4];simp
   · simp[h4,h5]
theorem Vx {c:Bool} {t:GT} {lv:Int} {P:Nat->Prop} (h:∀l:Nat,AH t (l:Int)=true↔P l):(decide (0<=(if c then lv-1 else lv))&&AH t (if c then lv-1 else lv))=true↔if c then 1<=lv/\P (lv-1).toNat else 0<=lv/\P lv.toNat:=by
 cases c
 · simp only[Bool.false_eq_true,if_false,Bool.and_eq_true,decide_eq_true_eq];constructor
   · rintro ⟨h1,h2⟩;exact ⟨h1,(h _).1 (by rw[Int.toNat_of_nonneg h1];exact h2)⟩
   · rintro ⟨h1,h2⟩;refine ⟨h1,?_⟩;have:=(h _).2 h2;rwa [Int.toNat_of_nonneg h1]at this
 · simp only[if_true,Bool.and_eq_true,decide_eq_true_eq];constructor
   · rintro ⟨h1,h2⟩;exact ⟨by omega,(h _).1 (by rw[Int.toNat_of_nonneg h1];exact h2)⟩
   · rintro ⟨h1,h2⟩;refine ⟨by omega,?_⟩;have:=(h _).2 h2;rwa [Int.toNat_of_nonneg (by omega)]at this
def RS (t:GT) (k:Int) (i:Nat) (lv:Int):Bool:=decide (0<=(if AZ k t.kind i then lv-1 else lv))&&AH t (if AZ k t.kind i then lv-1 else lv)
theorem EO (t:GT) (ts:List GT) (k:Int) (i:Nat) (lv:Int):BO (t::ts) k i lv=(RS t k i lv&&BO ts k (i+1) lv):=by rw[BO];rfl
theorem F8 (k:Int) (i:Nat) (lv:Int):BO [] k i lv=true:=by rw[BO]
theorem G3 {t:GT} {k:Int} {i:Nat} {lv:Int} {P:Nat->Prop} (h:∀l:Nat,AH t (l:Int)=true↔P l):RS t k i lv=true↔if AZ k t.kind i then 1<=lv/\P (lv-1).toNat else 0<=lv/\P lv.toNat:=Vx h
theorem Ez (u:Tr):∀lv:Nat,AH (gt u) (lv:Int)=true↔right lv u:=by
 have bare:∀(k:Int) (ks:List GT),Gc (.mk k [] [] 0 ⟨#[]⟩ ⟨#[]⟩ ks)=true:=fun k ks=>by simp[Gc,eS]
 induction u with
 |leaf b=>intro lv;cases b<;>simp[gt,AH,right,Cu,Gc,BO,eS]
 |cmp l op r=>
  intro lv;rw[gt,AH,if_pos rfl,Lc,right,<-EN,<-EN];simp[eS];constructor
  · rintro ⟨⟨h1,h2⟩,h3⟩;exact ⟨h2,by omega,h3⟩
  · rintro ⟨h2,h1,h3⟩;exact ⟨⟨by omega,h2⟩,h3⟩
 |deny t ih=>
  intro lv;have e1:((lv:Int)-1).toNat=lv-1:=by omega
  have e2:((lv:Int)-1-1).toNat=lv-2:=by omega
  rw[gt,AH,if_neg (by decide),show Cu 3=some 1 from rfl];simp only[EO,F8,Bool.and_true,Bool.and_eq_true,if_true];rw[G3 ih,Wh,right,e1,e2];cases AD t || Au t
  · simp only[Bool.false_eq_true,if_false];exact ⟨fun h=>⟨by omega,h.2.2⟩,fun h=>⟨⟨rfl,bare _ _⟩,by omega,h.2⟩⟩
  · simp only[if_true];exact ⟨fun h=>⟨by omega,h.2.2⟩,fun h=>⟨⟨rfl,bare _ _⟩,by omega,h.2⟩⟩
 |both a b iha ihb=>
  intro lv;have e1:((lv:Int)-1).toNat=lv-1:=by omega
  have e2:((lv:Int)).toNat=lv:=by omega
  rw[gt,AH,if_neg (by decide),show Cu 4=some 2 from rfl];simp only[EO,F8,Bool.and_true,Bool.and_eq_true,Nat.zero_add];rw[if_neg (show ¬(4:Int)=3 by decide),G3 iha,G3 ihb,Ua,Ub,right,e1,e2];cases Au a<;>cases AD b || Au b
  · simp only[Bool.false_eq_true,if_false];exact ⟨fun h=>⟨h.2.1.2,h.2.2.2⟩,fun h=>⟨⟨rfl,bare _ _⟩,⟨by omega,h.1⟩,⟨by omega,h.2⟩⟩⟩
  · simp only[Bool.false_eq_true,if_false,if_true];exact ⟨fun h=>⟨h.2.1.2,by omega,h.2.2.2⟩,fun h=>⟨⟨rfl,bare _ _⟩,⟨by omega,h.1⟩,⟨by omega,h.2.2⟩⟩⟩
  · simp only[Bool.false_eq_true,if_false,if_true];exact ⟨fun h=>⟨⟨by omega,h.2.1.2⟩,h.2.2.2⟩,fun h=>⟨⟨rfl,bare _ _⟩,⟨by omega,h.1.2⟩,⟨by omega,h.2⟩⟩⟩
  · simp only[if_true];exact ⟨fun h=>⟨⟨by omega,h.2.1.2⟩,by omega,h.2.2.2⟩,fun h=>⟨⟨rfl,bare _ _⟩,⟨by omega,h.1.2⟩,⟨by omega,h.2.2⟩⟩⟩
 |any a b iha ihb=>
  intro lv;have e1:((lv:Int)-1).toNat=lv-1:=by omega
  have e2:((lv:Int)).toNat=lv:=by omega
  rw[gt,AH,if_neg (by decide),show Cu 5=some 2 from rfl];simp only[EO,F8,Bool.and_true,Bool.and_eq_true,Nat.zero_add];rw[if_neg (show ¬(5:Int)=3 by decide),G3 iha,G3 ihb,Uc,Ud,right,e1,e2];cases Au b
  · simp only[Bool.false_eq_true,if_false];exact ⟨fun h=>⟨h.2.1.2,h.2.2.2⟩,fun h=>⟨⟨rfl,bare _ _⟩,⟨by omega,h.1⟩,⟨by omega,h.2⟩⟩⟩
  · simp only[Bool.false_eq_true,if_false,if_true];exact ⟨fun h=>⟨h.2.1.2,by omega,h.2.2.2⟩,fun h=>⟨⟨rfl,bare _ _⟩,⟨by omega,h.1⟩,⟨by omega,h.2.2⟩⟩⟩
theorem Iu {α:Type} {l:List α} (h:l.length=0):l=[]:=List.eq_nil_of_length_eq_zero h
theorem Oh (Z:Nat):∀(t:GT) (lv:Int),SizeOf.sizeOf t<=Z->AH t lv=true->∃u,t=gt u:=by
 induction Z with
 |zero=>intro t lv hz;obtain ⟨k,l,r,op,p,q,ks⟩:=t;simp at hz
 |succ Z ih=>
  intro t lv hz h;obtain ⟨k,l,r,op,p,q,ks⟩:=t;rw[AH]at h;by_cases h2:k=2
  · rw[if_pos h2,Lc]at h;simp only[Bool.and_eq_true,decide_eq_true_eq]at h;obtain ⟨⟨⟨⟨⟨⟨⟨-,hp⟩,hq⟩,hk⟩,h0⟩,h6⟩,-⟩,-⟩:=h;refine ⟨.cmp l op.toNat r,?_⟩;rw[gt,h2,hp,hq,Iu hk,Int.toNat_of_nonneg h0];rfl
  · rw[if_neg h2]at h;have bare:Gc (.mk k l r op p q ks)=true->l=[]/\r=[]/\op=0/\p=eS/\q=eS:=fun hb=>by
      rw[Gc]at hb;simp only[Bool.and_eq_true,decide_eq_true_eq]at hb;exact ⟨Iu hb.1.1.1.1,Iu hb.1.1.1.2,hb.1.1.2,hb.1.2,hb.2⟩
    have kid:∀x∈ks,SizeOf.sizeOf x<=Z:=fun x hx=>by have:=List.sizeOf_lt_of_mem hx;simp at hz;omega
    by_cases h01:k=0\/k=1
    · rw[show Cu k=some 0 from by unfold Cu;rw[if_pos h01]]at h;simp only[Bool.and_eq_true,decide_eq_true_eq]at h;obtain ⟨e1,e2,e3,e4,e5⟩:=bare h.1.2;refine ⟨.leaf (decide (k=0)),?_⟩;rw[gt,e1,e2,e3,e4,e5,Iu h.1.1];rcases h01 with rfl|rfl<;>rfl
    · by_cases h3:k=3
      · rw[show Cu k=some 1 from by rw[h3];rfl]at h;simp only[Bool.and_eq_true,decide_eq_true_eq]at h;obtain ⟨e1,e2,e3,e4,e5⟩:=bare h.1.2;obtain ⟨a,rfl⟩:=List.length_eq_one_iff.1 h.1.1;have hk:=h.2;simp only[BO,Bool.and_true,Bool.and_eq_true]at hk;obtain ⟨u,rfl⟩:=ih a _ (kid a (by simp)) hk.2;exact ⟨.deny u,by rw[gt,e1,e2,e3,e4,e5,h3];rfl⟩
      · by_cases h45:k=4\/k=5
        · rw[show Cu k=some 2 from by unfold Cu;rw[if_neg h01,if_neg h3,if_pos h45]]at h;simp only[Bool.and_eq_true,decide_eq_true_eq]at h;obtain ⟨e1,e2,e3,e4,e5⟩:=bare h.1.2;have hl:=h.1.1;match ks,hl with
          |[a,b],_=>
           have hk:=h.2;simp only[BO,Bool.and_true,Bool.and_eq_true]at hk;obtain ⟨u,rfl⟩:=ih a _ (kid a (by simp)) hk.1.2;obtain ⟨v,rfl⟩:=ih b _ (kid b (by simp)) hk.2.2;rcases h45 with rfl|rfl
           · exact ⟨.both u v,by rw[gt,e1,e2,e3,e4,e5];rfl⟩
           · exact ⟨.any u v,by rw[gt,e1,e2,e3,e4,e5];rfl⟩
        · rw[show Cu k=none from by unfold Cu;rw[if_neg h01,if_neg h3,if_neg h45]]at h;cases h
theorem Ue {t:GT} {lv:Nat} (h:AH t (lv:Int)=true):∃u,t=gt u/\right lv u:=by obtain ⟨u,rfl⟩:=Oh _ t _ (Nat.le_refl _) h;exact ⟨u,rfl,(Ez u lv).1 h⟩
end
section
open Go.RowKit
open Lx Ex
def Bq (b:Bool) (w:World) (e:Ending) (w':World):Prop:=e=.returned (.bool b)/\Below w.heap.size w w'
theorem Vy:(eS.toList:List UInt8)=[]:=by rw[Lib.toList_data];rfl
theorem Du {s:ByteArray} (h:s=eS):(s.toList==([]:List UInt8))=true:=by rw[h,Vy];rfl
theorem Cv {s:ByteArray} (h:s≠eS):(s.toList==([]:List UInt8))=false:=by
 rw[beq_eq_false_iff_ne];intro e;apply h;rw[Lib.toList_data]at e;cases s with
 |mk d=>cases d with
  |mk l=>simp at e;rw[e];rfl
theorem RU (m:Mn) (w0:World) (hn:m.num.size<=4611686018427387904) (hv:m.var.size<=4611686018427387904):Calls Tryz.prog 39 #[.agg #[.bool m.neg,.string m.num,.string m.var]] w0 (Bq (Jn m) w0):=by
 obtain ⟨x1,hb,-⟩:=Av 88 w0 #[.bool m.neg,.string m.num,.string m.var];have c1:=x1.cell 1 _ rfl;have c2:=x1.cell 2 _ rfl;have HB:=Aa hb;have X1:=Aa x1;have HN:=Aa (fun W=>JO m.num W hn);have HV:=Aa (fun W=>Nx m.var W hv);unfold JM at HN HV;have HNE:=Aa (show Qr 3 m.num=Da m.num from number_eq _);have HVE:=Aa (show (Qr 1 m.var&&!Mu m.var)=BL m.var from Mw _);have HNN:=Aa (fun W=>HNE.out▸HN.out W);have HVV:=Aa (fun W=>HVE.out▸HV.out W)
 obtain ⟨neg,num,var,hm⟩:∃neg num var,m=⟨num,var,neg⟩:=⟨m.neg,m.num,m.var,by cases m;rfl⟩;subst hm;clear hb x1 hn hv HN HV HNE HVE;by_cases hn:num=eS
 · by_cases hv:var=eS
   · have hn1:=Du hn;have hv1:=Du hv;have HE:=Aa (show Jn ⟨num,var,neg⟩=false from by simp[Jn,hn,hv]);clear hn hv;go_enter Tryz.func39,Tryz.ntmps39;go_wp2_with fail;go_ret
     exact ⟨by rw[HE.out];rfl,HB.out⟩
   · have hn1:=Du hn;have hv1:=Cv hv;have HE:=Aa (show Jn ⟨num,var,neg⟩=BL var from by simp[Jn,hn,hv]);clear hn hv;go_enter Tryz.func39,Tryz.ntmps39;go_wp2_with fail;refine (HVV.out _).mono ?_;rintro e w2 ⟨rfl,b2⟩;have HB2:=Aa (HB.out.next b2);clear b2;go_wp2_with fail;go_ret
     exact ⟨by rw[HE.out];rfl,HB2.out⟩
 · by_cases hv:var=eS
   · have hn1:=Cv hn;have hv1:=Du hv;have HE:=Aa (show Jn ⟨num,var,neg⟩=(Da num&&true) from by simp[Jn,hn,hv]);clear hn hv;go_enter Tryz.func39,Tryz.ntmps39;go_wp2_with fail;refine (HNN.out _).mono ?_;rintro e w2 ⟨rfl,b2⟩;have HB2:=Aa (HB.out.next b2);have c1:=(X1.out.next b2).cell 1 _ rfl;have c2:=(X1.out.next b2).cell 2 _ rfl;clear b2;have HE:=Aa HE.out;generalize Da num=rn at *;cases rn
     · go_wp2_with fail;go_ret
       exact ⟨by rw[HE.out];rfl,HB2.out⟩
     · go_wp2_with fail;go_ret
       exact ⟨by rw[HE.out];rfl,HB2.out⟩
   · have hn1:=Cv hn;have hv1:=Cv hv;have HE:=Aa (show Jn ⟨num,var,neg⟩=(Da num&&BL var) from by simp[Jn,hn,hv]);clear hn hv;go_enter Tryz.func39,Tryz.ntmps39;go_wp2_with fail;refine (HNN.out _).mono ?_;rintro e w2 ⟨rfl,b2⟩;have HB2:=Aa (HB.out.next b2);have c1:=(X1.out.next b2).cell 1 _ rfl;have c2:=(X1.out.next b2).cell 2 _ rfl;clear b2;have HE:=Aa HE.out;generalize Da num=rn at *;cases rn
     · go_wp2_with fail;go_ret
       exact ⟨by rw[HE.out];rfl,HB2.out⟩
     · go_wp2_with fail;refine (HVV.out _).mono ?_;rintro e w3 ⟨rfl,b3⟩;have HB3:=Aa (HB2.out.next b3);clear b3;go_wp2_with fail;go_ret
       exact ⟨by rw[HE.out];rfl,HB3.out⟩
end
end Go.Proofs.YtgohmojcopajoaaGreatDoor
