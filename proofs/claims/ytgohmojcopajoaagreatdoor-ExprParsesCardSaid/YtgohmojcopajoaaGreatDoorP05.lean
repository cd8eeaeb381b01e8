/- Texts of one seat, put together: ExprF ExprMem BoxG ExprCur. -/
import Derived.Test.YtgohmojcopajoaaGreatDoorP04
import Derived.Test.YtgohmojcopajoaaGreatDoorP03
set_option linter.unusedVariables false
set_option linter.unusedSimpArgs false
set_option maxRecDepth 100000
set_option maxHeartbeats 16000000
namespace Go.Proofs.YtgohmojcopajoaaGreatDoor.Ex
section
theorem FT {s:ByteArray} {r:List PT} (h:AD s r=true):0<r.length:=by
 cases r with
 |nil=>cases h
 |cons p r=>exact Nat.succ_pos _
theorem CB (r:List PT):r.tail.length=r.length-1:=by simp
theorem Je {kn:ByteArray->Bool} {full neg:Bool} {r r1:List PT} {x:Mn} (h:Bd kn full neg r=.ok x r1):r1.length<r.length:=by
 cases r with
 |nil=>cases h
 |cons p r=>
  rw[Bd]at h;by_cases c1:(p.1==3)=true
  · rw[if_pos c1]at h;by_cases c2:full=true
    · rw[if_pos c2]at h;cases h
    · rw[if_neg c2]at h;by_cases c3:AD ⟨#[42]⟩ r=true
      · rw[if_pos c3]at h;cases hr:r.tail with
        |nil=>rw[hr]at h;cases h
        |cons p2 r2=>
          rw[hr]at h;have hl:=CB r;rw[hr,List.length_cons]at hl;dsimp only at h
          by_cases c4:AL p2=true
          · rw[if_pos c4]at h;by_cases c5:kn p2.2=true
            · rw[if_pos c5]at h;injection h with _ h
              subst h;rw[List.length_cons];omega
            · rw[if_neg c5]at h;cases h
          · rw[if_neg c4]at h;cases h
      · rw[if_neg c3]at h;injection h with _ h
        subst h;exact Nat.lt_succ_self _
  · rw[if_neg c1]at h;by_cases c2:AL p=true
    · rw[if_pos c2]at h;by_cases c3:full=true
      · rw[if_pos c3]at h;cases h
      · rw[if_neg c3]at h;by_cases c4:kn p.2=true
        · rw[if_pos c4]at h;injection h with _ h
          subst h;exact Nat.lt_succ_self _
        · rw[if_neg c4]at h;cases h
    · rw[if_neg c2]at h;cases h
theorem Ip (kn:ByteArray->Bool) (full neg:Bool) (r:List PT):Bd kn full neg r≠.fuel:=by
 intro h;cases r with
 |nil=>cases h
 |cons p r=>
  rw[Bd]at h;by_cases c1:(p.1==3)=true
  · rw[if_pos c1]at h;by_cases c2:full=true
    · rw[if_pos c2]at h;cases h
    · rw[if_neg c2]at h;by_cases c3:AD ⟨#[42]⟩ r=true
      · rw[if_pos c3]at h;cases hr:r.tail with
        |nil=>rw[hr]at h;cases h
        |cons p2 r2=>
          rw[hr]at h;dsimp only at h
          by_cases c4:AL p2=true
          · rw[if_pos c4]at h;by_cases c5:kn p2.2=true
            · rw[if_pos c5]at h;cases h
            · rw[if_neg c5]at h;cases h
          · rw[if_neg c4]at h;cases h
      · rw[if_neg c3]at h;cases h
  · rw[if_neg c1]at h;by_cases c2:AL p=true
    · rw[if_pos c2]at h;by_cases c3:full=true
      · rw[if_pos c3]at h;cases h
      · rw[if_neg c3]at h;by_cases c4:kn p.2=true
        · rw[if_pos c4]at h;cases h
        · rw[if_neg c4]at h;cases h
    · rw[if_neg c2]at h;cases h
theorem EJ (kn:ByteArray->Bool) (m:Nat):∀(neg:Bool) (acc:List Mn) (r:List PT),(r.length<m->CO kn m neg acc r≠.fuel)/\∀x r1,CO kn m neg acc r=.ok x r1->r1.length<r.length:=by
 induction m with
 |zero=>intro neg acc r;exact ⟨fun h=>absurd h (Nat.not_lt_zero _),fun x r1 h=>by cases h⟩
 |succ m ih=>
  intro neg acc r;rw[CO];cases hm:Bd kn (acc.length==64) neg r with
  |fuel=>exact absurd hm (Ip _ _ _ _)
  |err c r1=>exact ⟨(fun _ h=>by cases h),(fun x r2 h=>by cases h)⟩
  |ok x r1=>
   have hl:=Je hm;have ht:=CB r1;dsimp only
   by_cases c1:AD ⟨#[45]⟩ r1=true
   · rw[if_pos c1];obtain ⟨h1,h2⟩:=ih true (acc++[x]) r1.tail;exact ⟨fun h=>h1 (by omega),fun y r2 h=>by have:=h2 y r2 h;omega⟩
   · rw[if_neg c1];by_cases c2:AD ⟨#[43]⟩ r1=true
     · rw[if_pos c2];obtain ⟨h1,h2⟩:=ih false (acc++[x]) r1.tail;exact ⟨fun h=>h1 (by omega),fun y r2 h=>by have:=h2 y r2 h;omega⟩
     · rw[if_neg c2];refine ⟨fun _ h=>(by cases h),fun y r2 h=>?_⟩;injection h with _ h
       subst h;exact hl
theorem Ee (kn:ByteArray->Bool) (r:List PT):AX kn r≠.fuel:=by
 unfold AX;have:=CB r;split
 · exact (EJ kn _ _ _ _).1 (by omega)
 · exact (EJ kn _ _ _ _).1 (by omega)
theorem Mc {kn:ByteArray->Bool} {r r1:List PT} {x:List Mn} (h:AX kn r=.ok x r1):r1.length<r.length:=by
 unfold AX at h;have:=CB r;split at h
 · have:=(EJ kn _ _ _ _).2 _ _ h;omega
 · exact (EJ kn _ _ _ _).2 _ _ h
theorem P6 (kn:ByteArray->Bool) (r:List PT):FS kn r≠.fuel:=by
 intro h;unfold FS at h;cases h1:AX kn r with
 |fuel=>exact Ee kn r h1
 |err c r1=>rw[h1]at h;cases h
 |ok l r1=>
  rw[h1]at h;dsimp only at h
  cases h2:JM r1 with
  |none=>rw[h2]at h;cases h
  |some op=>
   rw[h2]at h;dsimp only at h
   cases h3:AX kn r1.tail with
   |fuel=>exact Ee kn _ h3
   |err c r2=>rw[h3]at h;cases h
   |ok x r2=>rw[h3]at h;cases h
theorem Ra {kn:ByteArray->Bool} {r r1:List PT} {t:Tr} (h:FS kn r=.ok t r1):r1.length<r.length:=by
 unfold FS at h;cases h1:AX kn r with
 |fuel=>rw[h1]at h;cases h
 |err c r1=>rw[h1]at h;cases h
 |ok l r1=>
  rw[h1]at h;have hl:=Mc h1;dsimp only at h
  cases h2:JM r1 with
  |none=>rw[h2]at h;cases h
  |some op=>
   rw[h2]at h;dsimp only at h
   cases h3:AX kn r1.tail with
   |fuel=>rw[h3]at h;cases h
   |err c r2=>rw[h3]at h;cases h
   |ok x r2=>
    rw[h3]at h;have hl3:=Mc h3;have ht:=CB r1;dsimp only at h
    injection h with _ h
    subst h;omega
def Di:Md->Nat
 |.one=>1
 |.bothGo _=>2
 |.both=>3
 |.condGo _=>4
 |.cond=>5
def bind (o:Out Tr) (K:Tr->List PT->Out Tr):Out Tr:=
 match o with
 |.fuel=>.fuel
 |.err c r=>.err c r
 |.ok t r=>K t r
theorem Ef {o:Out Tr} {K:Tr->List PT->Out Tr} (h:o≠.fuel) (hK:∀t r,o=.ok t r->K t r≠.fuel):bind o K≠.fuel:=by
 cases o with
 |fuel=>exact absurd rfl h
 |err c r=>exact fun e=>by cases e
 |ok t r=>exact hK t r rfl
theorem bind_ok {o:Out Tr} {K:Tr->List PT->Out Tr} {t:Tr} {r:List PT} (h:bind o K=.ok t r):∃t1 r1,o=.ok t1 r1/\K t1 r1=.ok t r:=by
 cases o with
 |fuel=>cases h
 |err c r=>cases h
 |ok t1 r1=>exact ⟨t1,r1,rfl,h⟩
theorem Hj (kn:ByteArray->Bool) (n lv:Nat) (r:List PT):BE kn (n+1) .one lv r=if lv=0/\(AD ⟨#[33]⟩ r=true\/AD ⟨#[40]⟩ r=true) then .err 102 r else if AD ⟨#[33]⟩ r=true then bind (BE kn n .one (lv-1) r.tail) (fun t r1=>.ok (.deny t) r1)
 else if AD ⟨#[40]⟩ r=true then bind (BE kn n .cond (lv-1) r.tail) (fun t r1=>if AD ⟨#[41]⟩ r1=true then .ok t r1.tail else .err 101 r1)
 else if AD ⟨#[116,114,117,101]⟩ r=true then .ok (.leaf true) r.tail else if AD ⟨#[102,97,108,115,101]⟩ r=true then .ok (.leaf false) r.tail else FS kn r:=rfl
theorem Gq (kn:ByteArray->Bool) (n lv:Nat) (r:List PT):BE kn (n+1) .both lv r=bind (BE kn n .one lv r) (fun t r1=>BE kn n (.bothGo t) lv r1):=rfl
theorem EK (kn:ByteArray->Bool) (n lv:Nat) (t:Tr) (r:List PT):BE kn (n+1) (.bothGo t) lv r=if AD ⟨#[38]⟩ r=true then bind (BE kn n .one lv r.tail) (fun k r1=>BE kn n (.bothGo (.both t k)) lv r1) else .ok t r:=rfl
theorem Gr (kn:ByteArray->Bool) (n lv:Nat) (r:List PT):BE kn (n+1) .cond lv r=bind (BE kn n .both lv r) (fun t r1=>BE kn n (.condGo t) lv r1):=rfl
theorem EL (kn:ByteArray->Bool) (n lv:Nat) (t:Tr) (r:List PT):BE kn (n+1) (.condGo t) lv r=if AD ⟨#[124]⟩ r=true then bind (BE kn n .both lv r.tail) (fun k r1=>BE kn n (.condGo (.any t k)) lv r1) else .ok t r:=rfl
theorem Dp (kn:ByteArray->Bool) (n:Nat):∀(md:Md) (lv:Nat) (r:List PT) (t:Tr) (r1:List PT),BE kn n md lv r=.ok t r1->r1.length<=r.length:=by
 induction n with
 |zero=>intro md lv r t r1 h;cases h
 |succ n ih=>
  intro md lv r t r1 h;have ht:=CB r;cases md with
  |one=>
   rw[Hj]at h;split at h
   · cases h
   · split at h
     · obtain ⟨t2,r2,h1,h2⟩:=bind_ok h;injection h2 with _ h2
       subst h2;have:=ih _ _ _ _ _ h1;omega
     · split at h
       · obtain ⟨t2,r2,h1,h2⟩:=bind_ok h;have h3:=ih _ _ _ _ _ h1;have h4:=CB r2;split at h2
         · injection h2 with _ h2
           subst h2;omega
         · cases h2
       · split at h
         · injection h with _ h
           subst h;omega
         · split at h
           · injection h with _ h
             subst h;omega
           · exact Nat.le_of_lt (Ra h)
  |both=>
   rw[Gq]at h;obtain ⟨t2,r2,h1,h2⟩:=bind_ok h;have:=ih _ _ _ _ _ h1;have:=ih _ _ _ _ _ h2;omega
  |bothGo k=>
   rw[EK]at h;split at h
   · obtain ⟨t2,r2,h1,h2⟩:=bind_ok h;have:=ih _ _ _ _ _ h1;have:=ih _ _ _ _ _ h2;omega
   · injection h with _ h
     subst h;exact Nat.le_refl _
  |cond=>
   rw[Gr]at h;obtain ⟨t2,r2,h1,h2⟩:=bind_ok h;have:=ih _ _ _ _ _ h1;have:=ih _ _ _ _ _ h2;omega
  |condGo k=>
   rw[EL]at h;split at h
   · obtain ⟨t2,r2,h1,h2⟩:=bind_ok h;have:=ih _ _ _ _ _ h1;have:=ih _ _ _ _ _ h2;omega
   · injection h with _ h
     subst h;exact Nat.le_refl _
theorem Ky (kn:ByteArray->Bool) (n:Nat):∀(md:Md) (lv:Nat) (r:List PT),8*r.length+Di md<=n->BE kn n md lv r≠.fuel:=by
 induction n with
 |zero=>intro md lv r h;cases md<;>simp[Di]at h
 |succ n ih=>
  intro md lv r h;have ht:=CB r;cases md with
  |one=>
   simp only[Di]at h;rw[Hj];by_cases c1:lv=0/\(AD ⟨#[33]⟩ r=true\/AD ⟨#[40]⟩ r=true)
   · rw[if_pos c1];exact fun e=>by cases e
   · rw[if_neg c1];by_cases c2:AD ⟨#[33]⟩ r=true
     · have:=FT c2;rw[if_pos c2];exact Ef (ih _ _ _ (by simp only[Di];omega)) (fun _ _ _ e=>by cases e)
     · rw[if_neg c2];by_cases c3:AD ⟨#[40]⟩ r=true
       · have:=FT c3;rw[if_pos c3];refine Ef (ih _ _ _ (by simp only[Di];omega)) (fun _ _ _=>?_);split<;>exact fun e=>by cases e
       · rw[if_neg c3];split
         · exact fun e=>by cases e
         · split
           · exact fun e=>by cases e
           · exact P6 kn r
  |both=>
   simp only[Di]at h;rw[Gq];refine Ef (ih _ _ _ (by simp only[Di];omega)) (fun t r1 hk=>?_);have:=Dp kn n _ _ _ _ _ hk;exact ih _ _ _ (by simp only[Di];omega)
  |bothGo k=>
   simp only[Di]at h;rw[EK];by_cases c:AD ⟨#[38]⟩ r=true
   · have:=FT c;rw[if_pos c];refine Ef (ih _ _ _ (by simp only[Di];omega)) (fun t r1 hk=>?_);have:=Dp kn n _ _ _ _ _ hk;exact ih _ _ _ (by simp only[Di];omega)
   · rw[if_neg c];exact fun e=>by cases e
  |cond=>
   simp only[Di]at h;rw[Gr];refine Ef (ih _ _ _ (by simp only[Di];omega)) (fun t r1 hk=>?_);have:=Dp kn n _ _ _ _ _ hk;exact ih _ _ _ (by simp only[Di];omega)
  |condGo k=>
   simp only[Di]at h;rw[EL];by_cases c:AD ⟨#[124]⟩ r=true
   · have:=FT c;rw[if_pos c];refine Ef (ih _ _ _ (by simp only[Di];omega)) (fun t r1 hk=>?_);have:=Dp kn n _ _ _ _ _ hk;exact ih _ _ _ (by simp only[Di];omega)
   · rw[if_neg c];exact fun e=>by cases e
def Ak (kn:ByteArray->Bool) (md:Md) (lv:Nat) (r:List PT):Out Tr:=BE kn (8*r.length+8) md lv r
theorem Td (md:Md):Di md<=5:=by cases md<;>simp[Di]
theorem CS (kn:ByteArray->Bool) {n:Nat} {md:Md} (lv:Nat) {r:List PT} (h:8*r.length+Di md<=n):BE kn n md lv r=Ak kn md lv r:=by
 have h1:=Ky kn n md lv r h;have h2:=Ky kn (8*r.length+8) md lv r (by have:=Td md;omega);unfold Ak;rcases Nat.le_total n (8*r.length+8) with hle|hle
 · obtain ⟨k,hk⟩:=Nat.exists_eq_add_of_le hle;rw[hk,Kx kn k h1]
 · obtain ⟨k,hk⟩:=Nat.exists_eq_add_of_le hle;rw[hk,Kx kn k h2]
theorem F0 {o:Out Tr} {K K':Tr->List PT->Out Tr} (h:∀t r,o=.ok t r->K t r=K' t r):bind o K=bind o K':=by
 cases o with
 |fuel=>rfl
 |err c r=>rfl
 |ok t r=>exact h t r rfl
theorem El (kn:ByteArray->Bool) (lv:Nat) (r:List PT):Ak kn .both lv r=bind (Ak kn .one lv r) (fun t r1=>Ak kn (.bothGo t) lv r1):=by
 conv=>lhs;unfold Ak
 rw[Gq,CS kn lv (by simp only[Di];omega)];refine F0 (fun t r1 h=>?_);have:=Dp kn _ _ _ _ _ _ h;exact CS kn lv (by simp only[Di];omega)
theorem F3 (kn:ByteArray->Bool) (lv:Nat) (r:List PT):Ak kn .cond lv r=bind (Ak kn .both lv r) (fun t r1=>Ak kn (.condGo t) lv r1):=by
 conv=>lhs;unfold Ak
 rw[Gr,CS kn lv (by simp only[Di];omega)];refine F0 (fun t r1 h=>?_);have:=Dp kn _ _ _ _ _ _ h;exact CS kn lv (by simp only[Di];omega)
theorem Eb (kn:ByteArray->Bool) (lv:Nat) (t:Tr) (r:List PT):Ak kn (.bothGo t) lv r=if AD ⟨#[38]⟩ r=true then bind (Ak kn .one lv r.tail) (fun k r1=>Ak kn (.bothGo (.both t k)) lv r1) else .ok t r:=by
 conv=>lhs;unfold Ak
 rw[EK];have ht:=CB r;by_cases c:AD ⟨#[38]⟩ r=true
 · have:=FT c;rw[if_pos c,if_pos c,CS kn lv (by simp only[Di];omega)];refine F0 (fun k r1 h=>?_);have:=Dp kn _ _ _ _ _ _ h;exact CS kn lv (by simp only[Di];omega)
 · rw[if_neg c,if_neg c]
theorem F4 (kn:ByteArray->Bool) (lv:Nat) (t:Tr) (r:List PT):Ak kn (.condGo t) lv r=if AD ⟨#[124]⟩ r=true then bind (Ak kn .both lv r.tail) (fun k r1=>Ak kn (.condGo (.any t k)) lv r1) else .ok t r:=by
 conv=>lhs;unfold Ak
 rw[EL];have ht:=CB r;by_cases c:AD ⟨#[124]⟩ r=true
 · have:=FT c;rw[if_pos c,if_pos c,CS kn lv (by simp only[Di];omega)];refine F0 (fun k r1 h=>?_);have:=Dp kn _ _ _ _ _ _ h;exact CS kn lv (by simp only[Di];omega)
 · rw[if_neg c,if_neg c]
theorem Eg (kn:ByteArray->Bool) (lv:Nat) (r:List PT):Ak kn .one lv r=if lv=0/\(AD ⟨#[33]⟩ r=true\/AD ⟨#[40]⟩ r=true) then .err 102 r else if AD ⟨#[33]⟩ r=true then bind (Ak kn .one (lv-1) r.tail) (fun t r1=>.ok (.deny t) r1)
   else if AD ⟨#[40]⟩ r=true then bind (Ak kn .cond (lv-1) r.tail) (fun t r1=>if AD ⟨#[41]⟩ r1=true then .ok t r1.tail else .err 101 r1)
   else if AD ⟨#[116,114,117,101]⟩ r=true then .ok (.leaf true) r.tail else if AD ⟨#[102,97,108,115,101]⟩ r=true then .ok (.leaf false) r.tail else FS kn r:=by
 conv=>lhs;unfold Ak
 rw[Hj];have ht:=CB r;by_cases c1:lv=0/\(AD ⟨#[33]⟩ r=true\/AD ⟨#[40]⟩ r=true)
 · rw[if_pos c1,if_pos c1]
 · rw[if_neg c1,if_neg c1];by_cases c2:AD ⟨#[33]⟩ r=true
   · have:=FT c2;rw[if_pos c2,if_pos c2,CS kn (lv-1) (by simp only[Di];omega)]
   · rw[if_neg c2,if_neg c2];by_cases c3:AD ⟨#[40]⟩ r=true
     · have:=FT c3;rw[if_pos c3,if_pos c3,CS kn (lv-1) (by simp only[Di];omega)]
     · rw[if_neg c3,if_neg c3]
theorem Eh {kn:ByteArray->Bool} {md:Md} {lv:Nat} {r r1:List PT} {t:Tr} (h:Ak kn md lv r=.ok t r1):r1.length<=r.length:=Dp kn _ _ _ _ _ _ h
end
end Go.Proofs.YtgohmojcopajoaaGreatDoor.Ex
namespace Go.Proofs.YtgohmojcopajoaaGreatDoor
section
open Go.RowKit
open Lx Ex
def pt (t:TK):PT:=(t.kind,t.text)
def N7:TK:=⟨5,⟨#[]⟩,0,0⟩
def view (ts:List TK) (i:Nat):List TK:=if ts.length=0 then [N7] else ts.drop (min i (ts.length-1))
def rd (ts:List TK) (i:Nat):List PT:=(view ts i).map pt
def hd (ts:List TK) (i:Nat):TK:=(view ts i).headD N7
def Jf (ts:List TK):Prop:=∀t,ts[ts.length-1]?=some t->t.kind=5
theorem OW (ts:List TK) (i:Nat):0<(view ts i).length:=by
 unfold view;split
 · simp
 · rw[List.length_drop];omega
theorem KX (ts:List TK) (i:Nat):(rd ts i).length=(view ts i).length:=by simp[rd]
theorem Jg (ts:List TK) (i:Nat):0<(rd ts i).length:=by rw[KX];exact OW ts i
theorem CW (ts:List TK) (i:Nat):rd ts i=pt (hd ts i)::(rd ts i).tail:=by
 unfold rd hd;have:=OW ts i;cases hv:view ts i with
 |nil=>rw[hv]at this;simp at this
 |cons t r=>rfl
theorem Rb (ts:List TK) (i:Nat) (h:0<ts.length):ts[min i (ts.length-1)]?=some (hd ts i):=by
 have hl:min i (ts.length-1)<ts.length:=by omega
 unfold hd view;rw[if_neg (by omega),List.drop_eq_getElem_cons hl,List.getElem?_eq_getElem hl];rfl
theorem KY (ts:List TK) (i:Nat) (h:ts.length=0):hd ts i=N7:=by unfold hd view;rw[if_pos h];rfl
theorem Gs {ts:List TK} {i:Nat} (he:Jf ts) (hk:(hd ts i).kind≠5):rd ts (i+1)=(rd ts i).tail/\(rd ts (i+1)).length+1=(rd ts i).length/\i+1<ts.length:=by
 have h0:ts.length≠0:=fun h=>hk (by rw[KY ts i h];rfl)
 have h1:i<ts.length-1:=by
   rcases Nat.lt_or_ge i (ts.length-1) with h|h
   · exact h
   · have h2:=Rb ts i (by omega);rw[Nat.min_eq_right h]at h2;exact absurd (he _ h2) hk
 have e1:rd ts i=(ts.drop i).map pt:=by unfold rd view;rw[if_neg h0,Nat.min_eq_left (by omega)]
 have e2:rd ts (i+1)=(ts.drop (i+1)).map pt:=by unfold rd view;rw[if_neg h0,Nat.min_eq_left (by omega)]
 rw[e1,e2];refine ⟨?_,?_,by omega⟩
 · rw[List.drop_eq_getElem_cons (show i<ts.length by omega)];rfl
 · simp;omega
theorem KZ (s:ByteArray) (ts:List TK) (i:Nat):AD s (rd ts i)=(decide ((hd ts i).text=s)&&((hd ts i).kind==1 || (hd ts i).kind==2 || (hd ts i).kind==4)):=by rw[CW];rfl
theorem AV {ts:List TK} {i:Nat} (he:Jf ts) {s:ByteArray} (h:AD s (rd ts i)=true):rd ts (i+1)=(rd ts i).tail/\(rd ts (i+1)).length+1=(rd ts i).length/\i+1<ts.length:=by refine Gs he (fun h5=>?_);rw[KZ,h5]at h;simp at h
def Ex.Mn.cells (m:Mn):List Value:=[.bool m.neg,.string m.num,.string m.var]
def Cj (l:List Mn):List Value:=(l.map Ex.Mn.cells).flatten
theorem La (ps qs:List Mn):Cj (ps++qs)=Cj ps++Cj qs:=by unfold Cj;rw[List.map_append,List.flatten_append]
theorem NA (t:Mn) (ts:List Mn):Cj (t::ts)=t.cells++Cj ts:=rfl
theorem Kz {ps:List Mn} {u:Value} (hu:u∈Cj ps):(∃z:Bool,u=.bool z)\/∃s,u=.string s:=by
 unfold Cj at hu;obtain ⟨l,hl,hu⟩:=List.mem_flatten.1 hu;obtain ⟨p,-,rfl⟩:=List.mem_map.1 hl;simp[Mn.cells]at hu;rcases hu with rfl|rfl|rfl
 · exact Or.inl ⟨_,rfl⟩
 · exact Or.inr ⟨_,rfl⟩
 · exact Or.inr ⟨_,rfl⟩
theorem P7 (ps:List Mn):∀u∈Cj ps,u.oneCell'=true:=by intro u hu;rcases Kz hu with ⟨z,rfl⟩|⟨s,rfl⟩<;>rfl
theorem P8 (ps:List Mn):CQ (Cj ps):=by
 intro u hu;rcases Kz hu with ⟨z,rfl⟩|⟨s,rfl⟩
 · exact NL.bool _
 · intro z h;cases h
theorem P9 (l:List Mn) (i:Nat) (m:Mn) (h:l[i]?=some m):(Cj l)[3*i]?=some (.bool m.neg)/\(Cj l)[3*i+1]?=some (.string m.num)/\(Cj l)[3*i+2]?=some (.string m.var):=by
 induction l generalizing i with
 |nil=>simp at h
 |cons q ts ih=>
  rw[NA];cases i with
  |zero=>
   simp at h;subst h;exact ⟨rfl,rfl,rfl⟩
  |succ i=>
   have h2:=ih i (by simpa using h);have hl:q.cells.length=3:=rfl;rw[show 3*(i+1)=q.cells.length+3*i by rw[hl];omega,show q.cells.length+3*i+1=q.cells.length+(3*i+1) by omega,show q.cells.length+3*i+2=q.cells.length+(3*i+2) by omega,
    List.getElem?_append_right (by omega),List.getElem?_append_right (by omega),List.getElem?_append_right (by omega)]
   simpa using h2
def As (S:Nat->Prop) (w w':World):Prop:=w.heap.size<=w'.heap.size/\∀b,S b->b<w.heap.size->w'.heap[b]?=w.heap[b]?
def AH (B b:Nat):Prop:=B<=b
theorem As.of_below {S:Nat->Prop} {w w':World} (h:Below w.heap.size w w'):As S w w':=⟨h.size,fun b _ hb=>h.block b hb⟩
theorem As.of_only' {S:Nat->Prop} {g:Nat} {w w':World} (h:An g w w') (hg:¬S g):As S w w':=⟨h.size,fun b hB hb=>h.block b hb (fun e=>by injection e with e;subst e;exact hg hB)⟩
theorem As.of_only {B g:Nat} {w w':World} (h:An g w w') (hg:g<B):As (AH B) w w':=As.of_only' h (fun hh=>by unfold AH at hh;omega)
def De (S:Nat->Prop) (w:World) (A:Option Addr) (n:Nat) (l:List Mn):Prop:=
 l.length=n/\(0<n->∃b o,A=some ⟨b,o,none⟩/\S b/\b<w.heap.size/\∀j u,(Cj l)[j]?=some u->w.cell? ⟨b,o+j,none⟩=some u)
theorem De.keep {S:Nat->Prop} {w w':World} {A:Option Addr} {n:Nat} {l:List Mn} (h:De S w A n l) (k:As S w w'):De S w' A n l:=by refine ⟨h.1,fun hn=>?_⟩;obtain ⟨b,o,e,hB,hlt,hc⟩:=h.2 hn;exact ⟨b,o,e,hB,Nat.lt_of_lt_of_le hlt k.1,fun j u hu=>(World.cell?_of_block (w:=w) (a:=⟨b,o+j,none⟩) (k.2 b hB hlt)).trans (hc j u hu)⟩
theorem De.sub {S S':Nat->Prop} {w:World} {A:Option Addr} {n:Nat} {l:List Mn} (h:De S w A n l) (hB:∀b,S b->S' b):De S' w A n l:=by refine ⟨h.1,fun hn=>?_⟩;obtain ⟨b,o,e,h1,hlt,hc⟩:=h.2 hn;exact ⟨b,o,e,hB b h1,hlt,hc⟩
theorem De.mono {B B':Nat} {w:World} {A:Option Addr} {n:Nat} {l:List Mn} (h:De (AH B) w A n l) (hB:B'<=B):De (AH B') w A n l:=h.sub (fun b hb=>Nat.le_trans hB hb)
theorem De.nil (S:Nat->Prop) (w:World) (A:Option Addr):De S w A 0 []:=⟨rfl,fun h=>absurd h (by omega)⟩
theorem De.at_ {S:Nat->Prop} {w:World} {A:Option Addr} {n i:Nat} {l:List Mn} (h:De S w A n l) (hi:i<n):∃b o m,A=some ⟨b,o,none⟩/\b<w.heap.size/\l[i]?=some m/\w.cell? ⟨b,o+i*3,none⟩=some (.bool m.neg)/\w.cell? ⟨b,o+i*3+1,none⟩=some (.string m.num)/\w.cell? ⟨b,o+i*3+2,none⟩=some (.string m.var):=by
 obtain ⟨b,o,e,hB,hlt,hc⟩:=h.2 (by omega);have hl:i<l.length:=by rw[h.1];exact hi
 obtain ⟨g0,g1,g2⟩:=P9 l i l[i] (List.getElem?_eq_getElem hl);refine ⟨b,o,l[i],e,hlt,List.getElem?_eq_getElem hl,?_,?_,?_⟩
 · rw[show o+i*3=o+3*i by omega];exact hc _ _ g0
 · rw[show o+i*3+1=o+(3*i+1) by omega];exact hc _ _ g1
 · rw[show o+i*3+2=o+(3*i+2) by omega];exact hc _ _ g2
theorem Am.min {T:TypeId} {w:World} {base:Nat} {v:Value} {l:List Mn} (h:Am T 3 w base v l.length (Cj l)):∃A c,v=.slice A l.length c/\l.length<=c/\c<=9223372036854775807/\De (AH base) w A l.length l:=by obtain ⟨A,c,rfl,h1,h2,h3⟩:=h.len;refine ⟨A,c,rfl,h1,h2,rfl,fun hn=>?_⟩;obtain ⟨g,rfl,hb,hlt,hc⟩:=h.cell hn;exact ⟨g,0,rfl,hb,hlt,fun j u hu=>by rw[Nat.zero_add];exact (hc j u hu).1⟩
inductive GT where
 |mk (kind:Int) (l r:List Mn) (op:Int) (proc loc:ByteArray) (kids:List GT)
def sl (A:Option Addr) (n c:Nat):Value:=.slice A n c
inductive Bq (S:Nat->Prop) (w:World):GT->List Value->Prop where
 |mk (k op:Int) (l r:List Mn) (p q:ByteArray) (kids:List GT) (Al Ar A:Option Addr) (nl cl nr cr n c:Nat) (b o:Nat) (cs:Nat->List Value) :
  De S w Al nl l->De S w Ar nr r->kids.length=n->nl<=cl->cl<=9223372036854775807->nr<=cr->cr<=9223372036854775807->n<=c->c<=9223372036854775807 ->
  (0<n->A=some ⟨b,o,none⟩/\S b/\b<w.heap.size) ->
  (∀j,j<n->(cs j).length=7/\∀m u,(cs j)[m]?=some u->w.cell? ⟨b,o+j*7+m,none⟩=some u) ->
  (∀j t,kids[j]?=some t->Bq S w t (cs j)) ->
  Bq S w (.mk k l r op p q kids) [.int .i64 k,.slice Al nl cl,.slice Ar nr cr,.int .i64 op,.string p,.string q,.slice A n c]
theorem Bq.keep {S:Nat->Prop} {w w':World} {t:GT} {vs:List Value} (h:Bq S w t vs) (k:As S w w'):Bq S w' t vs:=by
 induction h with
 |mk kd op l r p q kids Al Ar A nl cl nr cr n c b o cs h1 h2 h3 h4 h5 h6 h7 h8 h9 h10 h11 h12 ih=> refine Bq.mk kd op l r p q kids Al Ar A nl cl nr cr n c b o cs (h1.keep k) (h2.keep k) h3 h4 h5 h6 h7 h8 h9 (fun hn=>⟨(h10 hn).1,(h10 hn).2.1,Nat.lt_of_lt_of_le (h10 hn).2.2 k.1⟩) (fun j hj=>⟨(h11 j hj).1,fun m u hu=>?_⟩) ih;have hb:=h10 (by omega);exact (World.cell?_of_block (w:=w) (a:=⟨b,o+j*7+m,none⟩) (k.2 b hb.2.1 hb.2.2)).trans ((h11 j hj).2 m u hu)
theorem Bq.sub {S S':Nat->Prop} {w:World} {t:GT} {vs:List Value} (h:Bq S w t vs) (hB:∀b,S b->S' b):Bq S' w t vs:=by
 induction h with
 |mk kd op l r p q kids Al Ar A nl cl nr cr n c b o cs h1 h2 h3 h4 h5 h6 h7 h8 h9 h10 h11 h12 ih=> exact Bq.mk kd op l r p q kids Al Ar A nl cl nr cr n c b o cs (h1.sub hB) (h2.sub hB) h3 h4 h5 h6 h7 h8 h9 (fun hn=>⟨(h10 hn).1,hB _ (h10 hn).2.1,(h10 hn).2.2⟩) h11 ih
theorem Bq.mono {B B':Nat} {w:World} {t:GT} {vs:List Value} (h:Bq (AH B) w t vs) (hB:B'<=B):Bq (AH B') w t vs:=h.sub (fun b hb=>Nat.le_trans hB hb)
def gt:Tr->GT
 |.leaf b=>.mk (if b then 0 else 1) [] [] 0 ⟨#[]⟩ ⟨#[]⟩ []
 |.cmp l op r=>.mk 2 l r (op:Int) ⟨#[]⟩ ⟨#[]⟩ []
 |.deny t=>.mk 3 [] [] 0 ⟨#[]⟩ ⟨#[]⟩ [gt t]
 |.both a b=>.mk 4 [] [] 0 ⟨#[]⟩ ⟨#[]⟩ [gt a,gt b]
 |.any a b=>.mk 5 [] [] 0 ⟨#[]⟩ ⟨#[]⟩ [gt a,gt b]
def Yb:Value:=.slice none 0 0
def VL (k:Int):List Value:=[.int .i64 k,.slice none 0 0,.slice none 0 0,.int .i64 0,.string ⟨#[]⟩,.string ⟨#[]⟩,.slice none 0 0]
theorem Bq.leaf (S:Nat->Prop) (w:World) (k:Int):Bq S w (.mk k [] [] 0 ⟨#[]⟩ ⟨#[]⟩ []) (VL k):=
 Bq.mk k 0 [] [] _ _ [] none none none 0 0 0 0 0 0 0 0 (fun _=>[]) (De.nil _ _ _) (De.nil _ _ _) rfl (by omega) (by omega) (by omega) (by omega) (by omega) (by omega) (fun h=>absurd h (by omega)) (fun j h=>absurd h (by omega)) (fun j t h=>by simp at h)
theorem Bq.cmp {S:Nat->Prop} {w:World} {Al Ar:Option Addr} {nl cl nr cr:Nat} {l r:List Mn} (k op:Int) (h1:De S w Al nl l) (h2:De S w Ar nr r) (h3:nl<=cl) (h4:cl<=9223372036854775807) (h5:nr<=cr) (h6:cr<=9223372036854775807) :
  Bq S w (.mk k l r op ⟨#[]⟩ ⟨#[]⟩ []) [.int .i64 k,.slice Al nl cl,.slice Ar nr cr,.int .i64 op,.string ⟨#[]⟩,.string ⟨#[]⟩,.slice none 0 0]:=
 Bq.mk k op l r _ _ [] Al Ar none nl cl nr cr 0 0 0 0 (fun _=>[]) h1 h2 rfl h3 h4 h5 h6 (by omega) (by omega) (fun h=>absurd h (by omega)) (fun j h=>absurd h (by omega)) (fun j t h=>by simp at h)
theorem Bq.len {S:Nat->Prop} {w:World} {t:GT} {vs:List Value} (h:Bq S w t vs):vs.length=7:=by cases h;rfl
theorem Bq.kids {S:Nat->Prop} {g:Nat} {w:World} {T:TypeId} (k:Int) (kids:List GT) (css:List (List Value)) (hl:kids.length=css.length) (hB:S g) (hg:w.heap[g]?=some (.cells css.flatten.toArray T (0,0)))
   (hk:∀(j:Nat) (t:GT),kids[j]?=some t->∃cs:List Value,css[j]?=some cs/\Bq S w t cs) (hn:kids.length<=1000) :
   Bq S w (.mk k [] [] 0 ⟨#[]⟩ ⟨#[]⟩ kids) [.int .i64 k,.slice none 0 0,.slice none 0 0,.int .i64 0,.string ⟨#[]⟩,.string ⟨#[]⟩,.slice (some ⟨g,0,none⟩) kids.length kids.length]:=by
 have hlen:∀cs∈css,cs.length=7:=by
   intro cs hc;obtain ⟨j,hj,he⟩:=List.mem_iff_getElem.1 hc;obtain ⟨cs',h1,h2⟩:=hk j kids[j] (List.getElem?_eq_getElem (by omega));rw[List.getElem?_eq_getElem hj,he]at h1;injection h1 with h1;subst h1
   exact h2.len
 refine Bq.mk k 0 [] [] _ _ kids none none (some ⟨g,0,none⟩) 0 0 0 0 kids.length kids.length g 0 (fun j=>css.getD j []) (De.nil _ _ _) (De.nil _ _ _) rfl (by omega) (by omega) (by omega) (by omega) (Nat.le_refl _) (by omega)
   (fun _=>⟨rfl,hB,(Array.getElem?_eq_some_iff.1 hg).1⟩) (fun j hj=>?_) (fun j t ht=>?_)
 · have hj':j<css.length:=(by omega);have e:css.getD j []=css[j]:=(by simp[hj']);have h7:(css[j]).length=7:=hlen _ (List.getElem_mem hj');refine ⟨by rw[e];exact h7,fun m u hu=>?_⟩;rw[e]at hu;have hm:m<7:=by
    rcases Nat.lt_or_ge m 7 with h|h
    · exact h
    · rw[List.getElem?_eq_none (by omega)]at hu;cases hu
   rw[cell_of_row w g _ _ _ _ hg];have hf:∀(xs:List (List Value)) (j:Nat) (h:j<xs.length),(∀cs∈xs,cs.length=7)->(xs[j])[m]?=some u->xs.flatten[j*7+m]?=some u:=by
    intro xs;induction xs with
    |nil=>intro j h;simp at h
    |cons x xs ih=>
      intro j h ha hu;have hx:x.length=7:=ha x (by simp);rw[List.flatten_cons];cases j with
      |zero=>rw[List.getElem?_append_left (by omega)];simpa using hu
      |succ j=> rw[List.getElem?_append_right (by omega),hx,show (j+1)*7+m-7=j*7+m by omega];exact ih j (by simpa using h) (fun cs hc=>ha cs (by simp[hc])) (by simpa using hu)
   simpa using hf css j hj' hlen hu
 · obtain ⟨cs,h1,h2⟩:=hk j t ht;have:css.getD j []=cs:=by rw[List.getD_eq_getElem?_getD,h1];rfl
   rw[this];exact h2
end
section
open Go.RowKit
theorem F5 (w:World) (g:Nat) (cs:Array Value):An g w (w.setRow g cs):=
 ⟨rfl,rfl,rfl,by simp[World.setRow],fun k _ hne=>setRow_other w g k cs (fun hh=>hne (by rw[hh]))⟩
theorem Me (w:World) (o:Obj):(w.alloc o).heap.size=w.heap.size+1:=by show (w.heap.push o).size=_;simp
def Ao (T:TypeId) (w:World) (g:Nat) (cs:Array Value):Prop:=w.heap[g]?=some (.cells cs T (0,0))
section
variable {T:TypeId} {w w':World} {g k:Nat} {cs:Array Value} {x y z:Value}
theorem Ao.lt (h:Ao T w g cs):g<w.heap.size:=(Array.getElem?_eq_some_iff.1 h).1
theorem Ao.cell (h:Ao T w g cs) (i:Nat) (v:Value) (hv:cs[i]?=some v):w.cell? ⟨g,i,none⟩=some v:=by rw[cell_of_row w g i _ _ _ h];exact hv
theorem Ao.c0 (h:Ao T w g #[x,y,z]):w.cell? ⟨g,0,none⟩=some x:=h.cell 0 x rfl
theorem Ao.c1 (h:Ao T w g #[x,y,z]):w.cell? ⟨g,1,none⟩=some y:=h.cell 1 y rfl
theorem Ao.c2 (h:Ao T w g #[x,y,z]):w.cell? ⟨g,2,none⟩=some z:=h.cell 2 z rfl
theorem Ao.fr (h:Ao T w g cs) (i:Nat):w.frozen? ⟨g,i,none⟩=false:=by unfold Ao at h;simp[World.frozen?,h]
theorem Ao.below {B:Nat} (h:Ao T w g cs) (hb:Below B w w') (hg:g<B):Ao T w' g cs:=(hb.block g hg).trans h
theorem Ao.next (h:Ao T w g cs) (hb:Below w.heap.size w w'):Ao T w' g cs:=h.below hb h.lt
theorem Ao.new (T:TypeId) (w:World) (cs:Array Value):Ao T (w.alloc (.cells cs T)) w.heap.size cs:=heap_alloc_new w _
theorem Ao.alloc (h:Ao T w g cs) (o:Obj):Ao T (w.alloc o) g cs:=h.next (Ae w o)
theorem Ao.drew (h:Ao T w g cs):Ao T w.drew g cs:=h
theorem Ao.other (h:Ao T w g cs) (ho:An k w w') (hne:g≠k):Ao T w' g cs:=(ho.block g h.lt (fun hh=>hne (by injection hh))).trans h
theorem Ao.grown {row:Option Nat} (h:Ao T w g cs) (ho:w.grownBy w' row) (hne:some g≠row):Ao T w' g cs:=(ho.block g h.lt hne).trans h
theorem Ao.set_0 (h:Ao T w g #[x,y,z]) (x':Value):Ao T (w.setCell ⟨g,0,none⟩ x') g #[x',y,z]:=by unfold Ao at h ⊢;simp[World.setCell,Array.getElem?_modify,h]
theorem DD (w:World) (g i:Nat) (x:Value):An g w (w.setCell ⟨g,i,none⟩ x):=(An.refl g w).setCell i x
theorem Ao.kp (h:Ao T w g cs) (hn:CQ cs.toList) (ho:An g w w'):Kp w w':=Kp.block h hn ho
theorem SL (hx:NL x) (hy:NL y) (hz:NL z):CQ (#[x,y,z]:Array Value).toList:=by intro u hu;simp at hu;rcases hu with rfl|rfl|rfl<;>assumption
theorem Cc (hx:NL x) (hy:NL y):CQ (#[x,y]:Array Value).toList:=by intro u hu;simp at hu;rcases hu with rfl|rfl<;>assumption
theorem Ax (T:TypeId) (w:World) (X:Array Value):Ao T (w.alloc (.cells X T)) w.heap.size X/\Below w.heap.size w (w.alloc (.cells X T))/\(w.alloc (.cells X T)).heap.size=w.heap.size+1:=
 ⟨Ao.new T w X,Ae w _,Me w _⟩
theorem Aw (T U:TypeId) (w:World) (X Y:Array Value):Ao T ((w.alloc (.cells X T)).alloc (.cells Y U)) w.heap.size X/\Ao U ((w.alloc (.cells X T)).alloc (.cells Y U)) (w.heap.size+1) Y /\
  Below w.heap.size w ((w.alloc (.cells X T)).alloc (.cells Y U))/\((w.alloc (.cells X T)).alloc (.cells Y U)).heap.size=w.heap.size+2:=by
 obtain ⟨h1,h2,h3⟩:=Ax T w X;obtain ⟨k1,k2,k3⟩:=Ax U (w.alloc (.cells X T)) Y;rw[h3]at k1 k3;exact ⟨h1.alloc _,k1,h2.next (Ae _ _),by omega⟩
theorem Dq (T U V:TypeId) (w:World) (X Y Z:Array Value):Ao T (((w.alloc (.cells X T)).alloc (.cells Y U)).alloc (.cells Z V)) w.heap.size X/\Ao U (((w.alloc (.cells X T)).alloc (.cells Y U)).alloc (.cells Z V)) (w.heap.size+1) Y /\
  Ao V (((w.alloc (.cells X T)).alloc (.cells Y U)).alloc (.cells Z V)) (w.heap.size+1+1) Z/\Below w.heap.size w (((w.alloc (.cells X T)).alloc (.cells Y U)).alloc (.cells Z V))/\(((w.alloc (.cells X T)).alloc (.cells Y U)).alloc (.cells Z V)).heap.size=w.heap.size+3:=by
 obtain ⟨h1,h2,h3,h4⟩:=Aw T U w X Y;obtain ⟨k1,k2,k3⟩:=Ax V ((w.alloc (.cells X T)).alloc (.cells Y U)) Z;rw[h4]at k1 k3;have e2:w.heap.size+2=w.heap.size+1+1:=rfl;rw[e2]at k1;exact ⟨h1.alloc _,h2.alloc _,k1,h3.next (Ae _ _),by omega⟩
end
theorem Ab {P:Program} {w:World} {ops:Array Oper} {rest:List Oper} {o:Oper} {a:Act} {Q:Exit->Act->World->Prop} (hgd:o.guard=none) (T:TypeId) (x y:Operand) (ho:o.op=.store T x y)
  (g:Nat) (cells:Array Value) (hx:a.eval x=.pointer (some ⟨g,0,none⟩)) (hy:a.eval y=.agg cells) (old:Array Value) (hb:Ao T w g old) (hi:(P.info? T).map (·.size)=some cells.size) (hold:old.size=cells.size) (h1:cells.all (·.oneCell')=true)
  (h:∀w',Ao T w' g cells->An g w w'->wpList P ops Q rest (a.put o.dst undef) w'):wpList P ops Q (o::rest) a w:=by
 refine wpList_store_row hgd T x y ho g cells hx hy T old hb hi hold h1 ?_;refine h _ ?_ (F5 w g _);exact setRow_heap w g old cells _ _ hb
end
section
open Go.RowKit
open Lx Ex
def CY (s:ByteArray) (xs:List ByteArray):Bool:=xs.any fun x=>decide (x=s)
structure CD where
 A:Option Addr
 n:Nat
 c:Nat
 ts:List TK
 V:Option Addr
 m:Nat
 d:Nat
 vars:List ByteArray
 known:Bool
def CD.kn (D:CD) (s:ByteArray):Bool:=!D.known || CY s D.vars
structure Mf (D:CD) (g:Nat):Prop where
 ends:Jf D.ts
 apA:0<D.n->∀a,D.A=some a->a.block≠g
 apV:0<D.m->∀a,D.V=some a->a.block≠g
 nc:D.n<=D.c
 cm:D.c<=9223372036854775807
 md:D.m<=D.d
 dm:D.d<=9223372036854775807
 few:D.n<=1000000
 small:∀t∈D.ts,t.text.size<=4611686018427387904
 kinds:∀t∈D.ts,t.kind<10
 wf:∀t∈D.ts,t.kind=3->Do t.text=true
structure Ci (D:CD) (g:Nat) (w:World) (i:Nat):Prop where
 box:Ao 110 w g #[.slice D.A D.n D.c,.int .i64 (i:Int),.slice D.V D.m D.d,.bool D.known]
 kin:Nv w D.A D.n D.ts
 sin:Gy w D.V D.m D.vars
 good:Mf D g
 fits:i+(rd D.ts i).length<=1099511627776
section
variable {D:CD} {g i:Nat} {w w':World}
theorem Ci.below (h:Ci D g w i) (hb:Below w.heap.size w w'):Ci D g w' i:=⟨h.box.next hb,h.kin.below hb,h.sin.below hb,h.good,h.fits⟩
theorem Ci.lt (h:Ci D g w i):g<w.heap.size:=h.box.lt
theorem Ci.c0 (h:Ci D g w i):w.cell? ⟨g,0,none⟩=some (.slice D.A D.n D.c):=h.box.cell 0 _ rfl
theorem Ci.c1 (h:Ci D g w i):w.cell? ⟨g,1,none⟩=some (.int .i64 (i:Int)):=h.box.cell 1 _ rfl
theorem Ci.c2 (h:Ci D g w i):w.cell? ⟨g,2,none⟩=some (.slice D.V D.m D.d):=h.box.cell 2 _ rfl
theorem Ci.c3 (h:Ci D g w i):w.cell? ⟨g,3,none⟩=some (.bool D.known):=h.box.cell 3 _ rfl
theorem Ci.len (h:Ci D g w i):D.ts.length=D.n:=h.kin.1
theorem FU (w:World) (g j:Nat) (u:Value):An g w (w.setCell ⟨g,j,none⟩ u):=(An.refl g w).setCell j u
theorem Ci.set (h:Ci D g w i) (k:Nat) (hf:k+(rd D.ts k).length<=1099511627776):Ci D g (w.setCell ⟨g,1,none⟩ (.int .i64 (k:Int))) k:=by refine ⟨?_,h.kin.only (FU w g 1 _) h.good.apA,h.sin.only (FU w g 1 _) h.good.apV,h.good,hf⟩;have hb:=h.box;unfold Ao at hb ⊢;simp[World.setCell,Array.getElem?_modify,hb]
end
theorem An.fresh {g r:Nat} {a b c:World} (h:An g a b) (k:An r b c) (hr:a.heap.size<=r):An g a c:=
 ⟨k.os.trans h.os,k.tape.trans h.tape,k.output.trans h.output,Nat.le_trans h.size k.size,fun i hi hne=>(k.block i (Nat.lt_of_lt_of_le hi h.size) (fun e=>by injection e with e;omega)).trans (h.block i hi hne)⟩
theorem Ci.fresh {D:CD} {g r i i0:Nat} {a b c:World} (h0:Ci D g a i0) (h:Ci D g b i) (k:An r b c) (hr:a.heap.size<=r):Ci D g c i:=by
 have hg:=h0.lt;refine ⟨h.box.other k (by omega),h.kin.only k (fun hn x e=>?_),h.sin.only k (fun hn x e=>?_),h.good,h.fits⟩
 · obtain ⟨b0,o,e2,hlt,_⟩:=h0.kin.2 hn;rw[e2]at e;injection e with e;subst e
   show b0≠r;omega
 · obtain ⟨b0,o,e2,hlt,_⟩:=h0.sin.2 hn;rw[e2]at e;injection e with e;subst e
   show b0≠r;omega
theorem A0 {g:Nat} {w w':World} (h:Below w.heap.size w w'):An g w w':=
 ⟨h.os,h.tape,h.output,h.size,fun k hk _=>h.block k hk⟩
theorem An.next {g:Nat} {a b c:World} (h:An g a b) (k:Below b.heap.size b c):An g a c:=h.trans (A0 k)
theorem Lb (ts:List TK) (i:Nat):hd ts i∈ts\/hd ts i=N7:=by
 rcases Nat.eq_zero_or_pos ts.length with h|h
 · exact Or.inr (KY ts i h)
 · exact Or.inl (List.mem_of_getElem? (Rb ts i h))
theorem Mf.hd_small {D:CD} {g:Nat} (h:Mf D g) (i:Nat):(hd D.ts i).text.size<=4611686018427387904:=by
 rcases Lb D.ts i with q|q
 · exact h.small _ q
 · rw[q];exact Nat.zero_le _
theorem Mf.hd_wf {D:CD} {g:Nat} (h:Mf D g) (i:Nat) (h3:(hd D.ts i).kind=3):Do (hd D.ts i).text=true:=by
 rcases Lb D.ts i with q|q
 · exact h.wf _ q h3
 · rw[q]at h3;cases h3
def Aj (D:CD) (i:Nat) (r:List PT) (i':Nat):Prop:=rd D.ts i'=r/\i'+r.length=i+(rd D.ts i).length
theorem Aj.refl (D:CD) (i:Nat):Aj D i (rd D.ts i) i:=⟨rfl,rfl⟩
theorem Aj.trans {D:CD} {i i' i2:Nat} {r r2:List PT} (h:Aj D i r i') (k:Aj D i' r2 i2):Aj D i r2 i2:=by obtain ⟨h1,h2⟩:=h;obtain ⟨k1,k2⟩:=k;refine ⟨k1,?_⟩;rw[h1]at k2;omega
theorem Aj.trans' {D:CD} {i i' i2:Nat} {r r2:List PT} (h:Aj D i r i') (e:rd D.ts i2=r2) (k:i2+r2.length=i'+(rd D.ts i').length):Aj D i r2 i2:=h.trans ⟨e,k⟩
theorem Aj.step {D:CD} {i:Nat} (he:Jf D.ts) (hk:(hd D.ts i).kind≠5):Aj D i (rd D.ts i).tail (i+1):=by obtain ⟨h1,h2,_⟩:=Gs he hk;refine ⟨h1,?_⟩;rw[<-h1];omega
theorem Aj.fits {D:CD} {i i':Nat} {r:List PT} (h:Aj D i r i') (hf:i+(rd D.ts i).length<=1099511627776):i'+(rd D.ts i').length<=1099511627776:=by obtain ⟨h1,h2⟩:=h;rw[h1];omega
end
end Go.Proofs.YtgohmojcopajoaaGreatDoor
