/- Texts of one seat, put together: LexH LexI ExprM ExprF. -/
import Derived.Test.YtgohmojcopajoaaGreatDoorH03
set_option linter.unusedVariables false
set_option linter.unusedSimpArgs false
set_option maxRecDepth 100000
set_option maxHeartbeats 16000000
namespace Go.Proofs.YtgohmojcopajoaaGreatDoor
section
open Go.RowKit
open Lx
def LM (s:ByteArray):Bool:=(s.toList==[116,114,117,101]) || (s.toList==[102,97,108,115,101]) || (s.toList==[118,97,114]) || (s.toList==[105,110]) || (s.toList==[105,110,105,116]) || (s.toList==[112,114,111,99]) || (s.toList==[108,111,99]) || (s.toList==[101,110,100])
theorem LN (s:ByteArray) (w:World):Calls Tryz.prog 109 #[.string s] w (FM (.bool (LM s)) w):=by
 have HR:=Aa (show LM s=((s.toList==[116,114,117,101]) || (s.toList==[102,97,108,115,101]) || (s.toList==[118,97,114]) || (s.toList==[105,110]) || (s.toList==[105,110,105,116]) || (s.toList==[112,114,111,99]) || (s.toList==[108,111,99]) || (s.toList==[101,110,100])) from rfl);generalize LM s=r at *;by_cases h0:(s.toList==[116,114,117,101])=true
 · have hr:r=true:=(by rw[HR.out,h0];simp);subst hr;clear HR;go_enter Tryz.func109,Tryz.ntmps109;go_wp2_with fail;go_ret
   exact ⟨rfl,0,rfl⟩
 · have h0:(s.toList==[116,114,117,101])=false:=(by simpa using h0);by_cases h1:(s.toList==[102,97,108,115,101])=true
   · have hr:r=true:=(by rw[HR.out,h1];simp);subst hr;clear HR;go_enter Tryz.func109,Tryz.ntmps109;go_wp2_with fail;go_ret
     exact ⟨rfl,0,rfl⟩
   · have h1:(s.toList==[102,97,108,115,101])=false:=(by simpa using h1);by_cases h2:(s.toList==[118,97,114])=true
     · have hr:r=true:=(by rw[HR.out,h2];simp);subst hr;clear HR;go_enter Tryz.func109,Tryz.ntmps109;go_wp2_with fail;go_ret
       exact ⟨rfl,0,rfl⟩
     · have h2:(s.toList==[118,97,114])=false:=(by simpa using h2);by_cases h3:(s.toList==[105,110])=true
       · have hr:r=true:=(by rw[HR.out,h3];simp);subst hr;clear HR;go_enter Tryz.func109,Tryz.ntmps109;go_wp2_with fail;go_ret
         exact ⟨rfl,0,rfl⟩
       · have h3:(s.toList==[105,110])=false:=(by simpa using h3);by_cases h4:(s.toList==[105,110,105,116])=true
         · have hr:r=true:=(by rw[HR.out,h4];simp);subst hr;clear HR;go_enter Tryz.func109,Tryz.ntmps109;go_wp2_with fail;go_ret
           exact ⟨rfl,0,rfl⟩
         · have h4:(s.toList==[105,110,105,116])=false:=(by simpa using h4);by_cases h5:(s.toList==[112,114,111,99])=true
           · have hr:r=true:=(by rw[HR.out,h5];simp);subst hr;clear HR;go_enter Tryz.func109,Tryz.ntmps109;go_wp2_with fail;go_ret
             exact ⟨rfl,0,rfl⟩
           · have h5:(s.toList==[112,114,111,99])=false:=(by simpa using h5);by_cases h6:(s.toList==[108,111,99])=true
             · have hr:r=true:=(by rw[HR.out,h6];simp);subst hr;clear HR;go_enter Tryz.func109,Tryz.ntmps109;go_wp2_with fail;go_ret
               exact ⟨rfl,0,rfl⟩
             · have h6:(s.toList==[108,111,99])=false:=(by simpa using h6);by_cases h7:(s.toList==[101,110,100])=true
               · have hr:r=true:=(by rw[HR.out,h7];simp);subst hr;clear HR;go_enter Tryz.func109,Tryz.ntmps109;go_wp2_with fail;go_ret
                 exact ⟨rfl,0,rfl⟩
               · have h7:(s.toList==[101,110,100])=false:=(by simpa using h7);have hr:r=false:=(by rw[HR.out,h0,h1,h2,h3,h4,h5,h6,h7];rfl);subst hr;clear HR;go_enter Tryz.func109,Tryz.ntmps109;go_wp2_with fail;go_ret
                 exact ⟨rfl,0,rfl⟩
def QA (c:Nat):Nat:=if CU c=true then 1 else if Bq c=true then 2 else if c=95 then 3 else if c=88 then 4 else if c=71 then 4 else if c=70 then 4 else if c=85 then 4 else if c=82 then 4 else if c=32 then 5 else if c=9 then 5 else if c=10 then 5 else if c=35 then 5 else if c=40 then 6 else if c=41 then 6 else if c=44 then 6 else if c=59 then 6 else if c=58 then 6 else if c=46 then 6 else if c=43 then 6 else if c=42 then 6 else if c=38 then 6 else if c=124 then 6 else if c=33 then 6 else if c=64 then 6 else if c=61 then 6 else if c=60 then 6 else if c=62 then 6 else if c=47 then 6 else if c=45 then 6 else 0
def Jl (b:Bool) (w:World) (e:Ending) (w':World):Prop:=e=.returned (.bool b)/\Below w.heap.size w w'
def Sg (k:Nat) (s:ByteArray):Bool:=decide (s.size≠0)&&decide (AY (Ad s 0)=k)&&decide (BS s=s.size)&&decide (Qw k s=0)
theorem Jm (c:Nat):AY c<10:=by
 unfold AY;split
 · omega
 · split
   · omega
   · split<;>omega
theorem Sz (k:Nat) (s:ByteArray) (w:World) (_hk:k<10) (hs:s.size<=4611686018427387904):Calls Tryz.prog 108 #[.int .i64 (k:Int),.string s] w (Jl (Sg k s) w):=by
 have HB:=Aa (show Sg k s=(decide (s.size≠0)&&decide (AY (Ad s 0)=k)&&decide (BS s=s.size)&&decide (Qw k s=0)) from rfl);generalize Sg k s=r at *;have he:=Dh s;have hne:(s.toList==[])=decide (s.size=0):=by rw[<-he];cases s.toList<;>rfl
 by_cases h0:s.size=0
 · have hr:r=false:=(by rw[HB.out];simp[h0]);subst hr;rw[decide_eq_true h0]at he hne;clear HB h0;go_enter Tryz.func108,Tryz.ntmps108;go_wp2_with fail;go_ret
   exact ⟨rfl,Below.refl _ _⟩
 · rw[decide_eq_false h0]at he hne;have hf:=KN s w (by omega) hs;have hc:=fun W=>KO (AY (Ad s 0)) s W (Jm _) hs
   have HB:=Aa (show r=(decide (AY (Ad s 0)=k)&&decide (BS s=s.size)&&decide (Qw k s=0)) by rw[HB.out];simp[h0]);by_cases h1:AY (Ad s 0)=k
   · rw[h1]at hf hc;by_cases h2:BS s=s.size
     · rw[h2]at hf;by_cases h3:Qw k s=0
       · have hr:r=true:=(by rw[HB.out];simp[h1,h2,h3]);subst hr;simp only[h3]at hc;clear HB h1 h2 h3 h0;go_enter Tryz.func108,Tryz.ntmps108;go_wp2_with fail;refine hf.mono ?_;rintro e w1 ⟨rfl,b1⟩;go_wp2_with fail;refine (hc _).mono ?_;rintro e w1 ⟨rfl,k1,rfl⟩;go_wp2_with fail;go_ret
         exact ⟨rfl,b1.next (Ao _ _)⟩
       · have hr:r=false:=(by rw[HB.out];simp[h3]);subst hr;have g3:¬(Qw k s:Int)=0:=(by omega);generalize Qw k s=z at *;have b3:((z:Int)==0)=false:=(by simpa using g3);clear HB h1 h2 h3 h0;go_enter Tryz.func108,Tryz.ntmps108;go_wp2_with fail;refine hf.mono ?_;rintro e w1 ⟨rfl,b1⟩;go_wp2_with fail;refine (hc _).mono ?_;rintro e w1 ⟨rfl,k1,rfl⟩;go_wp2_with fail;go_ret
         exact ⟨rfl,b1.next (Ao _ _)⟩
     · have hr:r=false:=(by rw[HB.out];simp[h2]);subst hr;generalize BS s=z at *;have b3:((z:Int)==(s.size:Int))=false:=(by rw[beq_eq_false_iff_ne];omega);clear HB h1 h2 h0 hc;go_enter Tryz.func108,Tryz.ntmps108;go_wp2_with fail;refine hf.mono ?_;rintro e w1 ⟨rfl,b1⟩;go_wp2_with fail;go_ret
       exact ⟨rfl,b1⟩
   · have hr:r=false:=(by rw[HB.out];simp[h1]);subst hr;generalize AY (Ad s 0)=z at *;have b3:((z:Int)==(k:Int))=false:=(by rw[beq_eq_false_iff_ne];omega);clear HB h1 h0 hc;go_enter Tryz.func108,Tryz.ntmps108;go_wp2_with fail;refine hf.mono ?_;rintro e w1 ⟨rfl,b1⟩;go_wp2_with fail;go_ret
     exact ⟨rfl,b1⟩
theorem M9 (s:ByteArray) (w:World) (hs:s.size<=4611686018427387904):Calls Tryz.prog 67 #[.string s] w (Jl (Sg 1 s&&!LM s) w):=by
 have hi:=Sz 1 s w (by decide) hs;have hr:=fun W=>LN s W
 generalize Sg 1 s=a at *;generalize LM s=b at *;go_enter Tryz.func67,Tryz.ntmps67;go_wp2_with fail;refine hi.mono ?_;rintro e w1 ⟨rfl,b1⟩;cases a with
 |false=>
  go_wp2_with fail;go_ret
  exact ⟨rfl,b1⟩
 |true=>
  go_wp2_with fail;refine (hr _).mono ?_;rintro e w2 ⟨rfl,k,rfl⟩;go_wp2_with fail;go_ret
  exact ⟨by cases b<;>rfl,b1.next (Ao _ _)⟩
theorem Jn (s:ByteArray) (w:World) (hs:s.size<=4611686018427387904):Calls Tryz.prog 66 #[.string s] w (Jl (Sg 3 s) w):=by
 have hi:=Sz 3 s w (by decide) hs;go_enter Tryz.func66,Tryz.ntmps66;go_wp2_with fail;refine hi.mono ?_;rintro e w1 ⟨rfl,b1⟩;go_wp2_with fail;go_ret
 exact ⟨rfl,b1⟩
end
section
open Go.RowKit
open Lx
def PK (c:Nat):Bool:=decide (1<=QA c)&&decide (QA c<=3)
def SA (c:Nat):Bool:=decide (QA c=2)
theorem SB {c:Nat} (hc:c<256):PK c=DK c:=by
 have h:M5 (fun c=>PK c==DK c) 256=true:=by kernel_rfl
 simpa using ER h hc
theorem PL {c:Nat} (hc:c<256):SA c=Bq c:=by
 have h:M5 (fun c=>SA c==Bq c) 256=true:=by kernel_rfl
 simpa using ER h hc
theorem UL {c:Nat} (hc:c<256):decide (QA c=1)=CU c:=by
 have h:M5 (fun c=>decide (QA c=1)==CU c) 256=true:=by kernel_rfl
 simpa using ER h hc
def Bn (p:Nat->Bool) (s:ByteArray) (k:Nat):Bool:=decide (stop p (Ad s) s.size k=s.size)
theorem Ed {p:Nat->Bool} {s:ByteArray} {k:Nat} (h:k<s.size):Bn p s k=(p (Ad s k)&&Bn p s (k+1)):=by
 unfold Bn;rw[CY _ _ h];cases hp:p (Ad s k) with
 |true=>simp
 |false=>simp;omega
theorem FO (p:Nat->Bool) (s:ByteArray):Bn p s s.size=true:=by unfold Bn;rw[Hf];simp
theorem G5 {p q:Nat->Bool} (s:ByteArray) (h:∀c,c<256->p c=q c):Bn p s 0=Bn q s 0:=by
 have:∀m k,k+m=s.size->Bn p s k=Bn q s k:=by
  intro m;induction m with
  |zero=>
   intro k hk;obtain rfl:k=s.size:=by omega
   rw[FO,FO]
  |succ m ih=>intro k hk;rw[Ed (p:=p) (k:=k) (by omega),Ed (p:=q) (k:=k) (by omega),h _ (Dy s k),ih (k+1) (by omega)]
 exact this s.size 0 (by omega)
def Ea (s:ByteArray):Bool:=!(decide (s.size=0) || decide (60<s.size) || (decide (1<s.size)&&decide (Ad s 0=48)))&&Bn SA s 0
def Cz (s:ByteArray):Bool:=!(decide (s.size=0) || decide (20<s.size) || !decide (QA (Ad s 0)=1) || LM s)&&Bn PK s 0
theorem MA {s:ByteArray} (h:0<s.size) (ha:Bn Bq s 0=true):Bq (Ad s 0)=true:=by rw[Ed h]at ha;simp at ha;exact ha.1
theorem MB {c:Nat} (h:Bq c=true):CU c=false:=by unfold Bq at h;unfold CU;simp at h ⊢;omega
theorem number_eq (s:ByteArray):Sg 3 s=Ea s:=by
 unfold Sg Ea;by_cases h0:s.size=0
 · simp[h0]
 · rw[show Bn SA s 0=Bn Bq s 0 from G5 s (fun c hc=>PL hc)];unfold AY BS Qw;by_cases hd:Bq (Ad s 0)=true
   · have hl:=MB hd;simp only[hl,hd,Bool.false_eq_true,if_false,if_true,h0];rw[show decide (stop Bq (Ad s) s.size 0=s.size)=Bn Bq s 0 from rfl];cases Bn Bq s 0 with
     |false=>simp
     |true=>
      generalize s.size=n at *;generalize Ad s 0=b at *;by_cases h1:60<n
      · simp[h0,h1]
      · by_cases h2:1<n/\b=48
        · simp[h0,h1,h2.1,h2.2]
        · by_cases h3:1<n
          · have h4:¬b=48:=fun h=>h2 ⟨h3,h⟩
            simp[h0,h1,h3,h4]
          · simp[h0,h1,h3]
   · have hn:Bn Bq s 0=false:=by
      cases h:Bn Bq s 0 with
      |false=>rfl
      |true=>exact absurd (MA (by omega) h) hd
     rw[hn,Bool.and_false];have hk:¬(if CU (Ad s 0)=true then 1 else if Bq (Ad s 0)=true then 3 else if Fh (Ad s 0)=true then 4 else 2)=3:=by
      rw[if_neg hd];split
      · omega
      · split<;>omega
     rw[decide_eq_false hk];simp
theorem PM (s:ByteArray):(Sg 1 s&&!LM s)=Cz s:=by
 unfold Sg Cz;by_cases h0:s.size=0
 · simp[h0]
 · rw[show Bn PK s 0=Bn DK s 0 from G5 s (fun c hc=>SB hc),UL (Dy s 0)];unfold AY BS Qw;by_cases hl:CU (Ad s 0)=true
   · simp only[hl,if_true,h0,if_false];rw[show decide (stop DK (Ad s) s.size 0=s.size)=Bn DK s 0 from rfl];cases Bn DK s 0 with
     |false=>simp
     |true=>
      generalize LM s=r at *;generalize s.size=n at *;by_cases h1:20<n
      · simp[h0,h1]
      · simp[h0,h1]
   · have hk:¬(if CU (Ad s 0)=true then 1 else if Bq (Ad s 0)=true then 3 else if Fh (Ad s 0)=true then 4 else 2)=1:=by
      rw[if_neg hl];split
      · omega
      · split<;>omega
     rw[decide_eq_false hk,show CU (Ad s 0)=false by simpa using hl];simp
end
end Go.Proofs.YtgohmojcopajoaaGreatDoor
namespace Go.Proofs.YtgohmojcopajoaaGreatDoor.Ex
section
abbrev PT:=Nat×ByteArray
structure Mn where
 num:ByteArray
 var:ByteArray
 neg:Bool
inductive Tr where
 |leaf (b:Bool)
 |cmp (l:List Mn) (op:Nat) (r:List Mn)
 |deny (t:Tr)
 |both (a b:Tr)
 |any (a b:Tr)
inductive Out (α:Type) where
 |ok (a:α) (rest:List PT)
 |err (code:Nat) (rest:List PT)
 |fuel
def AV (s:ByteArray):List PT->Bool
 |[]=>false
 |(k,t)::_=>decide (t=s)&&(k==1 || k==2 || k==4)
def Br (p:PT):Bool:=p.1==1&&Cz p.2
def Bw (kn:ByteArray->Bool) (full neg:Bool):List PT->Out Mn
 |[]=>.err 101 []
 |p::r=>
  if p.1==3 then
   if full then .err 3 (p::r)
   else if AV ⟨#[42]⟩ r then
    match r.tail with
    |[]=>.err 101 []
    |p2::r2=>if Br p2 then (if kn p2.2 then .ok ⟨p.2,p2.2,neg⟩ r2 else .err 110 (p2::r2)) else .err 101 (p2::r2)
   else .ok ⟨p.2,⟨#[]⟩,neg⟩ r
  else if Br p then
   if full then .err 3 (p::r) else if kn p.2 then .ok ⟨⟨#[]⟩,p.2,neg⟩ r else .err 110 (p::r)
  else .err 101 (p::r)
def Da (kn:ByteArray->Bool):Nat->Bool->List Mn->List PT->Out (List Mn)
 |0,_,_,_=>.fuel
 |m+1,neg,acc,r=>
  match Bw kn (acc.length==64) neg r with
  |.fuel=>.fuel
  |.err c r1=>.err c r1
  |.ok x r1=>if AV ⟨#[45]⟩ r1 then Da kn m true (acc++[x]) r1.tail else if AV ⟨#[43]⟩ r1 then Da kn m false (acc++[x]) r1.tail else .ok (acc++[x]) r1
def Bv (kn:ByteArray->Bool) (r:List PT):Out (List Mn):=if AV ⟨#[45]⟩ r then Da kn (r.length+1) true [] r.tail else Da kn (r.length+1) false [] r
def Ff:Nat->ByteArray
 |0=>⟨#[61]⟩
 |1=>⟨#[33,61]⟩
 |2=>⟨#[60]⟩
 |3=>⟨#[60,61]⟩
 |4=>⟨#[62]⟩
 |_=>⟨#[62,61]⟩
def Si (r:List PT):Option Nat:=(List.range 6).find? fun i=>AV (Ff i) r
def IF (kn:ByteArray->Bool) (r:List PT):Out Tr:=
 match Bv kn r with
 |.fuel=>.fuel
 |.err c r1=>.err c r1
 |.ok l r1=>
  match Si r1 with
  |none=>.err 101 r1
  |some op=>
   match Bv kn r1.tail with
   |.fuel=>.fuel
   |.err c r2=>.err c r2
   |.ok x r2=>.ok (.cmp l op x) r2
inductive Md where
 |one
 |both
 |bothGo (t:Tr)
 |cond
 |condGo (t:Tr)
def Bt (kn:ByteArray->Bool):Nat->Md->Nat->List PT->Out Tr
 |0,_,_,_=>.fuel
 |n+1,.one,lv,r=>
  if lv=0/\(AV ⟨#[33]⟩ r=true\/AV ⟨#[40]⟩ r=true) then .err 102 r
  else if AV ⟨#[33]⟩ r=true then
   match Bt kn n .one (lv-1) r.tail with
   |.fuel=>.fuel
   |.err c r1=>.err c r1
   |.ok t r1=>.ok (.deny t) r1
  else if AV ⟨#[40]⟩ r=true then
   match Bt kn n .cond (lv-1) r.tail with
   |.fuel=>.fuel
   |.err c r1=>.err c r1
   |.ok t r1=>if AV ⟨#[41]⟩ r1=true then .ok t r1.tail else .err 101 r1
  else if AV ⟨#[116,114,117,101]⟩ r=true then .ok (.leaf true) r.tail
  else if AV ⟨#[102,97,108,115,101]⟩ r=true then .ok (.leaf false) r.tail
  else IF kn r
 |n+1,.both,lv,r=>
  match Bt kn n .one lv r with
  |.fuel=>.fuel
  |.err c r1=>.err c r1
  |.ok t r1=>Bt kn n (.bothGo t) lv r1
 |n+1,.bothGo t,lv,r=>
  if AV ⟨#[38]⟩ r=true then
   match Bt kn n .one lv r.tail with
   |.fuel=>.fuel
   |.err c r1=>.err c r1
   |.ok k r1=>Bt kn n (.bothGo (.both t k)) lv r1
  else .ok t r
 |n+1,.cond,lv,r=>
  match Bt kn n .both lv r with
  |.fuel=>.fuel
  |.err c r1=>.err c r1
  |.ok t r1=>Bt kn n (.condGo t) lv r1
 |n+1,.condGo t,lv,r=>
  if AV ⟨#[124]⟩ r=true then
   match Bt kn n .both lv r.tail with
   |.fuel=>.fuel
   |.err c r1=>.err c r1
   |.ok k r1=>Bt kn n (.condGo (.any t k)) lv r1
  else .ok t r
theorem QB (kn:ByteArray->Bool) (n:Nat):∀(md:Md) (lv:Nat) (r:List PT),Bt kn n md lv r≠.fuel->Bt kn (n+1) md lv r=Bt kn n md lv r:=by
 induction n with
 |zero=>intro md lv r h;exact absurd rfl h
 |succ n ih=>
  have step:∀(md:Md) (lv:Nat) (r:List PT) (K K':Tr->List PT->Out Tr),(∀t r1,K t r1≠.fuel->K' t r1=K t r1) ->
     (match Bt kn n md lv r with|.fuel=>Out.fuel|.err c r1=>Out.err c r1|.ok t r1=>K t r1)≠.fuel ->
     (match Bt kn (n+1) md lv r with|.fuel=>Out.fuel|.err c r1=>Out.err c r1|.ok t r1=>K' t r1)=(match Bt kn n md lv r with|.fuel=>Out.fuel|.err c r1=>Out.err c r1|.ok t r1=>K t r1):=by
   intro md lv r K K' hK h;cases hp:Bt kn n md lv r with
   |fuel=>rw[hp]at h;exact absurd rfl h
   |err c r1=>rw[ih md lv r (by rw[hp];exact fun e=>by cases e),hp]
   |ok t r1=> rw[ih md lv r (by rw[hp];exact fun e=>by cases e),hp];rw[hp]at h;exact hK t r1 h
  intro md lv r h;cases md with
  |one=>
   rw[Bt]at h ⊢;conv=>rhs;rw[Bt]
   by_cases c1:lv=0/\(AV ⟨#[33]⟩ r=true\/AV ⟨#[40]⟩ r=true)
   · rw[if_pos c1,if_pos c1]
   · rw[if_neg c1]at h ⊢;rw[if_neg c1];by_cases c2:AV ⟨#[33]⟩ r=true
     · rw[if_pos c2]at h ⊢;rw[if_pos c2];exact step _ _ _ (fun t r1=>.ok (.deny t) r1) (fun t r1=>.ok (.deny t) r1) (fun _ _ _=>rfl) h
     · rw[if_neg c2]at h ⊢;rw[if_neg c2];by_cases c3:AV ⟨#[40]⟩ r=true
       · rw[if_pos c3]at h ⊢;rw[if_pos c3];exact step _ _ _ (fun t r1=>if AV ⟨#[41]⟩ r1=true then .ok t r1.tail else .err 101 r1) (fun t r1=>if AV ⟨#[41]⟩ r1=true then .ok t r1.tail else .err 101 r1) (fun _ _ _=>rfl) h
       · rw[if_neg c3,if_neg c3]
  |both=>
   rw[Bt]at h ⊢;conv=>rhs;rw[Bt]
   exact step _ _ _ (fun t r1=>Bt kn n (.bothGo t) lv r1) (fun t r1=>Bt kn (n+1) (.bothGo t) lv r1) (fun t r1 hk=>ih _ _ _ hk) h
  |bothGo t=>
   rw[Bt]at h ⊢;conv=>rhs;rw[Bt]
   by_cases c:AV ⟨#[38]⟩ r=true
   · rw[if_pos c]at h ⊢;rw[if_pos c];exact step _ _ _ (fun k r1=>Bt kn n (.bothGo (.both t k)) lv r1) (fun k r1=>Bt kn (n+1) (.bothGo (.both t k)) lv r1) (fun _ _ hk=>ih _ _ _ hk) h
   · rw[if_neg c,if_neg c]
  |cond=>
   rw[Bt]at h ⊢;conv=>rhs;rw[Bt]
   exact step _ _ _ (fun t r1=>Bt kn n (.condGo t) lv r1) (fun t r1=>Bt kn (n+1) (.condGo t) lv r1) (fun t r1 hk=>ih _ _ _ hk) h
  |condGo t=>
   rw[Bt]at h ⊢;conv=>rhs;rw[Bt]
   by_cases c:AV ⟨#[124]⟩ r=true
   · rw[if_pos c]at h ⊢;rw[if_pos c];exact step _ _ _ (fun k r1=>Bt kn n (.condGo (.any t k)) lv r1) (fun k r1=>Bt kn (n+1) (.condGo (.any t k)) lv r1) (fun _ _ hk=>ih _ _ _ hk) h
   · rw[if_neg c,if_neg c]
theorem KR (kn:ByteArray->Bool) {n:Nat} {md:Md} {lv:Nat} {r:List PT} (k:Nat) (h:Bt kn n md lv r≠.fuel):Bt kn (n+k) md lv r=Bt kn n md lv r:=by
 induction k with
 |zero=>rfl
 |succ k ih=>rw[<-Nat.add_assoc,QB kn (n+k) md lv r (by rw[ih];exact h),ih]
end
section
theorem FP {s:ByteArray} {r:List PT} (h:AV s r=true):0<r.length:=by
 cases r with
 |nil=>cases h
 |cons p r=>exact Nat.succ_pos _
theorem C7 (r:List PT):r.tail.length=r.length-1:=by simp
theorem MC {kn:ByteArray->Bool} {full neg:Bool} {r r1:List PT} {x:Mn} (h:Bw kn full neg r=.ok x r1):r1.length<r.length:=by
 cases r with
 |nil=>cases h
 |cons p r=>
  rw[Bw]at h;by_cases c1:(p.1==3)=true
  · rw[if_pos c1]at h;by_cases c2:full=true
    · rw[if_pos c2]at h;cases h
    · rw[if_neg c2]at h;by_cases c3:AV ⟨#[42]⟩ r=true
      · rw[if_pos c3]at h;cases hr:r.tail with
        |nil=>rw[hr]at h;cases h
        |cons p2 r2=>
          rw[hr]at h;have hl:=C7 r;rw[hr,List.length_cons]at hl;dsimp only at h
          by_cases c4:Br p2=true
          · rw[if_pos c4]at h;by_cases c5:kn p2.2=true
            · rw[if_pos c5]at h;injection h with _ h
              subst h;rw[List.length_cons];omega
            · rw[if_neg c5]at h;cases h
          · rw[if_neg c4]at h;cases h
      · rw[if_neg c3]at h;injection h with _ h
        subst h;exact Nat.lt_succ_self _
  · rw[if_neg c1]at h;by_cases c2:Br p=true
    · rw[if_pos c2]at h;by_cases c3:full=true
      · rw[if_pos c3]at h;cases h
      · rw[if_neg c3]at h;by_cases c4:kn p.2=true
        · rw[if_pos c4]at h;injection h with _ h
          subst h;exact Nat.lt_succ_self _
        · rw[if_neg c4]at h;cases h
    · rw[if_neg c2]at h;cases h
theorem Il (kn:ByteArray->Bool) (full neg:Bool) (r:List PT):Bw kn full neg r≠.fuel:=by
 intro h;cases r with
 |nil=>cases h
 |cons p r=>
  rw[Bw]at h;by_cases c1:(p.1==3)=true
  · rw[if_pos c1]at h;by_cases c2:full=true
    · rw[if_pos c2]at h;cases h
    · rw[if_neg c2]at h;by_cases c3:AV ⟨#[42]⟩ r=true
      · rw[if_pos c3]at h;cases hr:r.tail with
        |nil=>rw[hr]at h;cases h
        |cons p2 r2=>
          rw[hr]at h;dsimp only at h
          by_cases c4:Br p2=true
          · rw[if_pos c4]at h;by_cases c5:kn p2.2=true
            · rw[if_pos c5]at h;cases h
            · rw[if_neg c5]at h;cases h
          · rw[if_neg c4]at h;cases h
      · rw[if_neg c3]at h;cases h
  · rw[if_neg c1]at h;by_cases c2:Br p=true
    · rw[if_pos c2]at h;by_cases c3:full=true
      · rw[if_pos c3]at h;cases h
      · rw[if_neg c3]at h;by_cases c4:kn p.2=true
        · rw[if_pos c4]at h;cases h
        · rw[if_neg c4]at h;cases h
    · rw[if_neg c2]at h;cases h
theorem E8 (kn:ByteArray->Bool) (m:Nat):∀(neg:Bool) (acc:List Mn) (r:List PT),(r.length<m->Da kn m neg acc r≠.fuel)/\∀x r1,Da kn m neg acc r=.ok x r1->r1.length<r.length:=by
 induction m with
 |zero=>intro neg acc r;exact ⟨fun h=>absurd h (Nat.not_lt_zero _),fun x r1 h=>by cases h⟩
 |succ m ih=>
  intro neg acc r;rw[Da];cases hm:Bw kn (acc.length==64) neg r with
  |fuel=>exact absurd hm (Il _ _ _ _)
  |err c r1=>exact ⟨(fun _ h=>by cases h),(fun x r2 h=>by cases h)⟩
  |ok x r1=>
   have hl:=MC hm;have ht:=C7 r1;dsimp only
   by_cases c1:AV ⟨#[45]⟩ r1=true
   · rw[if_pos c1];obtain ⟨h1,h2⟩:=ih true (acc++[x]) r1.tail;exact ⟨fun h=>h1 (by omega),fun y r2 h=>by have:=h2 y r2 h;omega⟩
   · rw[if_neg c1];by_cases c2:AV ⟨#[43]⟩ r1=true
     · rw[if_pos c2];obtain ⟨h1,h2⟩:=ih false (acc++[x]) r1.tail;exact ⟨fun h=>h1 (by omega),fun y r2 h=>by have:=h2 y r2 h;omega⟩
     · rw[if_neg c2];refine ⟨fun _ h=>(by cases h),fun y r2 h=>?_⟩;injection h with _ h
       subst h;exact hl
theorem Gm (kn:ByteArray->Bool) (r:List PT):Bv kn r≠.fuel:=by
 unfold Bv;have:=C7 r;split
 · exact (E8 kn _ _ _ _).1 (by omega)
 · exact (E8 kn _ _ _ _).1 (by omega)
theorem MD {kn:ByteArray->Bool} {r r1:List PT} {x:List Mn} (h:Bv kn r=.ok x r1):r1.length<r.length:=by
 unfold Bv at h;have:=C7 r;split at h
 · have:=(E8 kn _ _ _ _).2 _ _ h;omega
 · exact (E8 kn _ _ _ _).2 _ _ h
theorem QC (kn:ByteArray->Bool) (r:List PT):IF kn r≠.fuel:=by
 intro h;unfold IF at h;cases h1:Bv kn r with
 |fuel=>exact Gm kn r h1
 |err c r1=>rw[h1]at h;cases h
 |ok l r1=>
  rw[h1]at h;dsimp only at h
  cases h2:Si r1 with
  |none=>rw[h2]at h;cases h
  |some op=>
   rw[h2]at h;dsimp only at h
   cases h3:Bv kn r1.tail with
   |fuel=>exact Gm kn _ h3
   |err c r2=>rw[h3]at h;cases h
   |ok x r2=>rw[h3]at h;cases h
theorem SC {kn:ByteArray->Bool} {r r1:List PT} {t:Tr} (h:IF kn r=.ok t r1):r1.length<r.length:=by
 unfold IF at h;cases h1:Bv kn r with
 |fuel=>rw[h1]at h;cases h
 |err c r1=>rw[h1]at h;cases h
 |ok l r1=>
  rw[h1]at h;have hl:=MD h1;dsimp only at h
  cases h2:Si r1 with
  |none=>rw[h2]at h;cases h
  |some op=>
   rw[h2]at h;dsimp only at h
   cases h3:Bv kn r1.tail with
   |fuel=>rw[h3]at h;cases h
   |err c r2=>rw[h3]at h;cases h
   |ok x r2=>
    rw[h3]at h;have hl3:=MD h3;have ht:=C7 r1;dsimp only at h
    injection h with _ h
    subst h;omega
def De:Md->Nat
 |.one=>1
 |.bothGo _=>2
 |.both=>3
 |.condGo _=>4
 |.cond=>5
def bind (o:Out Tr) (K:Tr->List PT->Out Tr):Out Tr:=
 match o with
 |.fuel=>.fuel
 |.err c r=>.err c r
 |.ok t r=>K t r
theorem Ei {o:Out Tr} {K:Tr->List PT->Out Tr} (h:o≠.fuel) (hK:∀t r,o=.ok t r->K t r≠.fuel):bind o K≠.fuel:=by
 cases o with
 |fuel=>exact absurd rfl h
 |err c r=>exact fun e=>by cases e
 |ok t r=>exact hK t r rfl
theorem bind_ok {o:Out Tr} {K:Tr->List PT->Out Tr} {t:Tr} {r:List PT} (h:bind o K=.ok t r):∃t1 r1,o=.ok t1 r1/\K t1 r1=.ok t r:=by
 cases o with
 |fuel=>cases h
 |err c r=>cases h
 |ok t1 r1=>exact ⟨t1,r1,rfl,h⟩
theorem Jo (kn:ByteArray->Bool) (n lv:Nat) (r:List PT):Bt kn (n+1) .one lv r=if lv=0/\(AV ⟨#[33]⟩ r=true\/AV ⟨#[40]⟩ r=true) then .err 102 r else if AV ⟨#[33]⟩ r=true then bind (Bt kn n .one (lv-1) r.tail) (fun t r1=>.ok (.deny t) r1)
 else if AV ⟨#[40]⟩ r=true then bind (Bt kn n .cond (lv-1) r.tail) (fun t r1=>if AV ⟨#[41]⟩ r1=true then .ok t r1.tail else .err 101 r1)
 else if AV ⟨#[116,114,117,101]⟩ r=true then .ok (.leaf true) r.tail else if AV ⟨#[102,97,108,115,101]⟩ r=true then .ok (.leaf false) r.tail else IF kn r:=rfl
theorem Im (kn:ByteArray->Bool) (n lv:Nat) (r:List PT):Bt kn (n+1) .both lv r=bind (Bt kn n .one lv r) (fun t r1=>Bt kn n (.bothGo t) lv r1):=rfl
theorem FQ (kn:ByteArray->Bool) (n lv:Nat) (t:Tr) (r:List PT):Bt kn (n+1) (.bothGo t) lv r=if AV ⟨#[38]⟩ r=true then bind (Bt kn n .one lv r.tail) (fun k r1=>Bt kn n (.bothGo (.both t k)) lv r1) else .ok t r:=rfl
theorem Io (kn:ByteArray->Bool) (n lv:Nat) (r:List PT):Bt kn (n+1) .cond lv r=bind (Bt kn n .both lv r) (fun t r1=>Bt kn n (.condGo t) lv r1):=rfl
theorem FR (kn:ByteArray->Bool) (n lv:Nat) (t:Tr) (r:List PT):Bt kn (n+1) (.condGo t) lv r=if AV ⟨#[124]⟩ r=true then bind (Bt kn n .both lv r.tail) (fun k r1=>Bt kn n (.condGo (.any t k)) lv r1) else .ok t r:=rfl
theorem Dj (kn:ByteArray->Bool) (n:Nat):∀(md:Md) (lv:Nat) (r:List PT) (t:Tr) (r1:List PT),Bt kn n md lv r=.ok t r1->r1.length<=r.length:=by
 induction n with
 |zero=>intro md lv r t r1 h;cases h
 |succ n ih=>
  intro md lv r t r1 h;have ht:=C7 r;cases md with
  |one=>
   rw[Jo]at h;split at h
   · cases h
   · split at h
     · obtain ⟨t2,r2,h1,h2⟩:=bind_ok h;injection h2 with _ h2
       subst h2;have:=ih _ _ _ _ _ h1;omega
     · split at h
       · obtain ⟨t2,r2,h1,h2⟩:=bind_ok h;have h3:=ih _ _ _ _ _ h1;have h4:=C7 r2;split at h2
         · injection h2 with _ h2
           subst h2;omega
         · cases h2
       · split at h
         · injection h with _ h
           subst h;omega
         · split at h
           · injection h with _ h
             subst h;omega
           · exact Nat.le_of_lt (SC h)
  |both=>
   rw[Im]at h;obtain ⟨t2,r2,h1,h2⟩:=bind_ok h;have:=ih _ _ _ _ _ h1;have:=ih _ _ _ _ _ h2;omega
  |bothGo k=>
   rw[FQ]at h;split at h
   · obtain ⟨t2,r2,h1,h2⟩:=bind_ok h;have:=ih _ _ _ _ _ h1;have:=ih _ _ _ _ _ h2;omega
   · injection h with _ h
     subst h;exact Nat.le_refl _
  |cond=>
   rw[Io]at h;obtain ⟨t2,r2,h1,h2⟩:=bind_ok h;have:=ih _ _ _ _ _ h1;have:=ih _ _ _ _ _ h2;omega
  |condGo k=>
   rw[FR]at h;split at h
   · obtain ⟨t2,r2,h1,h2⟩:=bind_ok h;have:=ih _ _ _ _ _ h1;have:=ih _ _ _ _ _ h2;omega
   · injection h with _ h
     subst h;exact Nat.le_refl _
theorem KS (kn:ByteArray->Bool) (n:Nat):∀(md:Md) (lv:Nat) (r:List PT),8*r.length+De md<=n->Bt kn n md lv r≠.fuel:=by
 induction n with
 |zero=>intro md lv r h;cases md<;>simp[De]at h
 |succ n ih=>
  intro md lv r h;have ht:=C7 r;cases md with
  |one=>
   simp only[De]at h;rw[Jo];by_cases c1:lv=0/\(AV ⟨#[33]⟩ r=true\/AV ⟨#[40]⟩ r=true)
   · rw[if_pos c1];exact fun e=>by cases e
   · rw[if_neg c1];by_cases c2:AV ⟨#[33]⟩ r=true
     · have:=FP c2;rw[if_pos c2];exact Ei (ih _ _ _ (by simp only[De];omega)) (fun _ _ _ e=>by cases e)
     · rw[if_neg c2];by_cases c3:AV ⟨#[40]⟩ r=true
       · have:=FP c3;rw[if_pos c3];refine Ei (ih _ _ _ (by simp only[De];omega)) (fun _ _ _=>?_);split<;>exact fun e=>by cases e
       · rw[if_neg c3];split
         · exact fun e=>by cases e
         · split
           · exact fun e=>by cases e
           · exact QC kn r
  |both=>
   simp only[De]at h;rw[Im];refine Ei (ih _ _ _ (by simp only[De];omega)) (fun t r1 hk=>?_);have:=Dj kn n _ _ _ _ _ hk;exact ih _ _ _ (by simp only[De];omega)
  |bothGo k=>
   simp only[De]at h;rw[FQ];by_cases c:AV ⟨#[38]⟩ r=true
   · have:=FP c;rw[if_pos c];refine Ei (ih _ _ _ (by simp only[De];omega)) (fun t r1 hk=>?_);have:=Dj kn n _ _ _ _ _ hk;exact ih _ _ _ (by simp only[De];omega)
   · rw[if_neg c];exact fun e=>by cases e
  |cond=>
   simp only[De]at h;rw[Io];refine Ei (ih _ _ _ (by simp only[De];omega)) (fun t r1 hk=>?_);have:=Dj kn n _ _ _ _ _ hk;exact ih _ _ _ (by simp only[De];omega)
  |condGo k=>
   simp only[De]at h;rw[FR];by_cases c:AV ⟨#[124]⟩ r=true
   · have:=FP c;rw[if_pos c];refine Ei (ih _ _ _ (by simp only[De];omega)) (fun t r1 hk=>?_);have:=Dj kn n _ _ _ _ _ hk;exact ih _ _ _ (by simp only[De];omega)
   · rw[if_neg c];exact fun e=>by cases e
def As (kn:ByteArray->Bool) (md:Md) (lv:Nat) (r:List PT):Out Tr:=Bt kn (8*r.length+8) md lv r
theorem UM (md:Md):De md<=5:=by cases md<;>simp[De]
theorem CO (kn:ByteArray->Bool) {n:Nat} {md:Md} (lv:Nat) {r:List PT} (h:8*r.length+De md<=n):Bt kn n md lv r=As kn md lv r:=by
 have h1:=KS kn n md lv r h;have h2:=KS kn (8*r.length+8) md lv r (by have:=UM md;omega);unfold As;rcases Nat.le_total n (8*r.length+8) with hle|hle
 · obtain ⟨k,hk⟩:=Nat.exists_eq_add_of_le hle;rw[hk,KR kn k h1]
 · obtain ⟨k,hk⟩:=Nat.exists_eq_add_of_le hle;rw[hk,KR kn k h2]
theorem Fo {o:Out Tr} {K K':Tr->List PT->Out Tr} (h:∀t r,o=.ok t r->K t r=K' t r):bind o K=bind o K':=by
 cases o with
 |fuel=>rfl
 |err c r=>rfl
 |ok t r=>exact h t r rfl
theorem Fp (kn:ByteArray->Bool) (lv:Nat) (r:List PT):As kn .both lv r=bind (As kn .one lv r) (fun t r1=>As kn (.bothGo t) lv r1):=by
 conv=>lhs;unfold As
 rw[Im,CO kn lv (by simp only[De];omega)];refine Fo (fun t r1 h=>?_);have:=Dj kn _ _ _ _ _ _ h;exact CO kn lv (by simp only[De];omega)
theorem GG (kn:ByteArray->Bool) (lv:Nat) (r:List PT):As kn .cond lv r=bind (As kn .both lv r) (fun t r1=>As kn (.condGo t) lv r1):=by
 conv=>lhs;unfold As
 rw[Io,CO kn lv (by simp only[De];omega)];refine Fo (fun t r1 h=>?_);have:=Dj kn _ _ _ _ _ _ h;exact CO kn lv (by simp only[De];omega)
theorem Fq (kn:ByteArray->Bool) (lv:Nat) (t:Tr) (r:List PT):As kn (.bothGo t) lv r=if AV ⟨#[38]⟩ r=true then bind (As kn .one lv r.tail) (fun k r1=>As kn (.bothGo (.both t k)) lv r1) else .ok t r:=by
 conv=>lhs;unfold As
 rw[FQ];have ht:=C7 r;by_cases c:AV ⟨#[38]⟩ r=true
 · have:=FP c;rw[if_pos c,if_pos c,CO kn lv (by simp only[De];omega)];refine Fo (fun k r1 h=>?_);have:=Dj kn _ _ _ _ _ _ h;exact CO kn lv (by simp only[De];omega)
 · rw[if_neg c,if_neg c]
theorem Hj (kn:ByteArray->Bool) (lv:Nat) (t:Tr) (r:List PT):As kn (.condGo t) lv r=if AV ⟨#[124]⟩ r=true then bind (As kn .both lv r.tail) (fun k r1=>As kn (.condGo (.any t k)) lv r1) else .ok t r:=by
 conv=>lhs;unfold As
 rw[FR];have ht:=C7 r;by_cases c:AV ⟨#[124]⟩ r=true
 · have:=FP c;rw[if_pos c,if_pos c,CO kn lv (by simp only[De];omega)];refine Fo (fun k r1 h=>?_);have:=Dj kn _ _ _ _ _ _ h;exact CO kn lv (by simp only[De];omega)
 · rw[if_neg c,if_neg c]
theorem ES (kn:ByteArray->Bool) (lv:Nat) (r:List PT):As kn .one lv r=if lv=0/\(AV ⟨#[33]⟩ r=true\/AV ⟨#[40]⟩ r=true) then .err 102 r else if AV ⟨#[33]⟩ r=true then bind (As kn .one (lv-1) r.tail) (fun t r1=>.ok (.deny t) r1)
   else if AV ⟨#[40]⟩ r=true then bind (As kn .cond (lv-1) r.tail) (fun t r1=>if AV ⟨#[41]⟩ r1=true then .ok t r1.tail else .err 101 r1)
   else if AV ⟨#[116,114,117,101]⟩ r=true then .ok (.leaf true) r.tail else if AV ⟨#[102,97,108,115,101]⟩ r=true then .ok (.leaf false) r.tail else IF kn r:=by
 conv=>lhs;unfold As
 rw[Jo];have ht:=C7 r;by_cases c1:lv=0/\(AV ⟨#[33]⟩ r=true\/AV ⟨#[40]⟩ r=true)
 · rw[if_pos c1,if_pos c1]
 · rw[if_neg c1,if_neg c1];by_cases c2:AV ⟨#[33]⟩ r=true
   · have:=FP c2;rw[if_pos c2,if_pos c2,CO kn (lv-1) (by simp only[De];omega)]
   · rw[if_neg c2,if_neg c2];by_cases c3:AV ⟨#[40]⟩ r=true
     · have:=FP c3;rw[if_pos c3,if_pos c3,CO kn (lv-1) (by simp only[De];omega)]
     · rw[if_neg c3,if_neg c3]
theorem KT {kn:ByteArray->Bool} {md:Md} {lv:Nat} {r r1:List PT} {t:Tr} (h:As kn md lv r=.ok t r1):r1.length<=r.length:=Dj kn _ _ _ _ _ _ h
end
end Go.Proofs.YtgohmojcopajoaaGreatDoor.Ex
