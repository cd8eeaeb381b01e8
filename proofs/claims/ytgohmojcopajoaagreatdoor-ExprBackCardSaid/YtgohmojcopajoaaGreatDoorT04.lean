/- Texts of one seat, put together: LexH LexI ExprM ExprF. -/
import Derived.Test.YtgohmojcopajoaaGreatDoorT03
set_option linter.unusedVariables false
set_option linter.unusedSimpArgs false
set_option maxRecDepth 100000
set_option maxHeartbeats 16000000
namespace Go.Proofs.YtgohmojcopajoaaGreatDoor
section
open Go.RowKit
open Lx
def Mu (s:ByteArray):Bool:=(s.toList==[116,114,117,101]) || (s.toList==[102,97,108,115,101]) || (s.toList==[118,97,114]) || (s.toList==[105,110]) || (s.toList==[105,110,105,116]) || (s.toList==[112,114,111,99]) || (s.toList==[108,111,99]) || (s.toList==[101,110,100])
theorem Mv (s:ByteArray) (w:World):Calls Tryz.prog 109 #[.string s] w (Gk (.bool (Mu s)) w):=by
 have HR:=Aa (show Mu s=((s.toList==[116,114,117,101]) || (s.toList==[102,97,108,115,101]) || (s.toList==[118,97,114]) || (s.toList==[105,110]) || (s.toList==[105,110,105,116]) || (s.toList==[112,114,111,99]) || (s.toList==[108,111,99]) || (s.toList==[101,110,100])) from rfl);generalize Mu s=r at *;by_cases h0:(s.toList==[116,114,117,101])=true
 · have hr:r=true:=(by rw[HR.out,h0];simp);subst hr;clear HR;go_enter Tryz.func109,Tryz.ntmps109;go_wp2_with fail;go_ret
   exact ⟨rfl,0,rfl⟩
 · have h0:(s.toList==[116,114,117,101])=false:=(by simpa using h0);by_cases h1:(s.toList==[102,97,108,115,101])=true
   · have hr:r=true:=(by rw[HR.out,h1];simp);subst hr;clear HR;go_enter Tryz.func109,Tryz.ntmps109;go_wp2_with fail;go_ret
     exact ⟨rfl,0,rfl⟩
   · have h1:(s.toList==[102,97,108,115,101])=false:=(by simpa using h1);by_cases h2:(s.toList==[118,97,114])=true
     · have hr:r=true:=(by rw[HR.out,h2];simp);subst hr;clear HR;go_enter Tryz.func109,Tryz.ntmps109;go_wp2_with fail;go_ret
       exact ⟨rfl,0,rfl⟩
     · have h2:(s.toList==[118,97,114])=false:=(by simpa using h2);by_cases h3:(s.toList==[105,110])=true
       · have hr:r=true:=(by rw[HR.out,h3];simp);subst hr;clear HR;go_enter Tryz.func109,Tryz.ntmps109;go_wp2_with fail;go_ret
         exact ⟨rfl,0,rfl⟩
       · have h3:(s.toList==[105,110])=false:=(by simpa using h3);by_cases h4:(s.toList==[105,110,105,116])=true
         · have hr:r=true:=(by rw[HR.out,h4];simp);subst hr;clear HR;go_enter Tryz.func109,Tryz.ntmps109;go_wp2_with fail;go_ret
           exact ⟨rfl,0,rfl⟩
         · have h4:(s.toList==[105,110,105,116])=false:=(by simpa using h4);by_cases h5:(s.toList==[112,114,111,99])=true
           · have hr:r=true:=(by rw[HR.out,h5];simp);subst hr;clear HR;go_enter Tryz.func109,Tryz.ntmps109;go_wp2_with fail;go_ret
             exact ⟨rfl,0,rfl⟩
           · have h5:(s.toList==[112,114,111,99])=false:=(by simpa using h5);by_cases h6:(s.toList==[108,111,99])=true
             · have hr:r=true:=(by rw[HR.out,h6];simp);subst hr;clear HR;go_enter Tryz.func109,Tryz.ntmps109;go_wp2_with fail;go_ret
               exact ⟨rfl,0,rfl⟩
             · have h6:(s.toList==[108,111,99])=false:=(by simpa using h6);by_cases h7:(s.toList==[101,110,100])=true
               · have hr:r=true:=(by rw[HR.out,h7];simp);subst hr;clear HR;go_enter Tryz.func109,Tryz.ntmps109;go_wp2_with fail;go_ret
                 exact ⟨rfl,0,rfl⟩
               · have h7:(s.toList==[101,110,100])=false:=(by simpa using h7);have hr:r=false:=(by rw[HR.out,h0,h1,h2,h3,h4,h5,h6,h7];rfl);subst hr;clear HR;go_enter Tryz.func109,Tryz.ntmps109;go_wp2_with fail;go_ret
                 exact ⟨rfl,0,rfl⟩
def Rc (c:Nat):Nat:=if Ci c=true then 1 else if AV c=true then 2 else if c=95 then 3 else if c=88 then 4 else if c=71 then 4 else if c=70 then 4 else if c=85 then 4 else if c=82 then 4 else if c=32 then 5 else if c=9 then 5 else if c=10 then 5 else if c=35 then 5 else if c=40 then 6 else if c=41 then 6 else if c=44 then 6 else if c=59 then 6 else if c=58 then 6 else if c=46 then 6 else if c=43 then 6 else if c=42 then 6 else if c=38 then 6 else if c=124 then 6 else if c=33 then 6 else if c=64 then 6 else if c=61 then 6 else if c=60 then 6 else if c=62 then 6 else if c=47 then 6 else if c=45 then 6 else 0
def JM (b:Bool) (w:World) (e:Ending) (w':World):Prop:=e=.returned (.bool b)/\Below w.heap.size w w'
def Qr (k:Nat) (s:ByteArray):Bool:=decide (s.size≠0)&&decide (AL (Ab s 0)=k)&&decide (BQ s=s.size)&&decide (QX k s=0)
theorem JN (c:Nat):AL c<10:=by
 unfold AL;split
 · omega
 · split
   · omega
   · split<;>omega
theorem SZ (k:Nat) (s:ByteArray) (w:World) (_hk:k<10) (hs:s.size<=4611686018427387904):Calls Tryz.prog 108 #[.int .i64 (k:Int),.string s] w (JM (Qr k s) w):=by
 have HB:=Aa (show Qr k s=(decide (s.size≠0)&&decide (AL (Ab s 0)=k)&&decide (BQ s=s.size)&&decide (QX k s=0)) from rfl);generalize Qr k s=r at *;have he:=Dj s;have hne:(s.toList==[])=decide (s.size=0):=by rw[<-he];cases s.toList<;>rfl
 by_cases h0:s.size=0
 · have hr:r=false:=(by rw[HB.out];simp[h0]);subst hr;rw[decide_eq_true h0]at he hne;clear HB h0;go_enter Tryz.func108,Tryz.ntmps108;go_wp2_with fail;go_ret
   exact ⟨rfl,Below.refl _ _⟩
 · rw[decide_eq_false h0]at he hne;have hf:=Lp s w (by omega) hs;have hc:=fun W=>Lq (AL (Ab s 0)) s W (JN _) hs
   have HB:=Aa (show r=(decide (AL (Ab s 0)=k)&&decide (BQ s=s.size)&&decide (QX k s=0)) by rw[HB.out];simp[h0]);by_cases h1:AL (Ab s 0)=k
   · rw[h1]at hf hc;by_cases h2:BQ s=s.size
     · rw[h2]at hf;by_cases h3:QX k s=0
       · have hr:r=true:=(by rw[HB.out];simp[h1,h2,h3]);subst hr;simp only[h3]at hc;clear HB h1 h2 h3 h0;go_enter Tryz.func108,Tryz.ntmps108;go_wp2_with fail;refine hf.mono ?_;rintro e w1 ⟨rfl,b1⟩;go_wp2_with fail;refine (hc _).mono ?_;rintro e w1 ⟨rfl,k1,rfl⟩;go_wp2_with fail;go_ret
         exact ⟨rfl,b1.next (Aq _ _)⟩
       · have hr:r=false:=(by rw[HB.out];simp[h3]);subst hr;have g3:¬(QX k s:Int)=0:=(by omega);generalize QX k s=z at *;have b3:((z:Int)==0)=false:=(by simpa using g3);clear HB h1 h2 h3 h0;go_enter Tryz.func108,Tryz.ntmps108;go_wp2_with fail;refine hf.mono ?_;rintro e w1 ⟨rfl,b1⟩;go_wp2_with fail;refine (hc _).mono ?_;rintro e w1 ⟨rfl,k1,rfl⟩;go_wp2_with fail;go_ret
         exact ⟨rfl,b1.next (Aq _ _)⟩
     · have hr:r=false:=(by rw[HB.out];simp[h2]);subst hr;generalize BQ s=z at *;have b3:((z:Int)==(s.size:Int))=false:=(by rw[beq_eq_false_iff_ne];omega);clear HB h1 h2 h0 hc;go_enter Tryz.func108,Tryz.ntmps108;go_wp2_with fail;refine hf.mono ?_;rintro e w1 ⟨rfl,b1⟩;go_wp2_with fail;go_ret
       exact ⟨rfl,b1⟩
   · have hr:r=false:=(by rw[HB.out];simp[h1]);subst hr;generalize AL (Ab s 0)=z at *;have b3:((z:Int)==(k:Int))=false:=(by rw[beq_eq_false_iff_ne];omega);clear HB h1 h0 hc;go_enter Tryz.func108,Tryz.ntmps108;go_wp2_with fail;refine hf.mono ?_;rintro e w1 ⟨rfl,b1⟩;go_wp2_with fail;go_ret
     exact ⟨rfl,b1⟩
theorem Nx (s:ByteArray) (w:World) (hs:s.size<=4611686018427387904):Calls Tryz.prog 67 #[.string s] w (JM (Qr 1 s&&!Mu s) w):=by
 have hi:=SZ 1 s w (by decide) hs;have hr:=fun W=>Mv s W
 generalize Qr 1 s=a at *;generalize Mu s=b at *;go_enter Tryz.func67,Tryz.ntmps67;go_wp2_with fail;refine hi.mono ?_;rintro e w1 ⟨rfl,b1⟩;cases a with
 |false=>
  go_wp2_with fail;go_ret
  exact ⟨rfl,b1⟩
 |true=>
  go_wp2_with fail;refine (hr _).mono ?_;rintro e w2 ⟨rfl,k,rfl⟩;go_wp2_with fail;go_ret
  exact ⟨by cases b<;>rfl,b1.next (Aq _ _)⟩
theorem JO (s:ByteArray) (w:World) (hs:s.size<=4611686018427387904):Calls Tryz.prog 66 #[.string s] w (JM (Qr 3 s) w):=by
 have hi:=SZ 3 s w (by decide) hs;go_enter Tryz.func66,Tryz.ntmps66;go_wp2_with fail;refine hi.mono ?_;rintro e w1 ⟨rfl,b1⟩;go_wp2_with fail;go_ret
 exact ⟨rfl,b1⟩
end
section
open Go.RowKit
open Lx
def Qs (c:Nat):Bool:=decide (1<=Rc c)&&decide (Rc c<=3)
def Ta (c:Nat):Bool:=decide (Rc c=2)
theorem Tb {c:Nat} (hc:c<256):Qs c=Ds c:=by
 have h:Ns (fun c=>Qs c==Ds c) 256=true:=by kernel_rfl
 simpa using F0 h hc
theorem Qt {c:Nat} (hc:c<256):Ta c=AV c:=by
 have h:Ns (fun c=>Ta c==AV c) 256=true:=by kernel_rfl
 simpa using F0 h hc
theorem US {c:Nat} (hc:c<256):decide (Rc c=1)=Ci c:=by
 have h:Ns (fun c=>decide (Rc c=1)==Ci c) 256=true:=by kernel_rfl
 simpa using F0 h hc
def Bj (p:Nat->Bool) (s:ByteArray) (k:Nat):Bool:=decide (stop p (Ab s) s.size k=s.size)
theorem Et {p:Nat->Bool} {s:ByteArray} {k:Nat} (h:k<s.size):Bj p s k=(p (Ab s k)&&Bj p s (k+1)):=by
 unfold Bj;rw[Cr _ _ h];cases hp:p (Ab s k) with
 |true=>simp
 |false=>simp;omega
theorem Gn (p:Nat->Bool) (s:ByteArray):Bj p s s.size=true:=by unfold Bj;rw[Fy];simp
theorem GR {p q:Nat->Bool} (s:ByteArray) (h:∀c,c<256->p c=q c):Bj p s 0=Bj q s 0:=by
 have:∀m k,k+m=s.size->Bj p s k=Bj q s k:=by
  intro m;induction m with
  |zero=>
   intro k hk;obtain rfl:k=s.size:=by omega
   rw[Gn,Gn]
  |succ m ih=>intro k hk;rw[Et (p:=p) (k:=k) (by omega),Et (p:=q) (k:=k) (by omega),h _ (Dx s k),ih (k+1) (by omega)]
 exact this s.size 0 (by omega)
def Da (s:ByteArray):Bool:=!(decide (s.size=0) || decide (60<s.size) || (decide (1<s.size)&&decide (Ab s 0=48)))&&Bj Ta s 0
def BL (s:ByteArray):Bool:=!(decide (s.size=0) || decide (20<s.size) || !decide (Rc (Ab s 0)=1) || Mu s)&&Bj Qs s 0
theorem Ny {s:ByteArray} (h:0<s.size) (ha:Bj AV s 0=true):AV (Ab s 0)=true:=by rw[Et h]at ha;simp at ha;exact ha.1
theorem Nz {c:Nat} (h:AV c=true):Ci c=false:=by unfold AV at h;unfold Ci;simp at h ⊢;omega
theorem number_eq (s:ByteArray):Qr 3 s=Da s:=by
 unfold Qr Da;by_cases h0:s.size=0
 · simp[h0]
 · rw[show Bj Ta s 0=Bj AV s 0 from GR s (fun c hc=>Qt hc)];unfold AL BQ QX;by_cases hd:AV (Ab s 0)=true
   · have hl:=Nz hd;simp only[hl,hd,Bool.false_eq_true,if_false,if_true,h0];rw[show decide (stop AV (Ab s) s.size 0=s.size)=Bj AV s 0 from rfl];cases Bj AV s 0 with
     |false=>simp
     |true=>
      generalize s.size=n at *;generalize Ab s 0=b at *;by_cases h1:60<n
      · simp[h0,h1]
      · by_cases h2:1<n/\b=48
        · simp[h0,h1,h2.1,h2.2]
        · by_cases h3:1<n
          · have h4:¬b=48:=fun h=>h2 ⟨h3,h⟩
            simp[h0,h1,h3,h4]
          · simp[h0,h1,h3]
   · have hn:Bj AV s 0=false:=by
      cases h:Bj AV s 0 with
      |false=>rfl
      |true=>exact absurd (Ny (by omega) h) hd
     rw[hn,Bool.and_false];have hk:¬(if Ci (Ab s 0)=true then 1 else if AV (Ab s 0)=true then 3 else if DV (Ab s 0)=true then 4 else 2)=3:=by
      rw[if_neg hd];split
      · omega
      · split<;>omega
     rw[decide_eq_false hk];simp
theorem Mw (s:ByteArray):(Qr 1 s&&!Mu s)=BL s:=by
 unfold Qr BL;by_cases h0:s.size=0
 · simp[h0]
 · rw[show Bj Qs s 0=Bj Ds s 0 from GR s (fun c hc=>Tb hc),US (Dx s 0)];unfold AL BQ QX;by_cases hl:Ci (Ab s 0)=true
   · simp only[hl,if_true,h0,if_false];rw[show decide (stop Ds (Ab s) s.size 0=s.size)=Bj Ds s 0 from rfl];cases Bj Ds s 0 with
     |false=>simp
     |true=>
      generalize Mu s=r at *;generalize s.size=n at *;by_cases h1:20<n
      · simp[h0,h1]
      · simp[h0,h1]
   · have hk:¬(if Ci (Ab s 0)=true then 1 else if AV (Ab s 0)=true then 3 else if DV (Ab s 0)=true then 4 else 2)=1:=by
      rw[if_neg hl];split
      · omega
      · split<;>omega
     rw[decide_eq_false hk,show Ci (Ab s 0)=false by simpa using hl];simp
end
end Go.Proofs.YtgohmojcopajoaaGreatDoor
namespace Go.Proofs.YtgohmojcopajoaaGreatDoor.Ex
section
abbrev PT:=Nat×ByteArray
structure Mn where
 num:ByteArray
 var:ByteArray
 neg:Bool
inductive Tr where
 |leaf (b:Bool)
 |cmp (l:List Mn) (op:Nat) (r:List Mn)
 |deny (t:Tr)
 |both (a b:Tr)
 |any (a b:Tr)
inductive Out (α:Type) where
 |ok (a:α) (rest:List PT)
 |err (code:Nat) (rest:List PT)
 |fuel
def AK (s:ByteArray):List PT->Bool
 |[]=>false
 |(k,t)::_=>decide (t=s)&&(k==1 || k==2 || k==4)
def Bb (p:PT):Bool:=p.1==1&&BL p.2
def Bc (kn:ByteArray->Bool) (full neg:Bool):List PT->Out Mn
 |[]=>.err 101 []
 |p::r=>
  if p.1==3 then
   if full then .err 3 (p::r)
   else if AK ⟨#[42]⟩ r then
    match r.tail with
    |[]=>.err 101 []
    |p2::r2=>if Bb p2 then (if kn p2.2 then .ok ⟨p.2,p2.2,neg⟩ r2 else .err 110 (p2::r2)) else .err 101 (p2::r2)
   else .ok ⟨p.2,⟨#[]⟩,neg⟩ r
  else if Bb p then
   if full then .err 3 (p::r) else if kn p.2 then .ok ⟨⟨#[]⟩,p.2,neg⟩ r else .err 110 (p::r)
  else .err 101 (p::r)
def Cd (kn:ByteArray->Bool):Nat->Bool->List Mn->List PT->Out (List Mn)
 |0,_,_,_=>.fuel
 |m+1,neg,acc,r=>
  match Bc kn (acc.length==64) neg r with
  |.fuel=>.fuel
  |.err c r1=>.err c r1
  |.ok x r1=>if AK ⟨#[45]⟩ r1 then Cd kn m true (acc++[x]) r1.tail else if AK ⟨#[43]⟩ r1 then Cd kn m false (acc++[x]) r1.tail else .ok (acc++[x]) r1
def Be (kn:ByteArray->Bool) (r:List PT):Out (List Mn):=if AK ⟨#[45]⟩ r then Cd kn (r.length+1) true [] r.tail else Cd kn (r.length+1) false [] r
def EA:Nat->ByteArray
 |0=>⟨#[61]⟩
 |1=>⟨#[33,61]⟩
 |2=>⟨#[60]⟩
 |3=>⟨#[60,61]⟩
 |4=>⟨#[62]⟩
 |_=>⟨#[62,61]⟩
def N0 (r:List PT):Option Nat:=(List.range 6).find? fun i=>AK (EA i) r
def Gg (kn:ByteArray->Bool) (r:List PT):Out Tr:=
 match Be kn r with
 |.fuel=>.fuel
 |.err c r1=>.err c r1
 |.ok l r1=>
  match N0 r1 with
  |none=>.err 101 r1
  |some op=>
   match Be kn r1.tail with
   |.fuel=>.fuel
   |.err c r2=>.err c r2
   |.ok x r2=>.ok (.cmp l op x) r2
inductive Md where
 |one
 |both
 |bothGo (t:Tr)
 |cond
 |condGo (t:Tr)
def AW (kn:ByteArray->Bool):Nat->Md->Nat->List PT->Out Tr
 |0,_,_,_=>.fuel
 |n+1,.one,lv,r=>
  if lv=0/\(AK ⟨#[33]⟩ r=true\/AK ⟨#[40]⟩ r=true) then .err 102 r
  else if AK ⟨#[33]⟩ r=true then
   match AW kn n .one (lv-1) r.tail with
   |.fuel=>.fuel
   |.err c r1=>.err c r1
   |.ok t r1=>.ok (.deny t) r1
  else if AK ⟨#[40]⟩ r=true then
   match AW kn n .cond (lv-1) r.tail with
   |.fuel=>.fuel
   |.err c r1=>.err c r1
   |.ok t r1=>if AK ⟨#[41]⟩ r1=true then .ok t r1.tail else .err 101 r1
  else if AK ⟨#[116,114,117,101]⟩ r=true then .ok (.leaf true) r.tail
  else if AK ⟨#[102,97,108,115,101]⟩ r=true then .ok (.leaf false) r.tail
  else Gg kn r
 |n+1,.both,lv,r=>
  match AW kn n .one lv r with
  |.fuel=>.fuel
  |.err c r1=>.err c r1
  |.ok t r1=>AW kn n (.bothGo t) lv r1
 |n+1,.bothGo t,lv,r=>
  if AK ⟨#[38]⟩ r=true then
   match AW kn n .one lv r.tail with
   |.fuel=>.fuel
   |.err c r1=>.err c r1
   |.ok k r1=>AW kn n (.bothGo (.both t k)) lv r1
  else .ok t r
 |n+1,.cond,lv,r=>
  match AW kn n .both lv r with
  |.fuel=>.fuel
  |.err c r1=>.err c r1
  |.ok t r1=>AW kn n (.condGo t) lv r1
 |n+1,.condGo t,lv,r=>
  if AK ⟨#[124]⟩ r=true then
   match AW kn n .both lv r.tail with
   |.fuel=>.fuel
   |.err c r1=>.err c r1
   |.ok k r1=>AW kn n (.condGo (.any t k)) lv r1
  else .ok t r
theorem Re (kn:ByteArray->Bool) (n:Nat):∀(md:Md) (lv:Nat) (r:List PT),AW kn n md lv r≠.fuel->AW kn (n+1) md lv r=AW kn n md lv r:=by
 induction n with
 |zero=>intro md lv r h;exact absurd rfl h
 |succ n ih=>
  have step:∀(md:Md) (lv:Nat) (r:List PT) (K K':Tr->List PT->Out Tr),(∀t r1,K t r1≠.fuel->K' t r1=K t r1) ->
     (match AW kn n md lv r with|.fuel=>Out.fuel|.err c r1=>Out.err c r1|.ok t r1=>K t r1)≠.fuel ->
     (match AW kn (n+1) md lv r with|.fuel=>Out.fuel|.err c r1=>Out.err c r1|.ok t r1=>K' t r1)=(match AW kn n md lv r with|.fuel=>Out.fuel|.err c r1=>Out.err c r1|.ok t r1=>K t r1):=by
   intro md lv r K K' hK h;cases hp:AW kn n md lv r with
   |fuel=>rw[hp]at h;exact absurd rfl h
   |err c r1=>rw[ih md lv r (by rw[hp];exact fun e=>by cases e),hp]
   |ok t r1=> rw[ih md lv r (by rw[hp];exact fun e=>by cases e),hp];rw[hp]at h;exact hK t r1 h
  intro md lv r h;cases md with
  |one=>
   rw[AW]at h ⊢;conv=>rhs;rw[AW]
   by_cases c1:lv=0/\(AK ⟨#[33]⟩ r=true\/AK ⟨#[40]⟩ r=true)
   · rw[if_pos c1,if_pos c1]
   · rw[if_neg c1]at h ⊢;rw[if_neg c1];by_cases c2:AK ⟨#[33]⟩ r=true
     · rw[if_pos c2]at h ⊢;rw[if_pos c2];exact step _ _ _ (fun t r1=>.ok (.deny t) r1) (fun t r1=>.ok (.deny t) r1) (fun _ _ _=>rfl) h
     · rw[if_neg c2]at h ⊢;rw[if_neg c2];by_cases c3:AK ⟨#[40]⟩ r=true
       · rw[if_pos c3]at h ⊢;rw[if_pos c3];exact step _ _ _ (fun t r1=>if AK ⟨#[41]⟩ r1=true then .ok t r1.tail else .err 101 r1) (fun t r1=>if AK ⟨#[41]⟩ r1=true then .ok t r1.tail else .err 101 r1) (fun _ _ _=>rfl) h
       · rw[if_neg c3,if_neg c3]
  |both=>
   rw[AW]at h ⊢;conv=>rhs;rw[AW]
   exact step _ _ _ (fun t r1=>AW kn n (.bothGo t) lv r1) (fun t r1=>AW kn (n+1) (.bothGo t) lv r1) (fun t r1 hk=>ih _ _ _ hk) h
  |bothGo t=>
   rw[AW]at h ⊢;conv=>rhs;rw[AW]
   by_cases c:AK ⟨#[38]⟩ r=true
   · rw[if_pos c]at h ⊢;rw[if_pos c];exact step _ _ _ (fun k r1=>AW kn n (.bothGo (.both t k)) lv r1) (fun k r1=>AW kn (n+1) (.bothGo (.both t k)) lv r1) (fun _ _ hk=>ih _ _ _ hk) h
   · rw[if_neg c,if_neg c]
  |cond=>
   rw[AW]at h ⊢;conv=>rhs;rw[AW]
   exact step _ _ _ (fun t r1=>AW kn n (.condGo t) lv r1) (fun t r1=>AW kn (n+1) (.condGo t) lv r1) (fun t r1 hk=>ih _ _ _ hk) h
  |condGo t=>
   rw[AW]at h ⊢;conv=>rhs;rw[AW]
   by_cases c:AK ⟨#[124]⟩ r=true
   · rw[if_pos c]at h ⊢;rw[if_pos c];exact step _ _ _ (fun k r1=>AW kn n (.condGo (.any t k)) lv r1) (fun k r1=>AW kn (n+1) (.condGo (.any t k)) lv r1) (fun _ _ hk=>ih _ _ _ hk) h
   · rw[if_neg c,if_neg c]
theorem Lt (kn:ByteArray->Bool) {n:Nat} {md:Md} {lv:Nat} {r:List PT} (k:Nat) (h:AW kn n md lv r≠.fuel):AW kn (n+k) md lv r=AW kn n md lv r:=by
 induction k with
 |zero=>rfl
 |succ k ih=>rw[<-Nat.add_assoc,Re kn (n+k) md lv r (by rw[ih];exact h),ih]
end
section
theorem Gp {s:ByteArray} {r:List PT} (h:AK s r=true):0<r.length:=by
 cases r with
 |nil=>cases h
 |cons p r=>exact Nat.succ_pos _
theorem C8 (r:List PT):r.tail.length=r.length-1:=by simp
theorem N1 {kn:ByteArray->Bool} {full neg:Bool} {r r1:List PT} {x:Mn} (h:Bc kn full neg r=.ok x r1):r1.length<r.length:=by
 cases r with
 |nil=>cases h
 |cons p r=>
  rw[Bc]at h;by_cases c1:(p.1==3)=true
  · rw[if_pos c1]at h;by_cases c2:full=true
    · rw[if_pos c2]at h;cases h
    · rw[if_neg c2]at h;by_cases c3:AK ⟨#[42]⟩ r=true
      · rw[if_pos c3]at h;cases hr:r.tail with
        |nil=>rw[hr]at h;cases h
        |cons p2 r2=>
          rw[hr]at h;have hl:=C8 r;rw[hr,List.length_cons]at hl;dsimp only at h
          by_cases c4:Bb p2=true
          · rw[if_pos c4]at h;by_cases c5:kn p2.2=true
            · rw[if_pos c5]at h;injection h with _ h
              subst h;rw[List.length_cons];omega
            · rw[if_neg c5]at h;cases h
          · rw[if_neg c4]at h;cases h
      · rw[if_neg c3]at h;injection h with _ h
        subst h;exact Nat.lt_succ_self _
  · rw[if_neg c1]at h;by_cases c2:Bb p=true
    · rw[if_pos c2]at h;by_cases c3:full=true
      · rw[if_pos c3]at h;cases h
      · rw[if_neg c3]at h;by_cases c4:kn p.2=true
        · rw[if_pos c4]at h;injection h with _ h
          subst h;exact Nat.lt_succ_self _
        · rw[if_neg c4]at h;cases h
    · rw[if_neg c2]at h;cases h
theorem ID (kn:ByteArray->Bool) (full neg:Bool) (r:List PT):Bc kn full neg r≠.fuel:=by
 intro h;cases r with
 |nil=>cases h
 |cons p r=>
  rw[Bc]at h;by_cases c1:(p.1==3)=true
  · rw[if_pos c1]at h;by_cases c2:full=true
    · rw[if_pos c2]at h;cases h
    · rw[if_neg c2]at h;by_cases c3:AK ⟨#[42]⟩ r=true
      · rw[if_pos c3]at h;cases hr:r.tail with
        |nil=>rw[hr]at h;cases h
        |cons p2 r2=>
          rw[hr]at h;dsimp only at h
          by_cases c4:Bb p2=true
          · rw[if_pos c4]at h;by_cases c5:kn p2.2=true
            · rw[if_pos c5]at h;cases h
            · rw[if_neg c5]at h;cases h
          · rw[if_neg c4]at h;cases h
      · rw[if_neg c3]at h;cases h
  · rw[if_neg c1]at h;by_cases c2:Bb p=true
    · rw[if_pos c2]at h;by_cases c3:full=true
      · rw[if_pos c3]at h;cases h
      · rw[if_neg c3]at h;by_cases c4:kn p.2=true
        · rw[if_pos c4]at h;cases h
        · rw[if_neg c4]at h;cases h
    · rw[if_neg c2]at h;cases h
theorem EY (kn:ByteArray->Bool) (m:Nat):∀(neg:Bool) (acc:List Mn) (r:List PT),(r.length<m->Cd kn m neg acc r≠.fuel)/\∀x r1,Cd kn m neg acc r=.ok x r1->r1.length<r.length:=by
 induction m with
 |zero=>intro neg acc r;exact ⟨fun h=>absurd h (Nat.not_lt_zero _),fun x r1 h=>by cases h⟩
 |succ m ih=>
  intro neg acc r;rw[Cd];cases hm:Bc kn (acc.length==64) neg r with
  |fuel=>exact absurd hm (ID _ _ _ _)
  |err c r1=>exact ⟨(fun _ h=>by cases h),(fun x r2 h=>by cases h)⟩
  |ok x r1=>
   have hl:=N1 hm;have ht:=C8 r1;dsimp only
   by_cases c1:AK ⟨#[45]⟩ r1=true
   · rw[if_pos c1];obtain ⟨h1,h2⟩:=ih true (acc++[x]) r1.tail;exact ⟨fun h=>h1 (by omega),fun y r2 h=>by have:=h2 y r2 h;omega⟩
   · rw[if_neg c1];by_cases c2:AK ⟨#[43]⟩ r1=true
     · rw[if_pos c2];obtain ⟨h1,h2⟩:=ih false (acc++[x]) r1.tail;exact ⟨fun h=>h1 (by omega),fun y r2 h=>by have:=h2 y r2 h;omega⟩
     · rw[if_neg c2];refine ⟨fun _ h=>(by cases h),fun y r2 h=>?_⟩;injection h with _ h
       subst h;exact hl
theorem GF (kn:ByteArray->Bool) (r:List PT):Be kn r≠.fuel:=by
 unfold Be;have:=C8 r;split
 · exact (EY kn _ _ _ _).1 (by omega)
 · exact (EY kn _ _ _ _).1 (by omega)
theorem N2 {kn:ByteArray->Bool} {r r1:List PT} {x:List Mn} (h:Be kn r=.ok x r1):r1.length<r.length:=by
 unfold Be at h;have:=C8 r;split at h
 · have:=(EY kn _ _ _ _).2 _ _ h;omega
 · exact (EY kn _ _ _ _).2 _ _ h
theorem Rf (kn:ByteArray->Bool) (r:List PT):Gg kn r≠.fuel:=by
 intro h;unfold Gg at h;cases h1:Be kn r with
 |fuel=>exact GF kn r h1
 |err c r1=>rw[h1]at h;cases h
 |ok l r1=>
  rw[h1]at h;dsimp only at h
  cases h2:N0 r1 with
  |none=>rw[h2]at h;cases h
  |some op=>
   rw[h2]at h;dsimp only at h
   cases h3:Be kn r1.tail with
   |fuel=>exact GF kn _ h3
   |err c r2=>rw[h3]at h;cases h
   |ok x r2=>rw[h3]at h;cases h
theorem Tc {kn:ByteArray->Bool} {r r1:List PT} {t:Tr} (h:Gg kn r=.ok t r1):r1.length<r.length:=by
 unfold Gg at h;cases h1:Be kn r with
 |fuel=>rw[h1]at h;cases h
 |err c r1=>rw[h1]at h;cases h
 |ok l r1=>
  rw[h1]at h;have hl:=N2 h1;dsimp only at h
  cases h2:N0 r1 with
  |none=>rw[h2]at h;cases h
  |some op=>
   rw[h2]at h;dsimp only at h
   cases h3:Be kn r1.tail with
   |fuel=>rw[h3]at h;cases h
   |err c r2=>rw[h3]at h;cases h
   |ok x r2=>
    rw[h3]at h;have hl3:=N2 h3;have ht:=C8 r1;dsimp only at h
    injection h with _ h
    subst h;omega
def Df:Md->Nat
 |.one=>1
 |.bothGo _=>2
 |.both=>3
 |.condGo _=>4
 |.cond=>5
def bind (o:Out Tr) (K:Tr->List PT->Out Tr):Out Tr:=
 match o with
 |.fuel=>.fuel
 |.err c r=>.err c r
 |.ok t r=>K t r
theorem Ew {o:Out Tr} {K:Tr->List PT->Out Tr} (h:o≠.fuel) (hK:∀t r,o=.ok t r->K t r≠.fuel):bind o K≠.fuel:=by
 cases o with
 |fuel=>exact absurd rfl h
 |err c r=>exact fun e=>by cases e
 |ok t r=>exact hK t r rfl
theorem bind_ok {o:Out Tr} {K:Tr->List PT->Out Tr} {t:Tr} {r:List PT} (h:bind o K=.ok t r):∃t1 r1,o=.ok t1 r1/\K t1 r1=.ok t r:=by
 cases o with
 |fuel=>cases h
 |err c r=>cases h
 |ok t1 r1=>exact ⟨t1,r1,rfl,h⟩
theorem Ic (kn:ByteArray->Bool) (n lv:Nat) (r:List PT):AW kn (n+1) .one lv r=if lv=0/\(AK ⟨#[33]⟩ r=true\/AK ⟨#[40]⟩ r=true) then .err 102 r else if AK ⟨#[33]⟩ r=true then bind (AW kn n .one (lv-1) r.tail) (fun t r1=>.ok (.deny t) r1)
 else if AK ⟨#[40]⟩ r=true then bind (AW kn n .cond (lv-1) r.tail) (fun t r1=>if AK ⟨#[41]⟩ r1=true then .ok t r1.tail else .err 101 r1)
 else if AK ⟨#[116,114,117,101]⟩ r=true then .ok (.leaf true) r.tail else if AK ⟨#[102,97,108,115,101]⟩ r=true then .ok (.leaf false) r.tail else Gg kn r:=rfl
theorem GG (kn:ByteArray->Bool) (n lv:Nat) (r:List PT):AW kn (n+1) .both lv r=bind (AW kn n .one lv r) (fun t r1=>AW kn n (.bothGo t) lv r1):=rfl
theorem EZ (kn:ByteArray->Bool) (n lv:Nat) (t:Tr) (r:List PT):AW kn (n+1) (.bothGo t) lv r=if AK ⟨#[38]⟩ r=true then bind (AW kn n .one lv r.tail) (fun k r1=>AW kn n (.bothGo (.both t k)) lv r1) else .ok t r:=rfl
theorem GH (kn:ByteArray->Bool) (n lv:Nat) (r:List PT):AW kn (n+1) .cond lv r=bind (AW kn n .both lv r) (fun t r1=>AW kn n (.condGo t) lv r1):=rfl
theorem Fa (kn:ByteArray->Bool) (n lv:Nat) (t:Tr) (r:List PT):AW kn (n+1) (.condGo t) lv r=if AK ⟨#[124]⟩ r=true then bind (AW kn n .both lv r.tail) (fun k r1=>AW kn n (.condGo (.any t k)) lv r1) else .ok t r:=rfl
theorem Dk (kn:ByteArray->Bool) (n:Nat):∀(md:Md) (lv:Nat) (r:List PT) (t:Tr) (r1:List PT),AW kn n md lv r=.ok t r1->r1.length<=r.length:=by
 induction n with
 |zero=>intro md lv r t r1 h;cases h
 |succ n ih=>
  intro md lv r t r1 h;have ht:=C8 r;cases md with
  |one=>
   rw[Ic]at h;split at h
   · cases h
   · split at h
     · obtain ⟨t2,r2,h1,h2⟩:=bind_ok h;injection h2 with _ h2
       subst h2;have:=ih _ _ _ _ _ h1;omega
     · split at h
       · obtain ⟨t2,r2,h1,h2⟩:=bind_ok h;have h3:=ih _ _ _ _ _ h1;have h4:=C8 r2;split at h2
         · injection h2 with _ h2
           subst h2;omega
         · cases h2
       · split at h
         · injection h with _ h
           subst h;omega
         · split at h
           · injection h with _ h
             subst h;omega
           · exact Nat.le_of_lt (Tc h)
  |both=>
   rw[GG]at h;obtain ⟨t2,r2,h1,h2⟩:=bind_ok h;have:=ih _ _ _ _ _ h1;have:=ih _ _ _ _ _ h2;omega
  |bothGo k=>
   rw[EZ]at h;split at h
   · obtain ⟨t2,r2,h1,h2⟩:=bind_ok h;have:=ih _ _ _ _ _ h1;have:=ih _ _ _ _ _ h2;omega
   · injection h with _ h
     subst h;exact Nat.le_refl _
  |cond=>
   rw[GH]at h;obtain ⟨t2,r2,h1,h2⟩:=bind_ok h;have:=ih _ _ _ _ _ h1;have:=ih _ _ _ _ _ h2;omega
  |condGo k=>
   rw[Fa]at h;split at h
   · obtain ⟨t2,r2,h1,h2⟩:=bind_ok h;have:=ih _ _ _ _ _ h1;have:=ih _ _ _ _ _ h2;omega
   · injection h with _ h
     subst h;exact Nat.le_refl _
theorem IE (kn:ByteArray->Bool) (n:Nat):∀(md:Md) (lv:Nat) (r:List PT),8*r.length+Df md<=n->AW kn n md lv r≠.fuel:=by
 induction n with
 |zero=>intro md lv r h;cases md<;>simp[Df]at h
 |succ n ih=>
  intro md lv r h;have ht:=C8 r;cases md with
  |one=>
   simp only[Df]at h;rw[Ic];by_cases c1:lv=0/\(AK ⟨#[33]⟩ r=true\/AK ⟨#[40]⟩ r=true)
   · rw[if_pos c1];exact fun e=>by cases e
   · rw[if_neg c1];by_cases c2:AK ⟨#[33]⟩ r=true
     · have:=Gp c2;rw[if_pos c2];exact Ew (ih _ _ _ (by simp only[Df];omega)) (fun _ _ _ e=>by cases e)
     · rw[if_neg c2];by_cases c3:AK ⟨#[40]⟩ r=true
       · have:=Gp c3;rw[if_pos c3];refine Ew (ih _ _ _ (by simp only[Df];omega)) (fun _ _ _=>?_);split<;>exact fun e=>by cases e
       · rw[if_neg c3];split
         · exact fun e=>by cases e
         · split
           · exact fun e=>by cases e
           · exact Rf kn r
  |both=>
   simp only[Df]at h;rw[GG];refine Ew (ih _ _ _ (by simp only[Df];omega)) (fun t r1 hk=>?_);have:=Dk kn n _ _ _ _ _ hk;exact ih _ _ _ (by simp only[Df];omega)
  |bothGo k=>
   simp only[Df]at h;rw[EZ];by_cases c:AK ⟨#[38]⟩ r=true
   · have:=Gp c;rw[if_pos c];refine Ew (ih _ _ _ (by simp only[Df];omega)) (fun t r1 hk=>?_);have:=Dk kn n _ _ _ _ _ hk;exact ih _ _ _ (by simp only[Df];omega)
   · rw[if_neg c];exact fun e=>by cases e
  |cond=>
   simp only[Df]at h;rw[GH];refine Ew (ih _ _ _ (by simp only[Df];omega)) (fun t r1 hk=>?_);have:=Dk kn n _ _ _ _ _ hk;exact ih _ _ _ (by simp only[Df];omega)
  |condGo k=>
   simp only[Df]at h;rw[Fa];by_cases c:AK ⟨#[124]⟩ r=true
   · have:=Gp c;rw[if_pos c];refine Ew (ih _ _ _ (by simp only[Df];omega)) (fun t r1 hk=>?_);have:=Dk kn n _ _ _ _ _ hk;exact ih _ _ _ (by simp only[Df];omega)
   · rw[if_neg c];exact fun e=>by cases e
def Am (kn:ByteArray->Bool) (md:Md) (lv:Nat) (r:List PT):Out Tr:=AW kn (8*r.length+8) md lv r
theorem Qu (md:Md):Df md<=5:=by cases md<;>simp[Df]
theorem CS (kn:ByteArray->Bool) {n:Nat} {md:Md} (lv:Nat) {r:List PT} (h:8*r.length+Df md<=n):AW kn n md lv r=Am kn md lv r:=by
 have h1:=IE kn n md lv r h;have h2:=IE kn (8*r.length+8) md lv r (by have:=Qu md;omega);unfold Am;rcases Nat.le_total n (8*r.length+8) with hle|hle
 · obtain ⟨k,hk⟩:=Nat.exists_eq_add_of_le hle;rw[hk,Lt kn k h1]
 · obtain ⟨k,hk⟩:=Nat.exists_eq_add_of_le hle;rw[hk,Lt kn k h2]
theorem FD {o:Out Tr} {K K':Tr->List PT->Out Tr} (h:∀t r,o=.ok t r->K t r=K' t r):bind o K=bind o K':=by
 cases o with
 |fuel=>rfl
 |err c r=>rfl
 |ok t r=>exact h t r rfl
theorem Dy (kn:ByteArray->Bool) (lv:Nat) (r:List PT):Am kn .both lv r=bind (Am kn .one lv r) (fun t r1=>Am kn (.bothGo t) lv r1):=by
 conv=>lhs;unfold Am
 rw[GG,CS kn lv (by simp only[Df];omega)];refine FD (fun t r1 h=>?_);have:=Dk kn _ _ _ _ _ _ h;exact CS kn lv (by simp only[Df];omega)
theorem EB (kn:ByteArray->Bool) (lv:Nat) (r:List PT):Am kn .cond lv r=bind (Am kn .both lv r) (fun t r1=>Am kn (.condGo t) lv r1):=by
 conv=>lhs;unfold Am
 rw[GH,CS kn lv (by simp only[Df];omega)];refine FD (fun t r1 h=>?_);have:=Dk kn _ _ _ _ _ _ h;exact CS kn lv (by simp only[Df];omega)
theorem FE (kn:ByteArray->Bool) (lv:Nat) (t:Tr) (r:List PT):Am kn (.bothGo t) lv r=if AK ⟨#[38]⟩ r=true then bind (Am kn .one lv r.tail) (fun k r1=>Am kn (.bothGo (.both t k)) lv r1) else .ok t r:=by
 conv=>lhs;unfold Am
 rw[EZ];have ht:=C8 r;by_cases c:AK ⟨#[38]⟩ r=true
 · have:=Gp c;rw[if_pos c,if_pos c,CS kn lv (by simp only[Df];omega)];refine FD (fun k r1 h=>?_);have:=Dk kn _ _ _ _ _ _ h;exact CS kn lv (by simp only[Df];omega)
 · rw[if_neg c,if_neg c]
theorem FF (kn:ByteArray->Bool) (lv:Nat) (t:Tr) (r:List PT):Am kn (.condGo t) lv r=if AK ⟨#[124]⟩ r=true then bind (Am kn .both lv r.tail) (fun k r1=>Am kn (.condGo (.any t k)) lv r1) else .ok t r:=by
 conv=>lhs;unfold Am
 rw[Fa];have ht:=C8 r;by_cases c:AK ⟨#[124]⟩ r=true
 · have:=Gp c;rw[if_pos c,if_pos c,CS kn lv (by simp only[Df];omega)];refine FD (fun k r1 h=>?_);have:=Dk kn _ _ _ _ _ _ h;exact CS kn lv (by simp only[Df];omega)
 · rw[if_neg c,if_neg c]
theorem BS (kn:ByteArray->Bool) (lv:Nat) (r:List PT):Am kn .one lv r=if lv=0/\(AK ⟨#[33]⟩ r=true\/AK ⟨#[40]⟩ r=true) then .err 102 r else if AK ⟨#[33]⟩ r=true then bind (Am kn .one (lv-1) r.tail) (fun t r1=>.ok (.deny t) r1)
   else if AK ⟨#[40]⟩ r=true then bind (Am kn .cond (lv-1) r.tail) (fun t r1=>if AK ⟨#[41]⟩ r1=true then .ok t r1.tail else .err 101 r1)
   else if AK ⟨#[116,114,117,101]⟩ r=true then .ok (.leaf true) r.tail else if AK ⟨#[102,97,108,115,101]⟩ r=true then .ok (.leaf false) r.tail else Gg kn r:=by
 conv=>lhs;unfold Am
 rw[Ic];have ht:=C8 r;by_cases c1:lv=0/\(AK ⟨#[33]⟩ r=true\/AK ⟨#[40]⟩ r=true)
 · rw[if_pos c1,if_pos c1]
 · rw[if_neg c1,if_neg c1];by_cases c2:AK ⟨#[33]⟩ r=true
   · have:=Gp c2;rw[if_pos c2,if_pos c2,CS kn (lv-1) (by simp only[Df];omega)]
   · rw[if_neg c2,if_neg c2];by_cases c3:AK ⟨#[40]⟩ r=true
     · have:=Gp c3;rw[if_pos c3,if_pos c3,CS kn (lv-1) (by simp only[Df];omega)]
     · rw[if_neg c3,if_neg c3]
theorem OJ (kn:ByteArray->Bool) (md:Md) (lv:Nat) (r:List PT):Am kn md lv r≠.fuel:=IE kn _ md lv r (by have:=Qu md;omega)
theorem Lu {kn:ByteArray->Bool} {md:Md} {lv:Nat} {r r1:List PT} {t:Tr} (h:Am kn md lv r=.ok t r1):r1.length<=r.length:=Dk kn _ _ _ _ _ _ h
end
end Go.Proofs.YtgohmojcopajoaaGreatDoor.Ex
