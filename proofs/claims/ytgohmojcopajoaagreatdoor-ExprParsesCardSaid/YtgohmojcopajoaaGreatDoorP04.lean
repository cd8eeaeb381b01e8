/- Texts of one seat, put together: LexH LexI ExprM. -/
import Derived.Test.YtgohmojcopajoaaGreatDoorP03
set_option linter.unusedVariables false
set_option linter.unusedSimpArgs false
set_option maxRecDepth 100000
set_option maxHeartbeats 16000000
namespace Go.Proofs.YtgohmojcopajoaaGreatDoor
section
open Go.RowKit
open Lx
def Gz (s:ByteArray):Bool:=(s.toList==[116,114,117,101]) || (s.toList==[102,97,108,115,101]) || (s.toList==[118,97,114]) || (s.toList==[105,110]) || (s.toList==[105,110,105,116]) || (s.toList==[112,114,111,99]) || (s.toList==[108,111,99]) || (s.toList==[101,110,100])
theorem KV (s:ByteArray) (w:World):Calls Tryz.prog 109 #[.string s] w (EE (.bool (Gz s)) w):=by
 have HR:=Aa (show Gz s=((s.toList==[116,114,117,101]) || (s.toList==[102,97,108,115,101]) || (s.toList==[118,97,114]) || (s.toList==[105,110]) || (s.toList==[105,110,105,116]) || (s.toList==[112,114,111,99]) || (s.toList==[108,111,99]) || (s.toList==[101,110,100])) from rfl);generalize Gz s=r at *;by_cases h0:(s.toList==[116,114,117,101])=true
 · have hr:r=true:=(by rw[HR.out,h0];simp);subst hr;clear HR;go_enter Tryz.func109,Tryz.ntmps109;go_wp2_with fail;go_ret
   exact ⟨rfl,0,rfl⟩
 · have h0:(s.toList==[116,114,117,101])=false:=(by simpa using h0);by_cases h1:(s.toList==[102,97,108,115,101])=true
   · have hr:r=true:=(by rw[HR.out,h1];simp);subst hr;clear HR;go_enter Tryz.func109,Tryz.ntmps109;go_wp2_with fail;go_ret
     exact ⟨rfl,0,rfl⟩
   · have h1:(s.toList==[102,97,108,115,101])=false:=(by simpa using h1);by_cases h2:(s.toList==[118,97,114])=true
     · have hr:r=true:=(by rw[HR.out,h2];simp);subst hr;clear HR;go_enter Tryz.func109,Tryz.ntmps109;go_wp2_with fail;go_ret
       exact ⟨rfl,0,rfl⟩
     · have h2:(s.toList==[118,97,114])=false:=(by simpa using h2);by_cases h3:(s.toList==[105,110])=true
       · have hr:r=true:=(by rw[HR.out,h3];simp);subst hr;clear HR;go_enter Tryz.func109,Tryz.ntmps109;go_wp2_with fail;go_ret
         exact ⟨rfl,0,rfl⟩
       · have h3:(s.toList==[105,110])=false:=(by simpa using h3);by_cases h4:(s.toList==[105,110,105,116])=true
         · have hr:r=true:=(by rw[HR.out,h4];simp);subst hr;clear HR;go_enter Tryz.func109,Tryz.ntmps109;go_wp2_with fail;go_ret
           exact ⟨rfl,0,rfl⟩
         · have h4:(s.toList==[105,110,105,116])=false:=(by simpa using h4);by_cases h5:(s.toList==[112,114,111,99])=true
           · have hr:r=true:=(by rw[HR.out,h5];simp);subst hr;clear HR;go_enter Tryz.func109,Tryz.ntmps109;go_wp2_with fail;go_ret
             exact ⟨rfl,0,rfl⟩
           · have h5:(s.toList==[112,114,111,99])=false:=(by simpa using h5);by_cases h6:(s.toList==[108,111,99])=true
             · have hr:r=true:=(by rw[HR.out,h6];simp);subst hr;clear HR;go_enter Tryz.func109,Tryz.ntmps109;go_wp2_with fail;go_ret
               exact ⟨rfl,0,rfl⟩
             · have h6:(s.toList==[108,111,99])=false:=(by simpa using h6);by_cases h7:(s.toList==[101,110,100])=true
               · have hr:r=true:=(by rw[HR.out,h7];simp);subst hr;clear HR;go_enter Tryz.func109,Tryz.ntmps109;go_wp2_with fail;go_ret
                 exact ⟨rfl,0,rfl⟩
               · have h7:(s.toList==[101,110,100])=false:=(by simpa using h7);have hr:r=false:=(by rw[HR.out,h0,h1,h2,h3,h4,h5,h6,h7];rfl);subst hr;clear HR;go_enter Tryz.func109,Tryz.ntmps109;go_wp2_with fail;go_ret
                 exact ⟨rfl,0,rfl⟩
theorem JR (s:ByteArray) (w:World):Calls Tryz.prog 139 #[.string s] w (EE (.bool (Gz s)) w):=by
 have HR:=Aa (show Gz s=((s.toList==[116,114,117,101]) || (s.toList==[102,97,108,115,101]) || (s.toList==[118,97,114]) || (s.toList==[105,110]) || (s.toList==[105,110,105,116]) || (s.toList==[112,114,111,99]) || (s.toList==[108,111,99]) || (s.toList==[101,110,100])) from rfl);generalize Gz s=r at *;by_cases h0:(s.toList==[116,114,117,101])=true
 · have hr:r=true:=(by rw[HR.out,h0];simp);subst hr;clear HR;go_enter Tryz.func139,Tryz.ntmps139;go_wp2_with fail;go_ret
   exact ⟨rfl,0,rfl⟩
 · have h0:(s.toList==[116,114,117,101])=false:=(by simpa using h0);by_cases h1:(s.toList==[102,97,108,115,101])=true
   · have hr:r=true:=(by rw[HR.out,h1];simp);subst hr;clear HR;go_enter Tryz.func139,Tryz.ntmps139;go_wp2_with fail;go_ret
     exact ⟨rfl,0,rfl⟩
   · have h1:(s.toList==[102,97,108,115,101])=false:=(by simpa using h1);by_cases h2:(s.toList==[118,97,114])=true
     · have hr:r=true:=(by rw[HR.out,h2];simp);subst hr;clear HR;go_enter Tryz.func139,Tryz.ntmps139;go_wp2_with fail;go_ret
       exact ⟨rfl,0,rfl⟩
     · have h2:(s.toList==[118,97,114])=false:=(by simpa using h2);by_cases h3:(s.toList==[105,110])=true
       · have hr:r=true:=(by rw[HR.out,h3];simp);subst hr;clear HR;go_enter Tryz.func139,Tryz.ntmps139;go_wp2_with fail;go_ret
         exact ⟨rfl,0,rfl⟩
       · have h3:(s.toList==[105,110])=false:=(by simpa using h3);by_cases h4:(s.toList==[105,110,105,116])=true
         · have hr:r=true:=(by rw[HR.out,h4];simp);subst hr;clear HR;go_enter Tryz.func139,Tryz.ntmps139;go_wp2_with fail;go_ret
           exact ⟨rfl,0,rfl⟩
         · have h4:(s.toList==[105,110,105,116])=false:=(by simpa using h4);by_cases h5:(s.toList==[112,114,111,99])=true
           · have hr:r=true:=(by rw[HR.out,h5];simp);subst hr;clear HR;go_enter Tryz.func139,Tryz.ntmps139;go_wp2_with fail;go_ret
             exact ⟨rfl,0,rfl⟩
           · have h5:(s.toList==[112,114,111,99])=false:=(by simpa using h5);by_cases h6:(s.toList==[108,111,99])=true
             · have hr:r=true:=(by rw[HR.out,h6];simp);subst hr;clear HR;go_enter Tryz.func139,Tryz.ntmps139;go_wp2_with fail;go_ret
               exact ⟨rfl,0,rfl⟩
             · have h6:(s.toList==[108,111,99])=false:=(by simpa using h6);by_cases h7:(s.toList==[101,110,100])=true
               · have hr:r=true:=(by rw[HR.out,h7];simp);subst hr;clear HR;go_enter Tryz.func139,Tryz.ntmps139;go_wp2_with fail;go_ret
                 exact ⟨rfl,0,rfl⟩
               · have h7:(s.toList==[101,110,100])=false:=(by simpa using h7);have hr:r=false:=(by rw[HR.out,h0,h1,h2,h3,h4,h5,h6,h7];rfl);subst hr;clear HR;go_enter Tryz.func139,Tryz.ntmps139;go_wp2_with fail;go_ret
                 exact ⟨rfl,0,rfl⟩
def Bi (c:Nat):Nat:=if Cd c=true then 1 else if Be c=true then 2 else if c=95 then 3 else if c=88 then 4 else if c=71 then 4 else if c=70 then 4 else if c=85 then 4 else if c=82 then 4 else if c=32 then 5 else if c=9 then 5 else if c=10 then 5 else if c=35 then 5 else if c=40 then 6 else if c=41 then 6 else if c=44 then 6 else if c=59 then 6 else if c=58 then 6 else if c=46 then 6 else if c=43 then 6 else if c=42 then 6 else if c=38 then 6 else if c=124 then 6 else if c=33 then 6 else if c=64 then 6 else if c=61 then 6 else if c=60 then 6 else if c=62 then 6 else if c=47 then 6 else if c=45 then 6 else 0
theorem Kw (c:Nat) (w:World):Calls Tryz.prog 55 #[.int .u8 (c:Int)] w (EE (.int .i64 (Bi c:Nat)) w):=by
 by_cases h1:97<=c/\c<=122
 · have hr:Bi c=1:=(by unfold Bi;rw[if_pos (by unfold Cd;simp[h1.1,h1.2])]);rw[hr];have g1:(97:Int)<=(c:Int):=(by omega);have g2:(c:Int)<=122:=(by omega);clear h1 hr;(go_enter Tryz.func55,Tryz.ntmps55;go_wp2_with fail;go_ret;exact ⟨rfl,0,rfl⟩)
 · by_cases h2:48<=c/\c<=57
   · have hr:Bi c=2:=(by unfold Bi;rw[if_neg (by unfold Cd;simp;omega),if_pos (by unfold Be;simp[h2.1,h2.2])]);rw[hr];have g1:¬(97:Int)<=(c:Int):=(by omega);have g2:(48:Int)<=(c:Int):=(by omega);have g3:(c:Int)<=57:=(by omega);clear h1 h2 hr;(go_enter Tryz.func55,Tryz.ntmps55;go_wp2_with fail;go_ret;exact ⟨rfl,0,rfl⟩)
   · by_cases n0:c=95
     · subst n0;clear h1 h2;rw[show Bi 95=3 by decide];(go_enter Tryz.func55,Tryz.ntmps55;go_wp2_with fail;go_ret;exact ⟨rfl,0,rfl⟩)
     · by_cases n1:c=88
       · subst n1;clear h1 h2 n0;rw[show Bi 88=4 by decide];(go_enter Tryz.func55,Tryz.ntmps55;go_wp2_with fail;go_ret;exact ⟨rfl,0,rfl⟩)
       · by_cases n2:c=71
         · subst n2;clear h1 h2 n0 n1;rw[show Bi 71=4 by decide];(go_enter Tryz.func55,Tryz.ntmps55;go_wp2_with fail;go_ret;exact ⟨rfl,0,rfl⟩)
         · by_cases n3:c=70
           · subst n3;clear h1 h2 n0 n1 n2;rw[show Bi 70=4 by decide];(go_enter Tryz.func55,Tryz.ntmps55;go_wp2_with fail;go_ret;exact ⟨rfl,0,rfl⟩)
           · by_cases n4:c=85
             · subst n4;clear h1 h2 n0 n1 n2 n3;rw[show Bi 85=4 by decide];(go_enter Tryz.func55,Tryz.ntmps55;go_wp2_with fail;go_ret;exact ⟨rfl,0,rfl⟩)
             · by_cases n5:c=82
               · subst n5;clear h1 h2 n0 n1 n2 n3 n4;rw[show Bi 82=4 by decide];(go_enter Tryz.func55,Tryz.ntmps55;go_wp2_with fail;go_ret;exact ⟨rfl,0,rfl⟩)
               · by_cases n6:c=32
                 · subst n6;clear h1 h2 n0 n1 n2 n3 n4 n5;rw[show Bi 32=5 by decide];(go_enter Tryz.func55,Tryz.ntmps55;go_wp2_with fail;go_ret;exact ⟨rfl,0,rfl⟩)
                 · by_cases n7:c=9
                   · subst n7;clear h1 h2 n0 n1 n2 n3 n4 n5 n6;rw[show Bi 9=5 by decide];(go_enter Tryz.func55,Tryz.ntmps55;go_wp2_with fail;go_ret;exact ⟨rfl,0,rfl⟩)
                   · by_cases n8:c=10
                     · subst n8;clear h1 h2 n0 n1 n2 n3 n4 n5 n6 n7;rw[show Bi 10=5 by decide];(go_enter Tryz.func55,Tryz.ntmps55;go_wp2_with fail;go_ret;exact ⟨rfl,0,rfl⟩)
                     · by_cases n9:c=35
                       · subst n9;clear h1 h2 n0 n1 n2 n3 n4 n5 n6 n7 n8;rw[show Bi 35=5 by decide];(go_enter Tryz.func55,Tryz.ntmps55;go_wp2_with fail;go_ret;exact ⟨rfl,0,rfl⟩)
                       · by_cases n10:c=40
                         · subst n10;clear h1 h2 n0 n1 n2 n3 n4 n5 n6 n7 n8 n9;rw[show Bi 40=6 by decide];(go_enter Tryz.func55,Tryz.ntmps55;go_wp2_with fail;go_ret;exact ⟨rfl,0,rfl⟩)
                         · by_cases n11:c=41
                           · subst n11;clear h1 h2 n0 n1 n2 n3 n4 n5 n6 n7 n8 n9 n10;rw[show Bi 41=6 by decide];(go_enter Tryz.func55,Tryz.ntmps55;go_wp2_with fail;go_ret;exact ⟨rfl,0,rfl⟩)
                           · by_cases n12:c=44
                             · subst n12;clear h1 h2 n0 n1 n2 n3 n4 n5 n6 n7 n8 n9 n10 n11;rw[show Bi 44=6 by decide];(go_enter Tryz.func55,Tryz.ntmps55;go_wp2_with fail;go_ret;exact ⟨rfl,0,rfl⟩)
                             · by_cases n13:c=59
                               · subst n13;clear h1 h2 n0 n1 n2 n3 n4 n5 n6 n7 n8 n9 n10 n11 n12;rw[show Bi 59=6 by decide];(go_enter Tryz.func55,Tryz.ntmps55;go_wp2_with fail;go_ret;exact ⟨rfl,0,rfl⟩)
                               · by_cases n14:c=58
                                 · subst n14;clear h1 h2 n0 n1 n2 n3 n4 n5 n6 n7 n8 n9 n10 n11 n12 n13;rw[show Bi 58=6 by decide];(go_enter Tryz.func55,Tryz.ntmps55;go_wp2_with fail;go_ret;exact ⟨rfl,0,rfl⟩)
                                 · by_cases n15:c=46
                                   · subst n15;clear h1 h2 n0 n1 n2 n3 n4 n5 n6 n7 n8 n9 n10 n11 n12 n13 n14;rw[show Bi 46=6 by decide];(go_enter Tryz.func55,Tryz.ntmps55;go_wp2_with fail;go_ret;exact ⟨rfl,0,rfl⟩)
                                   · by_cases n16:c=43
                                     · subst n16;clear h1 h2 n0 n1 n2 n3 n4 n5 n6 n7 n8 n9 n10 n11 n12 n13 n14 n15;rw[show Bi 43=6 by decide];(go_enter Tryz.func55,Tryz.ntmps55;go_wp2_with fail;go_ret;exact ⟨rfl,0,rfl⟩)
                                     · by_cases n17:c=42
                                       · subst n17;clear h1 h2 n0 n1 n2 n3 n4 n5 n6 n7 n8 n9 n10 n11 n12 n13 n14 n15 n16;rw[show Bi 42=6 by decide];(go_enter Tryz.func55,Tryz.ntmps55;go_wp2_with fail;go_ret;exact ⟨rfl,0,rfl⟩)
                                       · by_cases n18:c=38
                                         · subst n18;clear h1 h2 n0 n1 n2 n3 n4 n5 n6 n7 n8 n9 n10 n11 n12 n13 n14 n15 n16 n17;rw[show Bi 38=6 by decide];(go_enter Tryz.func55,Tryz.ntmps55;go_wp2_with fail;go_ret;exact ⟨rfl,0,rfl⟩)
                                         · by_cases n19:c=124
                                           · subst n19;clear h1 h2 n0 n1 n2 n3 n4 n5 n6 n7 n8 n9 n10 n11 n12 n13 n14 n15 n16 n17 n18;rw[show Bi 124=6 by decide];(go_enter Tryz.func55,Tryz.ntmps55;go_wp2_with fail;go_ret;exact ⟨rfl,0,rfl⟩)
                                           · by_cases n20:c=33
                                             · subst n20;clear h1 h2 n0 n1 n2 n3 n4 n5 n6 n7 n8 n9 n10 n11 n12 n13 n14 n15 n16 n17 n18 n19;rw[show Bi 33=6 by decide];(go_enter Tryz.func55,Tryz.ntmps55;go_wp2_with fail;go_ret;exact ⟨rfl,0,rfl⟩)
                                             · by_cases n21:c=64
                                               · subst n21;clear h1 h2 n0 n1 n2 n3 n4 n5 n6 n7 n8 n9 n10 n11 n12 n13 n14 n15 n16 n17 n18 n19 n20;rw[show Bi 64=6 by decide];(go_enter Tryz.func55,Tryz.ntmps55;go_wp2_with fail;go_ret;exact ⟨rfl,0,rfl⟩)
                                               · by_cases n22:c=61
                                                 · subst n22;clear h1 h2 n0 n1 n2 n3 n4 n5 n6 n7 n8 n9 n10 n11 n12 n13 n14 n15 n16 n17 n18 n19 n20 n21;rw[show Bi 61=6 by decide];(go_enter Tryz.func55,Tryz.ntmps55;go_wp2_with fail;go_ret;exact ⟨rfl,0,rfl⟩)
                                                 · by_cases n23:c=60
                                                   · subst n23;clear h1 h2 n0 n1 n2 n3 n4 n5 n6 n7 n8 n9 n10 n11 n12 n13 n14 n15 n16 n17 n18 n19 n20 n21 n22;rw[show Bi 60=6 by decide];(go_enter Tryz.func55,Tryz.ntmps55;go_wp2_with fail;go_ret;exact ⟨rfl,0,rfl⟩)
                                                   · by_cases n24:c=62
                                                     · subst n24;clear h1 h2 n0 n1 n2 n3 n4 n5 n6 n7 n8 n9 n10 n11 n12 n13 n14 n15 n16 n17 n18 n19 n20 n21 n22 n23;rw[show Bi 62=6 by decide];(go_enter Tryz.func55,Tryz.ntmps55;go_wp2_with fail;go_ret;exact ⟨rfl,0,rfl⟩)
                                                     · by_cases n25:c=47
                                                       · subst n25;clear h1 h2 n0 n1 n2 n3 n4 n5 n6 n7 n8 n9 n10 n11 n12 n13 n14 n15 n16 n17 n18 n19 n20 n21 n22 n23 n24;rw[show Bi 47=6 by decide];(go_enter Tryz.func55,Tryz.ntmps55;go_wp2_with fail;go_ret;exact ⟨rfl,0,rfl⟩)
                                                       · by_cases n26:c=45
                                                         · subst n26;clear h1 h2 n0 n1 n2 n3 n4 n5 n6 n7 n8 n9 n10 n11 n12 n13 n14 n15 n16 n17 n18 n19 n20 n21 n22 n23 n24 n25;rw[show Bi 45=6 by decide];(go_enter Tryz.func55,Tryz.ntmps55;go_wp2_with fail;go_ret;exact ⟨rfl,0,rfl⟩)
                                                         · have hr:Bi c=0:=(by unfold Bi;rw[if_neg (by unfold Cd;simp;omega),if_neg (by unfold Be;simp;omega),if_neg n0,if_neg n1,if_neg n2,if_neg n3,if_neg n4,if_neg n5,if_neg n6,if_neg n7,if_neg n8,if_neg n9,if_neg n10,if_neg n11,if_neg n12,if_neg n13,if_neg n14,if_neg n15,if_neg n16,if_neg n17,if_neg n18,if_neg n19,if_neg n20,if_neg n21,if_neg n22,if_neg n23,if_neg n24,if_neg n25,if_neg n26])
                                                           rw[hr];clear hr;have m0:¬(c:Int)=95:=(by omega);have m1:¬(c:Int)=88:=(by omega);have m2:¬(c:Int)=71:=(by omega);have m3:¬(c:Int)=70:=(by omega);have m4:¬(c:Int)=85:=(by omega);have m5:¬(c:Int)=82:=(by omega);have m6:¬(c:Int)=32:=(by omega);have m7:¬(c:Int)=9:=(by omega);have m8:¬(c:Int)=10:=(by omega);have m9:¬(c:Int)=35:=(by omega)
                                                           have m10:¬(c:Int)=40:=(by omega);have m11:¬(c:Int)=41:=(by omega);have m12:¬(c:Int)=44:=(by omega);have m13:¬(c:Int)=59:=(by omega);have m14:¬(c:Int)=58:=(by omega);have m15:¬(c:Int)=46:=(by omega);have m16:¬(c:Int)=43:=(by omega);have m17:¬(c:Int)=42:=(by omega);have m18:¬(c:Int)=38:=(by omega);have m19:¬(c:Int)=124:=(by omega);have m20:¬(c:Int)=33:=(by omega)
                                                           have m21:¬(c:Int)=64:=(by omega);have m22:¬(c:Int)=61:=(by omega);have m23:¬(c:Int)=60:=(by omega);have m24:¬(c:Int)=62:=(by omega);have m25:¬(c:Int)=47:=(by omega);have m26:¬(c:Int)=45:=(by omega);clear n0 n1 n2 n3 n4 n5 n6 n7 n8 n9 n10 n11 n12 n13 n14 n15 n16 n17 n18 n19 n20 n21 n22 n23 n24 n25 n26;by_cases q1:c<48
                                                           · have g1:¬(97:Int)<=(c:Int):=(by omega);have g2:¬(48:Int)<=(c:Int):=(by omega);clear h1 h2 q1;(go_enter Tryz.func55,Tryz.ntmps55;go_wp2_with fail;go_ret;exact ⟨rfl,0,rfl⟩)
                                                           · have g2:(48:Int)<=(c:Int):=(by omega);have g3:¬(c:Int)<=57:=(by omega);by_cases q2:c<97
                                                             · have g1:¬(97:Int)<=(c:Int):=(by omega);clear h1 h2 q1 q2;(go_enter Tryz.func55,Tryz.ntmps55;go_wp2_with fail;go_ret;exact ⟨rfl,0,rfl⟩)
                                                             · have g1:(97:Int)<=(c:Int):=(by omega);have g4:¬(c:Int)<=122:=(by omega);clear h1 h2 q1 q2;(go_enter Tryz.func55,Tryz.ntmps55;go_wp2_with fail;go_ret;exact ⟨rfl,0,rfl⟩)
def I9 (b:Bool) (w:World) (e:Ending) (w':World):Prop:=e=.returned (.bool b)/\Below w.heap.size w w'
def QM (k:Nat) (s:ByteArray):Bool:=decide (s.size≠0)&&decide (AG (Ad s 0)=k)&&decide (BU s=s.size)&&decide (P2 k s=0)
theorem Jc (c:Nat):AG c<10:=by
 unfold AG;split
 · omega
 · split
   · omega
   · split<;>omega
theorem QZ (k:Nat) (s:ByteArray) (w:World) (_hk:k<10) (hs:s.size<=4611686018427387904):Calls Tryz.prog 108 #[.int .i64 (k:Int),.string s] w (I9 (QM k s) w):=by
 have HB:=Aa (show QM k s=(decide (s.size≠0)&&decide (AG (Ad s 0)=k)&&decide (BU s=s.size)&&decide (P2 k s=0)) from rfl);generalize QM k s=r at *;have he:=Dl s;have hne:(s.toList==[])=decide (s.size=0):=by rw[<-he];cases s.toList<;>rfl
 by_cases h0:s.size=0
 · have hr:r=false:=(by rw[HB.out];simp[h0]);subst hr;rw[decide_eq_true h0]at he hne;clear HB h0;go_enter Tryz.func108,Tryz.ntmps108;go_wp2_with fail;go_ret
   exact ⟨rfl,Below.refl _ _⟩
 · rw[decide_eq_false h0]at he hne;have hf:=Kr s w (by omega) hs;have hc:=fun W=>Ks (AG (Ad s 0)) s W (Jc _) hs
   have HB:=Aa (show r=(decide (AG (Ad s 0)=k)&&decide (BU s=s.size)&&decide (P2 k s=0)) by rw[HB.out];simp[h0]);by_cases h1:AG (Ad s 0)=k
   · rw[h1]at hf hc;by_cases h2:BU s=s.size
     · rw[h2]at hf;by_cases h3:P2 k s=0
       · have hr:r=true:=(by rw[HB.out];simp[h1,h2,h3]);subst hr;simp only[h3]at hc;clear HB h1 h2 h3 h0;go_enter Tryz.func108,Tryz.ntmps108;go_wp2_with fail;refine hf.mono ?_;rintro e w1 ⟨rfl,b1⟩;go_wp2_with fail;refine (hc _).mono ?_;rintro e w1 ⟨rfl,k1,rfl⟩;go_wp2_with fail;go_ret
         exact ⟨rfl,b1.next (Ai _ _)⟩
       · have hr:r=false:=(by rw[HB.out];simp[h3]);subst hr;have g3:¬(P2 k s:Int)=0:=(by omega);generalize P2 k s=z at *;have b3:((z:Int)==0)=false:=(by simpa using g3);clear HB h1 h2 h3 h0;go_enter Tryz.func108,Tryz.ntmps108;go_wp2_with fail;refine hf.mono ?_;rintro e w1 ⟨rfl,b1⟩;go_wp2_with fail;refine (hc _).mono ?_;rintro e w1 ⟨rfl,k1,rfl⟩;go_wp2_with fail;go_ret
         exact ⟨rfl,b1.next (Ai _ _)⟩
     · have hr:r=false:=(by rw[HB.out];simp[h2]);subst hr;generalize BU s=z at *;have b3:((z:Int)==(s.size:Int))=false:=(by rw[beq_eq_false_iff_ne];omega);clear HB h1 h2 h0 hc;go_enter Tryz.func108,Tryz.ntmps108;go_wp2_with fail;refine hf.mono ?_;rintro e w1 ⟨rfl,b1⟩;go_wp2_with fail;go_ret
       exact ⟨rfl,b1⟩
   · have hr:r=false:=(by rw[HB.out];simp[h1]);subst hr;generalize AG (Ad s 0)=z at *;have b3:((z:Int)==(k:Int))=false:=(by rw[beq_eq_false_iff_ne];omega);clear HB h1 h0 hc;go_enter Tryz.func108,Tryz.ntmps108;go_wp2_with fail;refine hf.mono ?_;rintro e w1 ⟨rfl,b1⟩;go_wp2_with fail;go_ret
     exact ⟨rfl,b1⟩
theorem LY (s:ByteArray) (w:World) (hs:s.size<=4611686018427387904):Calls Tryz.prog 67 #[.string s] w (I9 (QM 1 s&&!Gz s) w):=by
 have hi:=QZ 1 s w (by decide) hs;have hr:=fun W=>KV s W
 generalize QM 1 s=a at *;generalize Gz s=b at *;go_enter Tryz.func67,Tryz.ntmps67;go_wp2_with fail;refine hi.mono ?_;rintro e w1 ⟨rfl,b1⟩;cases a with
 |false=>
  go_wp2_with fail;go_ret
  exact ⟨rfl,b1⟩
 |true=>
  go_wp2_with fail;refine (hr _).mono ?_;rintro e w2 ⟨rfl,k,rfl⟩;go_wp2_with fail;go_ret
  exact ⟨by cases b<;>rfl,b1.next (Ai _ _)⟩
theorem Jd (s:ByteArray) (w:World) (hs:s.size<=4611686018427387904):Calls Tryz.prog 66 #[.string s] w (I9 (QM 3 s) w):=by
 have hi:=QZ 3 s w (by decide) hs;go_enter Tryz.func66,Tryz.ntmps66;go_wp2_with fail;refine hi.mono ?_;rintro e w1 ⟨rfl,b1⟩;go_wp2_with fail;go_ret
 exact ⟨rfl,b1⟩
end
section
open Go.RowKit
open Lx
def Fh (c:Nat):Bool:=decide (1<=Bi c)&&decide (Bi c<=3)
def P4 (c:Nat):Bool:=decide (Bi c=2)
theorem LZ {c:Nat} (hc:c<256):Fh c=CX c:=by
 have h:Ik (fun c=>Fh c==CX c) 256=true:=by kernel_rfl
 simpa using Cw h hc
theorem KW {c:Nat} (hc:c<256):P4 c=Be c:=by
 have h:Ik (fun c=>P4 c==Be c) 256=true:=by kernel_rfl
 simpa using Cw h hc
theorem Tc {c:Nat} (hc:c<256):decide (Bi c=1)=Cd c:=by
 have h:Ik (fun c=>decide (Bi c=1)==Cd c) 256=true:=by kernel_rfl
 simpa using Cw h hc
def Bc (p:Nat->Bool) (s:ByteArray) (k:Nat):Bool:=decide (stop p (Ad s) s.size k=s.size)
theorem Dn {p:Nat->Bool} {s:ByteArray} {k:Nat} (h:k<s.size):Bc p s k=(p (Ad s k)&&Bc p s (k+1)):=by
 unfold Bc;rw[BS _ _ h];cases hp:p (Ad s k) with
 |true=>simp
 |false=>simp;omega
theorem EI (p:Nat->Bool) (s:ByteArray):Bc p s s.size=true:=by unfold Bc;rw[Ff];simp
theorem G6 {p q:Nat->Bool} (s:ByteArray) (h:∀c,c<256->p c=q c):Bc p s 0=Bc q s 0:=by
 have:∀m k,k+m=s.size->Bc p s k=Bc q s k:=by
  intro m;induction m with
  |zero=>
   intro k hk;obtain rfl:k=s.size:=by omega
   rw[EI,EI]
  |succ m ih=>intro k hk;rw[Dn (p:=p) (k:=k) (by omega),Dn (p:=q) (k:=k) (by omega),h _ (BN s k),ih (k+1) (by omega)]
 exact this s.size 0 (by omega)
def Do (s:ByteArray):Bool:=!(decide (s.size=0) || decide (60<s.size) || (decide (1<s.size)&&decide (Ad s 0=48)))&&Bc P4 s 0
def BK (s:ByteArray):Bool:=!(decide (s.size=0) || decide (20<s.size) || !decide (Bi (Ad s 0)=1) || Gz s)&&Bc Fh s 0
theorem Ma {s:ByteArray} (h:0<s.size) (ha:Bc Be s 0=true):Be (Ad s 0)=true:=by rw[Dn h]at ha;simp at ha;exact ha.1
theorem Mb {c:Nat} (h:Be c=true):Cd c=false:=by unfold Be at h;unfold Cd;simp at h ⊢;omega
theorem number_eq (s:ByteArray):QM 3 s=Do s:=by
 unfold QM Do;by_cases h0:s.size=0
 · simp[h0]
 · rw[show Bc P4 s 0=Bc Be s 0 from G6 s (fun c hc=>KW hc)];unfold AG BU P2;by_cases hd:Be (Ad s 0)=true
   · have hl:=Mb hd;simp only[hl,hd,Bool.false_eq_true,if_false,if_true,h0];rw[show decide (stop Be (Ad s) s.size 0=s.size)=Bc Be s 0 from rfl];cases Bc Be s 0 with
     |false=>simp
     |true=>
      generalize s.size=n at *;generalize Ad s 0=b at *;by_cases h1:60<n
      · simp[h0,h1]
      · by_cases h2:1<n/\b=48
        · simp[h0,h1,h2.1,h2.2]
        · by_cases h3:1<n
          · have h4:¬b=48:=fun h=>h2 ⟨h3,h⟩
            simp[h0,h1,h3,h4]
          · simp[h0,h1,h3]
   · have hn:Bc Be s 0=false:=by
      cases h:Bc Be s 0 with
      |false=>rfl
      |true=>exact absurd (Ma (by omega) h) hd
     rw[hn,Bool.and_false];have hk:¬(if Cd (Ad s 0)=true then 1 else if Be (Ad s 0)=true then 3 else if D8 (Ad s 0)=true then 4 else 2)=3:=by
      rw[if_neg hd];split
      · omega
      · split<;>omega
     rw[decide_eq_false hk];simp
theorem OV (s:ByteArray):(QM 1 s&&!Gz s)=BK s:=by
 unfold QM BK;by_cases h0:s.size=0
 · simp[h0]
 · rw[show Bc Fh s 0=Bc CX s 0 from G6 s (fun c hc=>LZ hc),Tc (BN s 0)];unfold AG BU P2;by_cases hl:Cd (Ad s 0)=true
   · simp only[hl,if_true,h0,if_false];rw[show decide (stop CX (Ad s) s.size 0=s.size)=Bc CX s 0 from rfl];cases Bc CX s 0 with
     |false=>simp
     |true=>
      generalize Gz s=r at *;generalize s.size=n at *;by_cases h1:20<n
      · simp[h0,h1]
      · simp[h0,h1]
   · have hk:¬(if Cd (Ad s 0)=true then 1 else if Be (Ad s 0)=true then 3 else if D8 (Ad s 0)=true then 4 else 2)=1:=by
      rw[if_neg hl];split
      · omega
      · split<;>omega
     rw[decide_eq_false hk,show Cd (Ad s 0)=false by simpa using hl];simp
end
end Go.Proofs.YtgohmojcopajoaaGreatDoor
namespace Go.Proofs.YtgohmojcopajoaaGreatDoor.Ex
section
abbrev PT:=Nat×ByteArray
structure Mn where
 num:ByteArray
 var:ByteArray
 neg:Bool
inductive Tr where
 |leaf (b:Bool)
 |cmp (l:List Mn) (op:Nat) (r:List Mn)
 |deny (t:Tr)
 |both (a b:Tr)
 |any (a b:Tr)
inductive Out (α:Type) where
 |ok (a:α) (rest:List PT)
 |err (code:Nat) (rest:List PT)
 |fuel
def AD (s:ByteArray):List PT->Bool
 |[]=>false
 |(k,t)::_=>decide (t=s)&&(k==1 || k==2 || k==4)
def AL (p:PT):Bool:=p.1==1&&BK p.2
def Bd (kn:ByteArray->Bool) (full neg:Bool):List PT->Out Mn
 |[]=>.err 101 []
 |p::r=>
  if p.1==3 then
   if full then .err 3 (p::r)
   else if AD ⟨#[42]⟩ r then
    match r.tail with
    |[]=>.err 101 []
    |p2::r2=>if AL p2 then (if kn p2.2 then .ok ⟨p.2,p2.2,neg⟩ r2 else .err 110 (p2::r2)) else .err 101 (p2::r2)
   else .ok ⟨p.2,⟨#[]⟩,neg⟩ r
  else if AL p then
   if full then .err 3 (p::r) else if kn p.2 then .ok ⟨⟨#[]⟩,p.2,neg⟩ r else .err 110 (p::r)
  else .err 101 (p::r)
def CO (kn:ByteArray->Bool):Nat->Bool->List Mn->List PT->Out (List Mn)
 |0,_,_,_=>.fuel
 |m+1,neg,acc,r=>
  match Bd kn (acc.length==64) neg r with
  |.fuel=>.fuel
  |.err c r1=>.err c r1
  |.ok x r1=>if AD ⟨#[45]⟩ r1 then CO kn m true (acc++[x]) r1.tail else if AD ⟨#[43]⟩ r1 then CO kn m false (acc++[x]) r1.tail else .ok (acc++[x]) r1
def AX (kn:ByteArray->Bool) (r:List PT):Out (List Mn):=if AD ⟨#[45]⟩ r then CO kn (r.length+1) true [] r.tail else CO kn (r.length+1) false [] r
def CR:Nat->ByteArray
 |0=>⟨#[61]⟩
 |1=>⟨#[33,61]⟩
 |2=>⟨#[60]⟩
 |3=>⟨#[60,61]⟩
 |4=>⟨#[62]⟩
 |_=>⟨#[62,61]⟩
def JM (r:List PT):Option Nat:=(List.range 6).find? fun i=>AD (CR i) r
def FS (kn:ByteArray->Bool) (r:List PT):Out Tr:=
 match AX kn r with
 |.fuel=>.fuel
 |.err c r1=>.err c r1
 |.ok l r1=>
  match JM r1 with
  |none=>.err 101 r1
  |some op=>
   match AX kn r1.tail with
   |.fuel=>.fuel
   |.err c r2=>.err c r2
   |.ok x r2=>.ok (.cmp l op x) r2
inductive Md where
 |one
 |both
 |bothGo (t:Tr)
 |cond
 |condGo (t:Tr)
def BE (kn:ByteArray->Bool):Nat->Md->Nat->List PT->Out Tr
 |0,_,_,_=>.fuel
 |n+1,.one,lv,r=>
  if lv=0/\(AD ⟨#[33]⟩ r=true\/AD ⟨#[40]⟩ r=true) then .err 102 r
  else if AD ⟨#[33]⟩ r=true then
   match BE kn n .one (lv-1) r.tail with
   |.fuel=>.fuel
   |.err c r1=>.err c r1
   |.ok t r1=>.ok (.deny t) r1
  else if AD ⟨#[40]⟩ r=true then
   match BE kn n .cond (lv-1) r.tail with
   |.fuel=>.fuel
   |.err c r1=>.err c r1
   |.ok t r1=>if AD ⟨#[41]⟩ r1=true then .ok t r1.tail else .err 101 r1
  else if AD ⟨#[116,114,117,101]⟩ r=true then .ok (.leaf true) r.tail
  else if AD ⟨#[102,97,108,115,101]⟩ r=true then .ok (.leaf false) r.tail
  else FS kn r
 |n+1,.both,lv,r=>
  match BE kn n .one lv r with
  |.fuel=>.fuel
  |.err c r1=>.err c r1
  |.ok t r1=>BE kn n (.bothGo t) lv r1
 |n+1,.bothGo t,lv,r=>
  if AD ⟨#[38]⟩ r=true then
   match BE kn n .one lv r.tail with
   |.fuel=>.fuel
   |.err c r1=>.err c r1
   |.ok k r1=>BE kn n (.bothGo (.both t k)) lv r1
  else .ok t r
 |n+1,.cond,lv,r=>
  match BE kn n .both lv r with
  |.fuel=>.fuel
  |.err c r1=>.err c r1
  |.ok t r1=>BE kn n (.condGo t) lv r1
 |n+1,.condGo t,lv,r=>
  if AD ⟨#[124]⟩ r=true then
   match BE kn n .both lv r.tail with
   |.fuel=>.fuel
   |.err c r1=>.err c r1
   |.ok k r1=>BE kn n (.condGo (.any t k)) lv r1
  else .ok t r
theorem P5 (kn:ByteArray->Bool) (n:Nat):∀(md:Md) (lv:Nat) (r:List PT),BE kn n md lv r≠.fuel->BE kn (n+1) md lv r=BE kn n md lv r:=by
 induction n with
 |zero=>intro md lv r h;exact absurd rfl h
 |succ n ih=>
  have step:∀(md:Md) (lv:Nat) (r:List PT) (K K':Tr->List PT->Out Tr),(∀t r1,K t r1≠.fuel->K' t r1=K t r1) ->
     (match BE kn n md lv r with|.fuel=>Out.fuel|.err c r1=>Out.err c r1|.ok t r1=>K t r1)≠.fuel ->
     (match BE kn (n+1) md lv r with|.fuel=>Out.fuel|.err c r1=>Out.err c r1|.ok t r1=>K' t r1)=(match BE kn n md lv r with|.fuel=>Out.fuel|.err c r1=>Out.err c r1|.ok t r1=>K t r1):=by
   intro md lv r K K' hK h;cases hp:BE kn n md lv r with
   |fuel=>rw[hp]at h;exact absurd rfl h
   |err c r1=>rw[ih md lv r (by rw[hp];exact fun e=>by cases e),hp]
   |ok t r1=> rw[ih md lv r (by rw[hp];exact fun e=>by cases e),hp];rw[hp]at h;exact hK t r1 h
  intro md lv r h;cases md with
  |one=>
   rw[BE]at h ⊢;conv=>rhs;rw[BE]
   by_cases c1:lv=0/\(AD ⟨#[33]⟩ r=true\/AD ⟨#[40]⟩ r=true)
   · rw[if_pos c1,if_pos c1]
   · rw[if_neg c1]at h ⊢;rw[if_neg c1];by_cases c2:AD ⟨#[33]⟩ r=true
     · rw[if_pos c2]at h ⊢;rw[if_pos c2];exact step _ _ _ (fun t r1=>.ok (.deny t) r1) (fun t r1=>.ok (.deny t) r1) (fun _ _ _=>rfl) h
     · rw[if_neg c2]at h ⊢;rw[if_neg c2];by_cases c3:AD ⟨#[40]⟩ r=true
       · rw[if_pos c3]at h ⊢;rw[if_pos c3];exact step _ _ _ (fun t r1=>if AD ⟨#[41]⟩ r1=true then .ok t r1.tail else .err 101 r1) (fun t r1=>if AD ⟨#[41]⟩ r1=true then .ok t r1.tail else .err 101 r1) (fun _ _ _=>rfl) h
       · rw[if_neg c3,if_neg c3]
  |both=>
   rw[BE]at h ⊢;conv=>rhs;rw[BE]
   exact step _ _ _ (fun t r1=>BE kn n (.bothGo t) lv r1) (fun t r1=>BE kn (n+1) (.bothGo t) lv r1) (fun t r1 hk=>ih _ _ _ hk) h
  |bothGo t=>
   rw[BE]at h ⊢;conv=>rhs;rw[BE]
   by_cases c:AD ⟨#[38]⟩ r=true
   · rw[if_pos c]at h ⊢;rw[if_pos c];exact step _ _ _ (fun k r1=>BE kn n (.bothGo (.both t k)) lv r1) (fun k r1=>BE kn (n+1) (.bothGo (.both t k)) lv r1) (fun _ _ hk=>ih _ _ _ hk) h
   · rw[if_neg c,if_neg c]
  |cond=>
   rw[BE]at h ⊢;conv=>rhs;rw[BE]
   exact step _ _ _ (fun t r1=>BE kn n (.condGo t) lv r1) (fun t r1=>BE kn (n+1) (.condGo t) lv r1) (fun t r1 hk=>ih _ _ _ hk) h
  |condGo t=>
   rw[BE]at h ⊢;conv=>rhs;rw[BE]
   by_cases c:AD ⟨#[124]⟩ r=true
   · rw[if_pos c]at h ⊢;rw[if_pos c];exact step _ _ _ (fun k r1=>BE kn n (.condGo (.any t k)) lv r1) (fun k r1=>BE kn (n+1) (.condGo (.any t k)) lv r1) (fun _ _ hk=>ih _ _ _ hk) h
   · rw[if_neg c,if_neg c]
theorem Kx (kn:ByteArray->Bool) {n:Nat} {md:Md} {lv:Nat} {r:List PT} (k:Nat) (h:BE kn n md lv r≠.fuel):BE kn (n+k) md lv r=BE kn n md lv r:=by
 induction k with
 |zero=>rfl
 |succ k ih=>rw[<-Nat.add_assoc,P5 kn (n+k) md lv r (by rw[ih];exact h),ih]
end
end Go.Proofs.YtgohmojcopajoaaGreatDoor.Ex
