/- Texts of one seat, put together: ExprR3. -/
import Derived.Test.YtgohmojcopajoaaGreatDoorP32
import Derived.Test.YtgohmojcopajoaaGreatDoorP23
set_option linter.unusedVariables false
set_option linter.unusedSimpArgs false
set_option maxRecDepth 100000
set_option maxHeartbeats 16000000
namespace Go.Proofs.YtgohmojcopajoaaGreatDoor
section
open Go.RowKit
open Lx Ex
theorem OI {fn:Func} {p q t:Tmp} (h:fn.results=#[.cell p 77,.tmp q,.tmp t]) (tmps:Array Value) (w:World) (g:Nat) (a b c d:Value)
  (hq:tmps.getD p undef=.pointer (some ⟨g,0,none⟩)) (hg:Ao 77 w g #[a,b,c,d]):(results fn tmps).run Tryz.prog w=.ok (.tuple #[.agg #[a,b,c,d],tmps.getD q undef,tmps.getD t undef]) w:=by
 have hq':tmps[p]?.getD undef=.pointer (some ⟨g,0,none⟩):=by simpa using hq
 simp[results,h,hq',asAddr,run_loadVar_row w g 77 77 #[a,b,c,d] (0,0) _ hg Tryz.underlying77 rfl (by kernel_rfl)]
theorem DX {fn:Func} {R:Ending->World->Prop} {ac:Act} {w:World} {g p q t:Nat} {a b c d u v:Value} (hres:fn.results=#[.cell p 77,.tmp q,.tmp t]) (hp:ac.tmps.getD p undef=.pointer (some ⟨g,0,none⟩))
  (hu:ac.tmps.getD q undef=u) (hv:ac.tmps.getD t undef=v) (hb:Ao 77 w g #[a,b,c,d]) (hd:ac.defers=[]) (hR:R (.returned (.tuple #[.agg #[a,b,c,d],u,v])) w):bodyPost Tryz.prog fn R .ret ac w:=
 bodyPost_ret (by rw[OI hres _ _ g a b c d hp hb,hu,hv]) hd hR
theorem Un {v:Value} {g:Nat} (h:∀q,v.ownBlock=some q->q<g):v.ownBlock=none\/v.ownBlock≠some g:=by
 cases hv:v.ownBlock with
 |none=>exact Or.inl rfl
 |some k=>exact Or.inr (fun e=>by injection e with e;have:=h k hv;omega)
theorem Ao.set_2 {T:TypeId} {w:World} {g:Nat} {x y z:Value} (h:Ao T w g #[x,y,z]) (z':Value):Ao T (w.setCell ⟨g,2,none⟩ z') g #[x,y,z']:=by unfold Ao at h ⊢;simp[World.setCell,Array.getElem?_modify,h]
theorem II (a c d:Value) (s:ByteArray) (w:World):(Instr.field 118 (.agg #[a,.string s,c,d]) 1).run Tryz.prog w=.ok (.string s) w:=by kernel_rfl
def BQ (D:CD) (i:Nat) (w:World) (e:Ending) (w':World):Prop:=
 match AX D.kn (rd D.ts i) with
 |.ok l r1=>∃(i':Nat) (A:Option Addr) (c:Nat),e=.returned (.tuple #[.agg #[.slice D.A D.n D.c,.int .i64 (i':Int),.slice D.V D.m D.d,.bool D.known],.slice A l.length c,.int .i64 0])/\l.length<=c/\c<=9223372036854775807/\De (AH w.heap.size) w' A l.length l/\Aj D i r1 i'/\Below w.heap.size w w'
 |.err c r1=>∃i':Nat,e=.returned (.tuple #[.agg #[.slice D.A D.n D.c,.int .i64 (i':Int),.slice D.V D.m D.d,.bool D.known],.slice none 0 0,.int .i64 (c:Nat)])/\c≠0/\Aj D i r1 i'/\Below w.heap.size w w'
 |.fuel=>False
theorem BQ.ok {D:CD} {i i':Nat} {w w':World} {l:List Mn} {v:Value} {r1:List PT} (h:AX D.kn (rd D.ts i)=.ok l r1) (hv:Am 88 3 w' (w.heap.size+2) v l.length (Cj l)) (hs:Aj D i r1 i') (hw:Below w.heap.size w w'):BQ D i w (.returned (.tuple #[.agg #[.slice D.A D.n D.c,.int .i64 (i':Int),.slice D.V D.m D.d,.bool D.known],v,.int .i64 0])) w':=by unfold BQ;rw[h];obtain ⟨A,c,rfl,h1,h2,h3⟩:=Am.min hv;exact ⟨i',A,c,rfl,h1,h2,h3.mono (by omega),hs,hw⟩
theorem BQ.err {D:CD} {i i' c:Nat} {w w':World} {r1:List PT} (h:AX D.kn (rd D.ts i)=.err c r1) (hc:c≠0) (hs:Aj D i r1 i') (hw:Below w.heap.size w w'):BQ D i w (.returned (.tuple #[.agg #[.slice D.A D.n D.c,.int .i64 (i':Int),.slice D.V D.m D.d,.bool D.known],.slice none 0 0,.int .i64 (c:Nat)])) w':=by unfold BQ;rw[h];exact ⟨i',rfl,hc,hs,hw⟩
structure SS (D:CD) (w W:World) (v:Value) (acc:List Mn) (x:Nat):Prop where
 B:Below w.heap.size w W
 L:Am 88 3 W (w.heap.size+2) v acc.length (Cj acc)
 R:Ao 77 W (w.heap.size+1) #[.slice none 0 0,.int .i64 0,.slice none 0 0,.bool false]
 T:Ao 77 W w.heap.size #[.slice D.A D.n D.c,.int .i64 (x:Int),.slice D.V D.m D.d,.bool D.known]
theorem SS.next {D:CD} {w W W':World} {v:Value} {x:Nat} {acc:List Mn} (h:SS D w W v acc x) (b:Below W.heap.size W W'):SS D w W' v acc x:=⟨h.B.next b,h.L.below b,h.R.next b,h.T.next b⟩
theorem SS.on {D:CD} {w W W':World} {v:Value} {x y:Nat} {acc:List Mn} (h:SS D w W v acc x) (o:An w.heap.size W W') (k:Ao 77 W' w.heap.size #[.slice D.A D.n D.c,.int .i64 ((y:Nat):Int),.slice D.V D.m D.d,.bool D.known]):SS D w W' v acc y:=
 ⟨h.B.trans (o.below h.B.size (Nat.le_refl _)),h.L.other o (Or.inl (by omega)),h.R.other o (by omega),k⟩
theorem SS.far {D:CD} {w W W':World} {v:Value} {x g:Nat} {acc:List Mn} (h:SS D w W v acc x) (o:An g W W') (hg:w.heap.size+1<g) (hL:∀q,v.ownBlock=some q->q<g):SS D w W' v acc x:=
 ⟨h.B.trans (o.below h.B.size (by omega)),h.L.kept o.gb (Un hL),h.R.other o (by omega),h.T.other o (by omega)⟩
theorem Ao.set_1 {T:TypeId} {w:World} {g:Nat} {x y z:Value} (h:Ao T w g #[x,y,z]) (y':Value):Ao T (w.setCell ⟨g,1,none⟩ y') g #[x,y',z]:=by unfold Ao at h ⊢;simp[World.setCell,Array.getElem?_modify,h]
def JE (kn:ByteArray->Bool) (num:ByteArray):List PT->Out Mn
 |[]=>.err 101 []
 |p::r=>if AL p=true then (if kn p.2=true then .ok ⟨num,p.2,false⟩ r else .err 110 (p::r)) else .err 101 (p::r)
def Gm (kn:ByteArray->Bool) (num:ByteArray) (r:List PT):Out Mn:=
 if (decide (num=⟨#[]⟩) || AD ⟨#[42]⟩ r)=true then JE kn num (if num=⟨#[]⟩ then r else r.tail) else .ok ⟨num,⟨#[]⟩,false⟩ r
theorem Kk (kn:ByteArray->Bool) (p:PT) (r:List PT) (h3:p.1=3) (hne:p.2≠⟨#[]⟩):Bd kn false false (p::r)=Gm kn p.2 r:=by rw[J9 _ _ _ _ h3,if_neg (by decide)];unfold Gm JE;rw[decide_eq_false hne,if_neg hne,Bool.false_or];cases r.tail<;>rfl
theorem Kl (kn:ByteArray->Bool) (p:PT) (r:List PT) (h3:p.1≠3):Bd kn false false (p::r)=Gm kn ⟨#[]⟩ (p::r):=by
 have e:JE kn ⟨#[]⟩ (p::r)=if AL p=true then (if kn p.2=true then .ok ⟨⟨#[]⟩,p.2,false⟩ r else .err 110 (p::r)) else .err 101 (p::r):=rfl
 rw[H2 _ _ _ _ h3];unfold Gm;rw[decide_eq_true rfl,if_pos rfl,Bool.true_or,if_pos rfl,e];cases AL p<;>rfl
structure Ia (D:CD) (i:Nat) (w wr:World) (v:Value) (neg:Bool) (i' m:Nat) (acc:List Mn):Prop where
 row:Am 88 3 wr (w.heap.size+2) v acc.length (Cj acc)
 tape:Ao 77 wr w.heap.size #[.slice D.A D.n D.c,.int .i64 (i':Int),.slice D.V D.m D.d,.bool D.known]
 res:Ao 77 wr (w.heap.size+1) #[.slice none 0 0,.int .i64 0,.slice none 0 0,.bool false]
 bel:Below w.heap.size w wr
 st:Aj D i (rd D.ts i') i'
 eq:AX D.kn (rd D.ts i)=CO D.kn m neg acc (rd D.ts i')
 more:(rd D.ts i').length<m
 few:acc.length<=64
theorem Uo {s:ByteArray} (h:Do s=true):s≠⟨#[]⟩:=fun e=>by rw[e]at h;exact absurd h (by decide +kernel)
theorem JF (D:CD) (i:Nat) (w:World) (h:Tp D w i):Calls Tryz.prog 31 #[.agg #[.slice D.A D.n D.c,.int .i64 (i:Int),.slice D.V D.m D.d,.bool D.known]] w (BQ D i w):=by
 have HTG:=Aa h.good;have HF:=Aa h.fits;have HTP:=Aa (fun j W (hb:Below w.heap.size w W) (hf:j+(rd D.ts j).length<=1099511627776)=>(⟨h.kin.below hb,h.sin.below hb,h.good,hf⟩:Tp D W j));have HIS:=Aa (fun j s W (hb:Below w.heap.size w W) (hf:j+(rd D.ts j).length<=1099511627776)=>Fq D j s W (HTP.out j W hb hf));have HIN:=Aa (fun j W (hb:Below w.heap.size w W) (hf:j+(rd D.ts j).length<=1099511627776)=>LD D j W (HTP.out j W hb hf))
 have HNT:=Aa (fun j W (hb:Below w.heap.size w W) (hf:j+(rd D.ts j).length<=1099511627776)=>H8 D j W (HTP.out j W hb hf));have HIC:=Aa (fun s W (hb:Below w.heap.size w W)=>Vx D.V D.m D.d D.vars s W (h.sin.below hb) (by have:=h.good.md;have:=h.good.dm;omega));unfold EM at HIS HIN;obtain ⟨n0,hn0⟩:∃n0,n0=AD ⟨#[45]⟩ (rd D.ts i):=⟨_,rfl⟩;obtain ⟨i0,hi0⟩:∃i0,i0=(if n0=true then i+1 else i):=⟨_,rfl⟩
 have HR0:=Aa (show ∀wx,Am 88 3 wx (w.heap.size+2) (.slice (some ⟨w.heap.size+2,0,none⟩) 0 0) 0 []->Ao 77 wx w.heap.size #[.slice D.A D.n D.c,.int .i64 (i0:Int),.slice D.V D.m D.d,.bool D.known]->Ao 77 wx (w.heap.size+1) #[.slice none 0 0,.int .i64 0,.slice none 0 0,.bool false]->Below w.heap.size w wx->Ia D i w wx (.slice (some ⟨w.heap.size+2,0,none⟩) 0 0) n0 i0 ((rd D.ts i).length+1) [] from by
  intro wx h1 h2 h3 h4;cases hs:n0 with
  |false=>
   rw[hs]at hn0 hi0;obtain rfl:i0=i:=hi0;exact ⟨h1,h2,h3,h4,Aj.refl _ _,by unfold AX;rw[if_neg (by rw[<-hn0];decide)],Nat.lt_succ_self _,by decide⟩
  |true=> rw[hs]at hn0 hi0;obtain rfl:i0=i+1:=hi0;have hk:=AV h.good.ends hn0.symm;exact ⟨h1,h2,h3,h4,⟨rfl,by omega⟩,by unfold AX;rw[if_pos hn0.symm,hk.1],by omega,by decide⟩)
 have HN0:=Aa hn0;have HI0:=Aa hi0;obtain ⟨x0,x1,x2,x3⟩:=Aw 77 77 w #[.slice D.A D.n D.c,.int .i64 (i:Int),.slice D.V D.m D.d,.bool D.known] #[.slice none 0 0,.int .i64 0,.slice none 0 0,.bool false];have x4:=Ae ((w.alloc (.cells #[.slice D.A D.n D.c,.int .i64 (i:Int),.slice D.V D.m D.d,.bool D.known] 77)).alloc (.cells #[.slice none 0 0,.int .i64 0,.slice none 0 0,.bool false] 77)) (.cells #[] 88)
 have L0:=Aa (show Am 88 3 (((w.alloc (.cells #[.slice D.A D.n D.c,.int .i64 (i:Int),.slice D.V D.m D.d,.bool D.known] 77)).alloc (.cells #[.slice none 0 0,.int .i64 0,.slice none 0 0,.bool false] 77)).alloc (.cells #[] 88)) (w.heap.size+2) (.slice (some ⟨w.heap.size+2,0,none⟩) 0 0) 0 [] from by have:=Am.lit (T:=88) (sz:=3) (w:=(w.alloc (.cells #[.slice D.A D.n D.c,.int .i64 (i:Int),.slice D.V D.m D.d,.bool D.known] 77)).alloc (.cells #[.slice none 0 0,.int .i64 0,.slice none 0 0,.bool false] 77)) (base:=w.heap.size+2) #[] 0 (by omega) (by decide) rfl (fun u hu=>by cases hu);rw[x3]at this;exact this)
 have T0:=Aa (x0.next x4);have R0:=Aa (x1.next x4);have B0:=Aa (x2.next x4);have u0:=T0.out.cell 0 _ rfl;have u1:=T0.out.cell 1 _ rfl;have u2:=T0.out.cell 2 _ rfl;have u3:=T0.out.cell 3 _ rfl;clear x0 x1 x2 x4 h hn0 hi0;go_enter Tryz.func31,Tryz.ntmps31;go_wp2_with fail
 generalize hW0:((w.alloc (.cells #[.slice D.A D.n D.c,.int .i64 (i:Int),.slice D.V D.m D.d,.bool D.known] 77)).alloc (.cells #[.slice none 0 0,.int .i64 0,.slice none 0 0,.bool false] 77)).alloc (.cells #[] 88)=W0 at *;clear hW0 x3;have hq:=HIS.out i ⟨#[45]⟩ _ B0.out HF.out;rw[<-HN0.out]at hq;refine hq.mono ?_;rintro e W1 ⟨rfl,bq⟩;have T1:=Aa (T0.out.next bq);have R1:=Aa (R0.out.next bq);have B1:=Aa (B0.out.next bq);have L1:=Aa (L0.out.below bq)
 clear T0 R0 B0 L0 bq hq u0 u1 u2 u3;go_upto_if 12 with fail;go_cut [6] (fun s6 wx=>s6=.bool n0/\Hid (Ia D i w wx (.slice (some ⟨w.heap.size+2,0,none⟩) 0 0) n0 i0 ((rd D.ts i).length+1) []))
 case first=>
  have u0:=T1.out.cell 0 _ rfl;have u1:=T1.out.cell 1 _ rfl;have u2:=T1.out.cell 2 _ rfl;have u3:=T1.out.cell 3 _ rfl;cases n0 with
  |true=>
   have hi0:i0=i+1:=HI0.out;subst hi0;go_wp2_with fail;have hq:=D7 D i W1 (by have:=HF.out;omega);unfold Db at hq;refine hq.mono ?_;rintro e W2 ⟨rfl,bq⟩;have xT:=T1.out.next bq;have R2:=Aa (R1.out.next bq);have B2:=Aa (B1.out.next bq);have L2:=Aa (L1.out.below bq);clear bq hq u0 u1 u2 u3
   go_wp2_with ((with_reducible refine Ab rfl 77 _ _ rfl w.heap.size #[.slice D.A D.n D.c,.int .i64 ((i:Int)+1:Int),.slice D.V D.m D.d,.bool D.known] rfl rfl _ xT (by kernel_rfl) rfl (by simp[Value.oneCell']) ?_);intro W3 kq ho);have HRR:=Aa (HR0.out W3 (L2.out.other ho (Or.inl (by omega))) kq (R2.out.other ho (by omega)) (B2.out.trans (ho.below B2.out.size (by omega))));simp only[Act.put];go_meet
   case rel=>exact ⟨rfl,HRR⟩
  |false=>
   have hi0:i0=i:=HI0.out;subst hi0;have HRR:=Aa (HR0.out W1 L1.out T1.out R1.out B1.out);go_wp2_with fail;go_meet
   case rel=>exact ⟨rfl,HRR⟩
 case rest=>
  obtain ⟨rfl,R0⟩:=hcut;clear T1 R1 B1 L1 HR0 HN0 HI0;go_wp2_with fail;go_loopw [5,6] (fun a b wr=>∃neg i' m acc,b=.bool neg/\Hid (Ia D i w wr a neg i' m acc)) (fun a _ _=>65-lenOf a)
  case atStart=>exact ⟨_,_,_,_,rfl,R0⟩
  case round=>
   obtain ⟨neg,i',m,acc,rfl,HR⟩:=hrel;obtain ⟨A,c,rfl,hc1,hc2,-⟩:=HR.out.row.len;have hf64:=HR.out.few;generalize hn:acc.length=n at hc1 hf64 HR ⊢;have HN:=Aa hn;have HF0:=Aa (HR.out.st.fits HF.out);have HST0:=Aa HR.out.st;have HMORE:=Aa HR.out.more;have HEQ:=Aa HR.out.eq;have B0:=Aa HR.out.bel;have T0:=Aa HR.out.tape;have R0:=Aa HR.out.res;have L0:=Aa HR.out.row;have hnx:=HNT.out i' _ B0.out HF0.out;unfold Ds at hnx;have hwf:=HTG.out.hd_wf i';have hM:=Ly D i' false
   have HMM:=Aa (fun full=>Ly D i' full);have hm0:0<m:=Nat.lt_of_le_of_lt (Nat.zero_le _) HMORE.out;clear HR hn;have hrn:=hwf;have HSUM:=Aa (fun (x:Nat) (h:x+(rd D.ts x).length=i'+(rd D.ts i').length)=>HST0.out.trans' (i2:=x) rfl h);have HNE:=Aa (fun h3=>Uo (hwf h3));have HFa:=HF0;have S0:=Aa (show SS D w wr (.slice A n c) acc i' from ⟨B0.out,L0.out,R0.out,T0.out⟩);clear hwf hrn hM B0 L0 R0 T0 HF0
   have u0:=S0.out.T.cell 0 _ rfl;have u1:=S0.out.T.cell 1 _ rfl;have u2:=S0.out.T.cell 2 _ rfl;have u3:=S0.out.T.cell 3 _ rfl;go_wp2_with fail;refine hnx.mono ?_;rintro e v1 ⟨rfl,bq⟩;clear hnx;have S1:=Aa (S0.out.next bq);clear S0 bq;clear u0 u1 u2 u3;go_upto_region 6 with fail;have bq:=Ae v1 (.cells #[.int .i64 ((hd D.ts i').kind:Int),.string (hd D.ts i').text,.int .i64 ((hd D.ts i').line:Int),.int .i64 ((hd D.ts i').col:Int)] 118)
   have N2:=Aa (Ao.new 118 v1 #[.int .i64 ((hd D.ts i').kind:Int),.string (hd D.ts i').text,.int .i64 ((hd D.ts i').line:Int),.int .i64 ((hd D.ts i').col:Int)]);have zN:w.heap.size+1<v1.heap.size:=S1.out.R.lt;generalize hvn:v1.alloc (.cells #[.int .i64 ((hd D.ts i').kind:Int),.string (hd D.ts i').text,.int .i64 ((hd D.ts i').line:Int),.int .i64 ((hd D.ts i').col:Int)] 118)=v2 at *;clear hvn;have S2:=Aa (S1.out.next bq);clear S1 bq
   obtain ⟨b0,hb0⟩:∃b0,b0=(decide ((hd D.ts i').kind≠3)&&!AL (pt (hd D.ts i'))):=⟨_,rfl⟩;have HB0:=Aa hb0;clear hb0;go_cut [24] (fun cv wx=>cv=.bool b0/\Hid (SS D w wx (.slice A n c) acc i')/\Hid (Ao 118 wx v1.heap.size #[.int .i64 ((hd D.ts i').kind:Int),.string (hd D.ts i').text,.int .i64 ((hd D.ts i').line:Int),.int .i64 ((hd D.ts i').col:Int)]))
   case first=>
    have n0:=N2.out.cell 0 _ rfl;have n1:=N2.out.cell 1 _ rfl;have n2:=N2.out.cell 2 _ rfl;have n3:=N2.out.cell 3 _ rfl;by_cases h3:(hd D.ts i').kind=3
    · have g3:(((hd D.ts i').kind:Int) != 3)=false:=(by simp;omega);have HV:=Aa (show (.bool false:Value)=.bool b0 from by rw[HB0.out,h3];rfl);clear h3;go_wp2_with fail;go_meet
      case rel=>exact ⟨HV.out,S2,N2⟩
    · have g3:(((hd D.ts i').kind:Int) != 3)=true:=(by simp;omega);have HV:=Aa (show (.bool (!AL (pt (hd D.ts i'))):Value)=.bool b0 from by rw[HB0.out,decide_eq_true h3,Bool.true_and]);clear h3;have u0:=S2.out.T.cell 0 _ rfl;have u1:=S2.out.T.cell 1 _ rfl;have u2:=S2.out.T.cell 2 _ rfl;have u3:=S2.out.T.cell 3 _ rfl;go_wp2_with fail;have hq:=HIN.out i' _ S2.out.B HFa.out;generalize AL (pt (hd D.ts i'))=bn at *;refine hq.mono ?_;rintro e v3 ⟨rfl,bq⟩
      clear hq n0 n1 n2 n3 u0 u1 u2 u3;have S3:=Aa (S2.out.next bq);have N3:=Aa (N2.out.next bq);clear S2 N2 bq;go_wp2_with fail;go_meet
      case rel=>exact ⟨HV.out,S3,N3⟩
   case rest=>
    clear S2 N2;obtain ⟨rfl,S0,N0⟩:=hcut;generalize wc=y1 at *;generalize v1.heap.size=gn at *;cases b0 with
    |true=>
      have hb:=HB0.out.symm;simp only[Bool.and_eq_true,decide_eq_true_eq,Bool.not_eq_true']at hb;have hmo:Bd D.kn (acc.length==64) false (rd D.ts i')=.err 101 (rd D.ts i'):=(by rw[HMM.out,H2 _ _ _ _ hb.1,if_neg (by rw[hb.2];decide),<-CW]);have HP:=Aa (fun w9 (hb9:Below w.heap.size w w9)=>BQ.err (c:=101) (i':=i') (HEQ.out.trans (Ek D.kn neg acc hm0 hmo)) (by decide) HST0.out hb9);clear hb hmo
      have u0:=S0.out.T.cell 0 _ rfl;have u1:=S0.out.T.cell 1 _ rfl;have u2:=S0.out.T.cell 2 _ rfl;have u3:=S0.out.T.cell 3 _ rfl;have xR:=S0.out.R;go_wp2_with ((with_reducible refine Ab rfl 77 _ _ rfl (w.heap.size+1) #[.slice D.A D.n D.c,.int .i64 (i':Int),.slice D.V D.m D.d,.bool D.known] rfl rfl _ xR (by kernel_rfl) rfl (by simp[Value.oneCell']) ?_);intro w9 k9 ho9);refine DX rfl rfl rfl rfl k9 rfl ?_
      exact HP.out _ (S0.out.B.trans (ho9.below S0.out.B.size (by omega)))
    |false=>
      by_cases hf:n=64
      · subst hf;have hmo:Bd D.kn (acc.length==64) false (rd D.ts i')=.err 3 (rd D.ts i'):=by
          rw[(show (acc.length==64)=true from by rw[HN.out];rfl),HMM.out];have hb:=HB0.out.symm;by_cases h3:(hd D.ts i').kind=3
          · rw[J9 _ _ _ _ h3,if_pos rfl,<-CW]
          · rw[decide_eq_true h3,Bool.true_and]at hb;rw[H2 _ _ _ _ h3,if_pos (by simpa using hb),if_pos rfl,<-CW]
        have HP:=Aa (fun w9 (hb9:Below w.heap.size w w9)=>BQ.err (c:=3) (i':=i') (HEQ.out.trans (Ek D.kn neg acc hm0 hmo)) (by decide) HST0.out hb9);clear hmo;have u0:=S0.out.T.cell 0 _ rfl;have u1:=S0.out.T.cell 1 _ rfl;have u2:=S0.out.T.cell 2 _ rfl;have u3:=S0.out.T.cell 3 _ rfl;have xR:=S0.out.R
        go_wp2_with ((with_reducible refine Ab rfl 77 _ _ rfl (w.heap.size+1) #[.slice D.A D.n D.c,.int .i64 (i':Int),.slice D.V D.m D.d,.bool D.known] rfl rfl _ xR (by kernel_rfl) rfl (by simp[Value.oneCell']) ?_);intro w9 k9 ho9);refine DX rfl rfl rfl rfl k9 rfl ?_;exact HP.out _ (S0.out.B.trans (ho9.below S0.out.B.size (by omega)))
      have g64:((n:Int)==64)=false:=(by simp;omega);have HM0:=Aa (show Bd D.kn (acc.length==64) false (rd D.ts i')=if (hd D.ts i').kind=3 then Gm D.kn (hd D.ts i').text (rd D.ts i').tail else Gm D.kn ⟨#[]⟩ (rd D.ts i') from by
        rw[(show (acc.length==64)=false from by rw[HN.out];exact beq_eq_false_iff_ne.2 hf),HMM.out];by_cases h3:(hd D.ts i').kind=3
        · rw[if_pos h3];exact Kk D.kn (pt (hd D.ts i')) _ h3 (HNE.out h3)
        · rw[if_neg h3];refine (Kl D.kn (pt (hd D.ts i')) _ h3).trans ?_;rw[<-CW])
      have zNM:gn<y1.heap.size:=N0.out.lt;have n0:=N0.out.cell 0 _ rfl;have n1:=N0.out.cell 1 _ rfl;have n2:=N0.out.cell 2 _ rfl;have n3:=N0.out.cell 3 _ rfl;go_upto_if 34 with fail;clear n0 n1 n2 n3;have LM:=Aa (fun q (hq:(Value.slice A n c).ownBlock=some q)=>(S0.out.L.lt q hq).2);have bq:=Ae y1 (.cells #[.bool neg,.string ⟨#[]⟩,.string ⟨#[]⟩] 88);have M1:=Aa (Ao.new 88 y1 #[.bool neg,.string ⟨#[]⟩,.string ⟨#[]⟩]);have zM:w.heap.size+1<y1.heap.size:=S0.out.R.lt
      generalize hvn:y1.alloc (.cells #[.bool neg,.string ⟨#[]⟩,.string ⟨#[]⟩] 88)=v1 at *;clear hvn;have S1:=Aa (S0.out.next bq);have N1:=Aa (N0.out.next bq);clear S0 N0 bq;go_cut [] (fun wx=>∃(num:ByteArray) (i1:Nat),Hid (SS D w wx (.slice A n c) acc i1)/\Hid (Ao 88 wx y1.heap.size #[.bool neg,.string num,.string ⟨#[]⟩])/\Hid (i1+(rd D.ts i1).length=i'+(rd D.ts i').length)/\Hid (Bd D.kn (acc.length==64) false (rd D.ts i')=Gm D.kn num (rd D.ts i1)))
      case first=>
        have n0:=N1.out.cell 0 _ rfl;have n1:=N1.out.cell 1 _ rfl;have n2:=N1.out.cell 2 _ rfl;have n3:=N1.out.cell 3 _ rfl;by_cases h3:(hd D.ts i').kind=3
        · have g3:(((hd D.ts i').kind:Int)==3)=true:=(by rw[h3];rfl);have HK1:=Aa (Gs (ts:=D.ts) (i:=i') HTG.out.ends (by omega));have HM1:=Aa (show Bd D.kn (acc.length==64) false (rd D.ts i')=Gm D.kn (hd D.ts i').text (rd D.ts (i'+1)) from by rw[HM0.out,if_pos h3,HK1.out.1]);clear h3;have m1:=M1.out.cell 1 _ rfl;have mf:=M1.out.fr 1;have HFD:=fun a c d s W=>II a c d s W
          go_upto_region 13 with fail;clear m1 mf HFD n0 n1 n2 n3;have ho:=FU v1 y1.heap.size 1 (.string (hd D.ts i').text);have M2:=Aa (Ao.set_1 M1.out (.string (hd D.ts i').text));generalize hvn:v1.setCell ⟨y1.heap.size,1,none⟩ (.string (hd D.ts i').text)=v2 at *;have S2:=Aa (S1.out.far ho (by omega) LM.out);clear hvn ho S1 M1 N1;have u0:=S2.out.T.cell 0 _ rfl;have u1:=S2.out.T.cell 1 _ rfl;have u2:=S2.out.T.cell 2 _ rfl;have u3:=S2.out.T.cell 3 _ rfl
          go_wp2_with fail;have hq:=D7 D i' v2 (by have:=HFa.out;omega);unfold Db at hq;refine hq.mono ?_;rintro e v3 ⟨rfl,bq⟩;clear hq;have S3:=Aa (S2.out.next bq);have M3:=Aa (M2.out.next bq);clear S2 M2 bq;clear u0 u1 u2 u3;have xT:=S3.out.T;go_wp2_with ((with_reducible refine Ab rfl 77 _ _ rfl w.heap.size #[.slice D.A D.n D.c,.int .i64 ((i':Int)+1:Int),.slice D.V D.m D.d,.bool D.known] rfl rfl _ xT (by kernel_rfl) rfl (by simp[Value.oneCell']) ?_);intro v4 kq ho)
          have S4:=Aa (S3.out.on (y:=i'+1) ho (by rw[show (((i'+1:Nat)):Int)=(i':Int)+1 from by omega];exact kq));have M4:=Aa (M3.out.other ho (by omega));clear xT kq ho S3 M3;go_meet
          case rel=>exact ⟨_,_,S4,M4,Aa (by have:=HK1.out.2.1;omega),HM1⟩
        · have g3:(((hd D.ts i').kind:Int)==3)=false:=(by simp;omega);have HM1:=Aa (HM0.out.trans (if_neg h3));clear h3;go_wp2_with fail;go_meet
          case rel=>exact ⟨_,_,S1,M1,Aa rfl,HM1⟩
      case rest=>
        clear S1 M1 N1 HM0 HNE;obtain ⟨num,i1,S0,M0,HS1,HM1⟩:=hcut;generalize wc=y2 at *;have HF1:=Aa (show i1+(rd D.ts i1).length<=1099511627776 from by have:=HFa.out;have:=HS1.out;omega);generalize y1.heap.size=gm at *;obtain ⟨b2,hb2⟩:∃b2,b2=(decide (num=⟨#[]⟩) || AD ⟨#[42]⟩ (rd D.ts i1)):=⟨_,rfl⟩;have HB2:=Aa hb2;clear hb2;go_upto_region 14 with fail
        go_cut [46] (fun cv wx=>cv=.bool b2/\Hid (SS D w wx (.slice A n c) acc i1)/\Hid (Ao 88 wx gm #[.bool neg,.string num,.string ⟨#[]⟩]))
        case first=>
          have m1:=M0.out.cell 1 _ rfl;by_cases hnum:num=⟨#[]⟩
          · have ge1:(num.toList==([]:List UInt8))=true:=(by rw[hnum];decide +kernel);have ge2:(num.toList.isEmpty)=true:=(by rw[hnum];decide +kernel);have ge3:(!num.toList.isEmpty)=false:=(by rw[ge2];rfl);have HV:=Aa (show (.bool true:Value)=.bool b2 from by rw[HB2.out,decide_eq_true hnum,Bool.true_or]);clear hnum;go_wp2_with fail;go_meet
            case rel=>exact ⟨HV.out,S0,M0⟩
          · have ge1:(num.toList==([]:List UInt8))=false:=(by have:=Ei hnum;simpa using this);have ge2:(num.toList.isEmpty)=false:=(by cases hx:num.toList with|nil=>rw[hx]at ge1;cases ge1|cons a b=>rfl);have ge3:(!num.toList.isEmpty)=true:=(by rw[ge2];rfl);have HV:=Aa (show (.bool (AD ⟨#[42]⟩ (rd D.ts i1)):Value)=.bool b2 from by rw[HB2.out,decide_eq_false hnum,Bool.false_or]);clear hnum
            have u0:=S0.out.T.cell 0 _ rfl;have u1:=S0.out.T.cell 1 _ rfl;have u2:=S0.out.T.cell 2 _ rfl;have u3:=S0.out.T.cell 3 _ rfl;go_wp2_with fail;have hq:=HIS.out i1 ⟨#[42]⟩ _ S0.out.B HF1.out;generalize AD ⟨#[42]⟩ (rd D.ts i1)=bn at *;refine hq.mono ?_;rintro e v1 ⟨rfl,bq⟩;clear hq u0 u1 u2 u3 m1;have S1:=Aa (S0.out.next bq);have M1:=Aa (M0.out.next bq);clear S0 M0 bq;go_wp2_with fail;go_meet
            case rel=>exact ⟨HV.out,S1,M1⟩
        case rest=>
          clear S0 M0;obtain ⟨rfl,S0,M0⟩:=hcut;generalize wc=y3 at *;go_upto_if 46 with fail;go_cut [] (fun wx=>∃(var:ByteArray) (i3:Nat),Hid (SS D w wx (.slice A n c) acc i3)/\Hid (Ao 88 wx gm #[.bool neg,.string num,.string var])/\Hid (i3+(rd D.ts i3).length=i'+(rd D.ts i').length)/\Hid (Bd D.kn (acc.length==64) false (rd D.ts i')=.ok ⟨num,var,false⟩ (rd D.ts i3)))
          case first=>
            cases b2 with
            |false=>
             have HM3:=Aa (HM1.out.trans (by unfold Gm;rw[if_neg (by rw[<-HB2.out];decide)]));go_wp2_with fail;go_meet
             case rel=>exact ⟨_,_,S0,M0,HS1,HM3⟩
            |true=>
             have HM2:=Aa (HM1.out.trans (show Gm D.kn num (rd D.ts i1)=JE D.kn num (if num=⟨#[]⟩ then rd D.ts i1 else (rd D.ts i1).tail) from by unfold Gm;rw[if_pos (by rw[<-HB2.out])]));have HST1:=Aa (fun (h:num≠⟨#[]⟩)=>AV (i:=i1) HTG.out.ends (show AD ⟨#[42]⟩ (rd D.ts i1)=true from by have:=HB2.out;rw[decide_eq_false h,Bool.false_or]at this;exact this.symm));have m1:=M0.out.cell 1 _ rfl;go_upto_if 49 with fail
             go_cut [] (fun wx=>∃i2:Nat,Hid (SS D w wx (.slice A n c) acc i2)/\Hid (Ao 88 wx gm #[.bool neg,.string num,.string ⟨#[]⟩])/\Hid (i2+(rd D.ts i2).length=i'+(rd D.ts i').length)/\Hid (Bd D.kn (acc.length==64) false (rd D.ts i')=JE D.kn num (rd D.ts i2)))
             case first=>
              by_cases hnum:num=⟨#[]⟩
              · have ge1:(num.toList==([]:List UInt8))=true:=(by rw[hnum];decide +kernel);have ge2:(num.toList.isEmpty)=true:=(by rw[hnum];decide +kernel);have ge3:(!num.toList.isEmpty)=false:=(by rw[ge2];rfl);have HM3:=Aa (HM2.out.trans (by rw[if_pos hnum]));clear hnum;rw[ge3];go_wp2_with fail;go_meet
                case rel=>exact ⟨_,S0,M0,HS1,HM3⟩
              · have ge1:(num.toList==([]:List UInt8))=false:=(by have:=Ei hnum;simpa using this);have ge2:(num.toList.isEmpty)=false:=(by cases hx:num.toList with|nil=>rw[hx]at ge1;cases ge1|cons a b=>rfl);have ge3:(!num.toList.isEmpty)=true:=(by rw[ge2];rfl);have HM3:=Aa (HM2.out.trans (show _=JE D.kn num (rd D.ts (i1+1)) from by rw[if_neg hnum,(HST1.out hnum).1]))
                have HS3:=Aa (show i1+1+(rd D.ts (i1+1)).length=i'+(rd D.ts i').length from by have:=HS1.out;have:=(HST1.out hnum).2.1;omega);clear hnum;rw[ge3];have u0:=S0.out.T.cell 0 _ rfl;have u1:=S0.out.T.cell 1 _ rfl;have u2:=S0.out.T.cell 2 _ rfl;have u3:=S0.out.T.cell 3 _ rfl;go_wp2_with fail;have hq:=D7 D i1 y3 (by have:=HF1.out;omega);unfold Db at hq;refine hq.mono ?_;rintro e v1 ⟨rfl,bq⟩;clear hq;have S1:=Aa (S0.out.next bq)
                have M1:=Aa (M0.out.next bq);clear S0 M0 bq;clear u0 u1 u2 u3;clear m1;have xT:=S1.out.T;go_wp2_with ((with_reducible refine Ab rfl 77 _ _ rfl w.heap.size #[.slice D.A D.n D.c,.int .i64 ((i1:Int)+1:Int),.slice D.V D.m D.d,.bool D.known] rfl rfl _ xT (by kernel_rfl) rfl (by simp[Value.oneCell']) ?_);intro v2 kq ho);have S2:=Aa (S1.out.on (y:=i1+1) ho (by rw[show (((i1+1:Nat)):Int)=(i1:Int)+1 from by omega];exact kq))
                have M2:=Aa (M1.out.other ho (by omega));clear xT kq ho S1 M1;go_meet
                case rel=>exact ⟨_,S2,M2,HS3,HM3⟩
             case rest=>
              clear S0 M0 m1 HM2 HST1;obtain ⟨i2,S0,M0,HS2,HM3⟩:=hcut;generalize wc=y4 at *;have HF2:=Aa (show i2+(rd D.ts i2).length<=1099511627776 from by have:=HFa.out;have:=HS2.out;omega);have HNP:=Aa (show JE D.kn num (rd D.ts i2)=if AL (pt (hd D.ts i2))=true then (if D.kn (hd D.ts i2).text=true then .ok ⟨num,(hd D.ts i2).text,false⟩ (rd D.ts i2).tail else .err 110 (rd D.ts i2)) else .err 101 (rd D.ts i2) from by rw[CW D.ts i2];rfl)
              cases hnm:AL (pt (hd D.ts i2)) with
              |false=>
                have hmo:=HM3.out.trans HNP.out;rw[if_neg (by rw[hnm];decide)]at hmo;have HP:=Aa (fun w9 (hb9:Below w.heap.size w w9)=>BQ.err (c:=101) (i':=i2) (HEQ.out.trans (Ek D.kn neg acc hm0 hmo)) (by decide) (HSUM.out _ HS2.out) hb9);clear hmo;have u0:=S0.out.T.cell 0 _ rfl;have u1:=S0.out.T.cell 1 _ rfl;have u2:=S0.out.T.cell 2 _ rfl;have u3:=S0.out.T.cell 3 _ rfl;go_wp2_with fail;have hq:=HIN.out i2 _ S0.out.B HF2.out;rw[hnm]at hq;refine hq.mono ?_
                rintro e v1 ⟨rfl,bq⟩;clear hq;have S1:=Aa (S0.out.next bq);have M1:=Aa (M0.out.next bq);clear S0 M0 bq;clear u0 u1 u2 u3;have u0:=S1.out.T.cell 0 _ rfl;have u1:=S1.out.T.cell 1 _ rfl;have u2:=S1.out.T.cell 2 _ rfl;have u3:=S1.out.T.cell 3 _ rfl;have xR:=S1.out.R
                go_wp2_with ((with_reducible refine Ab rfl 77 _ _ rfl (w.heap.size+1) #[.slice D.A D.n D.c,.int .i64 (i2:Int),.slice D.V D.m D.d,.bool D.known] rfl rfl _ xR (by kernel_rfl) rfl (by simp[Value.oneCell']) ?_);intro w9 k9 ho9);refine DX rfl rfl rfl rfl k9 rfl ?_;exact HP.out _ (S1.out.B.trans (ho9.below S1.out.B.size (by omega)))
              |true=>
                have u0:=S0.out.T.cell 0 _ rfl;have u1:=S0.out.T.cell 1 _ rfl;have u2:=S0.out.T.cell 2 _ rfl;have u3:=S0.out.T.cell 3 _ rfl;go_wp2_with fail;have hq:=HIN.out i2 _ S0.out.B HF2.out;rw[hnm]at hq;refine hq.mono ?_;rintro e v1 ⟨rfl,bq⟩;clear hq;have S1:=Aa (S0.out.next bq);have M1:=Aa (M0.out.next bq);clear S0 M0 bq;clear u0 u1 u2 u3
                have u0:=S1.out.T.cell 0 _ rfl;have u1:=S1.out.T.cell 1 _ rfl;have u2:=S1.out.T.cell 2 _ rfl;have u3:=S1.out.T.cell 3 _ rfl;go_wp2_with fail;have hq:=HNT.out i2 _ S1.out.B HF2.out;unfold Ds at hq;refine hq.mono ?_;rintro e v2 ⟨rfl,bq⟩;clear hq;have S2:=Aa (S1.out.next bq);have M2:=Aa (M1.out.next bq);clear S1 M1 bq;clear u0 u1 u2 u3;have m2:=M2.out.cell 2 _ rfl;have mf:=M2.out.fr 2;have HFD:=fun a c d s W=>II a c d s W
                go_upto_region 20 with fail;clear m2 mf HFD;have ho:=FU v2 gm 2 (.string (hd D.ts i2).text);have M3:=Aa (Ao.set_2 M2.out (.string (hd D.ts i2).text));generalize hvn:v2.setCell ⟨gm,2,none⟩ (.string (hd D.ts i2).text)=v3 at *;have S3:=Aa (S2.out.far ho (by omega) LM.out);clear hvn ho S2 M2;obtain ⟨b5,hb5⟩:∃b5,b5=(D.known&&!CY (hd D.ts i2).text D.vars):=⟨_,rfl⟩;have HB5:=Aa hb5;clear hb5
                have HKN:=Aa (show D.kn (hd D.ts i2).text=!b5 from by rw[HB5.out];unfold CD.kn;cases D.known<;>simp)
                have h5':(hd D.ts i2).kind≠5:=Ix hnm;have HK3:=Aa (Gs HTG.out.ends h5');have HM4:=Aa (HM3.out.trans (HNP.out.trans (if_pos hnm)));clear hnm h5';go_cut [69] (fun cv wx=>cv=.bool b5/\v3=wx)
                case first=>
                 have u0:=S3.out.T.cell 0 _ rfl;have u1:=S3.out.T.cell 1 _ rfl;have u2:=S3.out.T.cell 2 _ rfl;have u3:=S3.out.T.cell 3 _ rfl;have m2:=M3.out.cell 2 _ rfl;by_cases hk:D.known=true
                 · rw[hk]at u3;have HV:=Aa (show (.bool (!CY (hd D.ts i2).text D.vars):Value)=.bool b5 from by rw[HB5.out,hk];rfl);clear hk;go_wp2_with fail;have hq:=HIC.out (hd D.ts i2).text _ S3.out.B;generalize CY (hd D.ts i2).text D.vars=bn at *;refine hq.mono ?_;rintro e vq ⟨rfl,rfl⟩;clear hq;go_wp2_with fail;go_meet
                   case rel=>exact ⟨HV.out,rfl⟩
                 · have hk:D.known=false:=(by simpa using hk);rw[hk]at u3;have HV:=Aa (show (.bool false:Value)=.bool b5 from by rw[HB5.out,hk];rfl);clear hk;go_wp2_with fail;go_meet
                   case rel=>exact ⟨HV.out,rfl⟩
                case rest=>
                 obtain ⟨rfl,rfl⟩:=hcut;cases b5 with
                 |true=>
                   have hmo:=HM4.out;rw[if_neg (by rw[HKN.out];decide)]at hmo;have HP:=Aa (fun w9 (hb9:Below w.heap.size w w9)=>BQ.err (c:=110) (i':=i2) (HEQ.out.trans (Ek D.kn neg acc hm0 hmo)) (by decide) (HSUM.out _ HS2.out) hb9);clear hmo;have u0:=S3.out.T.cell 0 _ rfl;have u1:=S3.out.T.cell 1 _ rfl;have u2:=S3.out.T.cell 2 _ rfl;have u3:=S3.out.T.cell 3 _ rfl;have xR:=S3.out.R
                   go_wp2_with ((with_reducible refine Ab rfl 77 _ _ rfl (w.heap.size+1) #[.slice D.A D.n D.c,.int .i64 (i2:Int),.slice D.V D.m D.d,.bool D.known] rfl rfl _ xR (by kernel_rfl) rfl (by simp[Value.oneCell']) ?_);intro w9 k9 ho9);refine DX rfl rfl rfl rfl k9 rfl ?_;exact HP.out _ (S3.out.B.trans (ho9.below S3.out.B.size (by omega)))
                 |false=>
                   have hmo:=HM4.out;rw[if_pos (by rw[HKN.out];rfl),<-HK3.out.1]at hmo;have HM5:=Aa hmo;have HS5:=Aa (show i2+1+(rd D.ts (i2+1)).length=i'+(rd D.ts i').length from by have:=HS2.out;have:=HK3.out.2.1;omega);clear hmo;have u0:=S3.out.T.cell 0 _ rfl;have u1:=S3.out.T.cell 1 _ rfl;have u2:=S3.out.T.cell 2 _ rfl;have u3:=S3.out.T.cell 3 _ rfl;go_upto_region 22 with fail;go_wp2_with fail;have hq:=D7 D i2 v3 (by have:=HF2.out;omega);unfold Db at hq
                   refine hq.mono ?_;rintro e v4 ⟨rfl,bq⟩;clear hq;have S4:=Aa (S3.out.next bq);have M4:=Aa (M3.out.next bq);clear S3 M3 bq;clear u0 u1 u2 u3;have xT:=S4.out.T;go_wp2_with ((with_reducible refine Ab rfl 77 _ _ rfl w.heap.size #[.slice D.A D.n D.c,.int .i64 ((i2:Int)+1:Int),.slice D.V D.m D.d,.bool D.known] rfl rfl _ xT (by kernel_rfl) rfl (by simp[Value.oneCell']) ?_);intro v5 kq ho)
                   have S5:=Aa (S4.out.on (y:=i2+1) ho (by rw[show (((i2+1:Nat)):Int)=(i2:Int)+1 from by omega];exact kq));have M5:=Aa (M4.out.other ho (by omega));clear xT kq ho S4 M4;go_meet
                   case rel=>exact ⟨_,_,S5,M5,HS5,HM5⟩
          case rest=>
            clear S0 M0 HM1 HB2 HS1 HF1;obtain ⟨var,i3,S0,M0,HS3,HM3⟩:=hcut;generalize wc=y5 at *;have HE:=Aa (HEQ.out.trans (MY D.kn neg acc hm0 HM3.out));have HLN:=Aa (Je HM3.out);have HST:=Aa (HSUM.out _ HS3.out);have HF3:=Aa (show i3+(rd D.ts i3).length<=1099511627776 from by have:=HFa.out;have:=HS3.out;omega);dsimp only at HE
            have m0:=M0.out.cell 0 _ rfl;have m1:=M0.out.cell 1 _ rfl;have m2:=M0.out.cell 2 _ rfl;have bq:=Ae y5 (.cells #[.bool neg,.string num,.string var] 88);have hbx:=heap_alloc_new y5 (.cells #[.bool neg,.string num,.string var] 88);have HBX:=Aa hbx;have S1:=Aa (S0.out.next bq);clear bq hbx;have hln:=HN.out;have zs:=S1.out.R.lt
            go_upto_region 24 with (at_builtin;refine EA rfl _ _ rfl (w.heap.size+2) _ acc rfl S1.out.L y5.heap.size ⟨num,var,neg⟩ rfl HBX.out (by omega) (by omega) ?_;intro vv v2 l5 g5);obtain ⟨A3,c3,rfl,hd1,hd2,-⟩:=l5.len
            have S2:=Aa (show SS D w v2 (.slice A3 (acc++[⟨num,var,neg⟩]:List Mn).length c3) (acc++[⟨num,var,neg⟩]) i3 from ⟨S1.out.L.old S1.out.B g5 (by omega) (Nat.le_refl _),l5,S1.out.R.grown g5 (fun e=>by have:=S1.out.L.lt _ e.symm;omega),S1.out.T.grown g5 (fun e=>by have:=S1.out.L.lt _ e.symm;omega)⟩);have hn3:(acc++[⟨num,var,neg⟩]:List Mn).length=n+1:=(by rw[List.length_append,HN.out];rfl);have HN3:=Aa hn3
            generalize (acc++[⟨num,var,neg⟩]:List Mn).length=n3 at hd1 hn3 S2 ⊢;subst hn3;clear l5 g5 HBX hln m0 m1 m2 S0 S1 M0;cases hs:AD ⟨#[45]⟩ (rd D.ts i3) with
            |true=>
             have HK:=Aa (AV HTG.out.ends hs);have EQ:=Aa (HE.out.trans (if_pos hs));rw[<-HK.out.1]at EQ;have u0:=S2.out.T.cell 0 _ rfl;have u1:=S2.out.T.cell 1 _ rfl;have u2:=S2.out.T.cell 2 _ rfl;have u3:=S2.out.T.cell 3 _ rfl;go_wp2_with fail;have hq:=HIS.out i3 ⟨#[45]⟩ _ S2.out.B HF3.out;rw[hs]at hq;refine hq.mono ?_;rintro e v3 ⟨rfl,bq⟩;clear hq;have S3:=Aa (S2.out.next bq);clear S2 bq;clear u0 u1 u2 u3
             have u0:=S3.out.T.cell 0 _ rfl;have u1:=S3.out.T.cell 1 _ rfl;have u2:=S3.out.T.cell 2 _ rfl;have u3:=S3.out.T.cell 3 _ rfl;go_wp2_with fail;have hq:=D7 D i3 v3 (by have:=HF3.out;omega);unfold Db at hq;refine hq.mono ?_;rintro e v4 ⟨rfl,bq⟩;clear hq;have S4:=Aa (S3.out.next bq);clear S3 bq;clear u0 u1 u2 u3;have xT:=S4.out.T
             go_wp2_with ((with_reducible refine Ab rfl 77 _ _ rfl w.heap.size #[.slice D.A D.n D.c,.int .i64 ((i3:Int)+1:Int),.slice D.V D.m D.d,.bool D.known] rfl rfl _ xT (by kernel_rfl) rfl (by simp[Value.oneCell']) ?_);intro v5 kq ho);have S5:=Aa (S4.out.on (y:=i3+1) ho (by rw[show (((i3+1:Nat)):Int)=(i3:Int)+1 from by omega];exact kq));clear xT kq ho S4;have HRR:=Aa (show Ia D i w v5 (.slice A3 (n+1) c3) true (i3+1) (m-1) (acc++[⟨num,var,neg⟩]) from
              ⟨S5.out.L,S5.out.T,S5.out.R,S5.out.B,HST.out.trans' rfl (by have:=HK.out.2.1;omega),EQ.out,by have:=HMORE.out;have:=HK.out.2.1;have:=HLN.out;omega,by rw[HN3.out];omega⟩)
             simp only[Act.put];go_roundw
             case rel=>exact ⟨_,_,_,_,rfl,HRR⟩
             case measure=>simp[lenOf];omega
            |false=>
             have u0:=S2.out.T.cell 0 _ rfl;have u1:=S2.out.T.cell 1 _ rfl;have u2:=S2.out.T.cell 2 _ rfl;have u3:=S2.out.T.cell 3 _ rfl;go_wp2_with fail;have hq:=HIS.out i3 ⟨#[45]⟩ _ S2.out.B HF3.out;rw[hs]at hq;refine hq.mono ?_;rintro e v3 ⟨rfl,bq⟩;clear hq;have S3:=Aa (S2.out.next bq);clear S2 bq;clear u0 u1 u2 u3;cases hp:AD ⟨#[43]⟩ (rd D.ts i3) with
             |true=>
              have HK:=Aa (AV HTG.out.ends hp);have EQ:=Aa (HE.out.trans ((if_neg (by rw[hs];decide)).trans (if_pos hp)));rw[<-HK.out.1]at EQ;have u0:=S3.out.T.cell 0 _ rfl;have u1:=S3.out.T.cell 1 _ rfl;have u2:=S3.out.T.cell 2 _ rfl;have u3:=S3.out.T.cell 3 _ rfl;go_wp2_with fail;have hq:=HIS.out i3 ⟨#[43]⟩ _ S3.out.B HF3.out;rw[hp]at hq;refine hq.mono ?_;rintro e v4 ⟨rfl,bq⟩;clear hq;have S4:=Aa (S3.out.next bq);clear S3 bq;clear u0 u1 u2 u3
              have u0:=S4.out.T.cell 0 _ rfl;have u1:=S4.out.T.cell 1 _ rfl;have u2:=S4.out.T.cell 2 _ rfl;have u3:=S4.out.T.cell 3 _ rfl;go_wp2_with fail;have hq:=D7 D i3 v4 (by have:=HF3.out;omega);unfold Db at hq;refine hq.mono ?_;rintro e v5 ⟨rfl,bq⟩;clear hq;have S5:=Aa (S4.out.next bq);clear S4 bq;clear u0 u1 u2 u3;have xT:=S5.out.T
              go_wp2_with ((with_reducible refine Ab rfl 77 _ _ rfl w.heap.size #[.slice D.A D.n D.c,.int .i64 ((i3:Int)+1:Int),.slice D.V D.m D.d,.bool D.known] rfl rfl _ xT (by kernel_rfl) rfl (by simp[Value.oneCell']) ?_);intro v6 kq ho);have S6:=Aa (S5.out.on (y:=i3+1) ho (by rw[show (((i3+1:Nat)):Int)=(i3:Int)+1 from by omega];exact kq));clear xT kq ho S5;have HRR:=Aa (show Ia D i w v6 (.slice A3 (n+1) c3) false (i3+1) (m-1) (acc++[⟨num,var,neg⟩]) from
                ⟨S6.out.L,S6.out.T,S6.out.R,S6.out.B,HST.out.trans' rfl (by have:=HK.out.2.1;omega),EQ.out,by have:=HMORE.out;have:=HK.out.2.1;have:=HLN.out;omega,by rw[HN3.out];omega⟩)
              simp only[Act.put];go_roundw
              case rel=>exact ⟨_,_,_,_,rfl,HRR⟩
              case measure=>simp[lenOf];omega
             |false=>
              have EQ:=Aa (HE.out.trans ((if_neg (by rw[hs];decide)).trans (if_neg (by rw[hp];decide))));have u0:=S3.out.T.cell 0 _ rfl;have u1:=S3.out.T.cell 1 _ rfl;have u2:=S3.out.T.cell 2 _ rfl;have u3:=S3.out.T.cell 3 _ rfl;go_wp2_with fail;have hq:=HIS.out i3 ⟨#[43]⟩ _ S3.out.B HF3.out;rw[hp]at hq;refine hq.mono ?_;rintro e v4 ⟨rfl,bq⟩;clear hq;have S4:=Aa (S3.out.next bq);clear S3 bq;clear u0 u1 u2 u3
              have u0:=S4.out.T.cell 0 _ rfl;have u1:=S4.out.T.cell 1 _ rfl;have u2:=S4.out.T.cell 2 _ rfl;have u3:=S4.out.T.cell 3 _ rfl;have HP:=Aa (fun w9 (hb9:Below w.heap.size w w9) (hl9:Am 88 3 w9 (w.heap.size+2) (.slice A3 (n+1) c3) (acc++[⟨num,var,neg⟩]:List Mn).length (Cj (acc++[⟨num,var,neg⟩])))=>BQ.ok (D:=D) (i:=i) (i':=i3) (by rw[EQ.out]) hl9 HST.out hb9);have xR:=S4.out.R
              go_wp2_with ((with_reducible refine Ab rfl 77 _ _ rfl (w.heap.size+1) #[.slice D.A D.n D.c,.int .i64 (i3:Int),.slice D.V D.m D.d,.bool D.known] rfl rfl _ xR (by kernel_rfl) rfl (by simp[Value.oneCell']) ?_);intro w9 k9 ho9);refine DX rfl rfl rfl rfl k9 rfl ?_;exact HP.out _ (S4.out.B.trans (ho9.below S4.out.B.size (by omega))) (S4.out.L.other ho9 (Or.inl (by omega)))
end
end Go.Proofs.YtgohmojcopajoaaGreatDoor
