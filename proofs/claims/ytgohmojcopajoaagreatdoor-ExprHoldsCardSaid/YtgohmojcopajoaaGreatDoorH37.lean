/- Texts of one seat, put together: ExprHe LexRowB ExprHi. -/
import Derived.Test.YtgohmojcopajoaaGreatDoorH36
import Derived.Test.YtgohmojcopajoaaGreatDoorH03
set_option linter.unusedVariables false
set_option linter.unusedSimpArgs false
set_option maxRecDepth 100000
set_option maxHeartbeats 16000000
namespace Go.Proofs.YtgohmojcopajoaaGreatDoor
section
open Go.RowKit
open Lx Ex
theorem Gx {w:World} {ops:Array Oper} {rest:List Oper} {o:Oper} {a:Act} {Q:Exit->Act->World->Prop} (hgd:o.guard=none) (s x:Operand)
  (ho:o.op=.call { callee:=.builtin .append,args:=#[s,x],argTypes:=#[59,59] }) (base:Nat) (v:Value) (k:Nat) (xs:List Value) (hs:a.eval s=v) (hown:Ak 61 6 w base v k xs)
  (b:Nat) (kq:Int) (A B C:Option Addr) (n c m d p q:Nat) (s1 f1:Bool) (hx:a.eval x=.slice (some ⟨b,0,none⟩) 1 1) (hb:w.heap[b]?=some (.cells #[.int .i64 kq,.slice A n c,.bool s1,.slice B m d,.bool f1,.slice C p q] 61 (0,0))) (hn:k+1<=109951162777) (hbase:base<=w.heap.size)
  (h:∀v' w',Ak 61 6 w' base v' (k+1) (xs++[.int .i64 kq,.slice A n c,.bool s1,.slice B m d,.bool f1,.slice C p q])->w.grownBy w' v.ownBlock->wpList Tryz.prog ops Q rest (a.put o.dst v') w'):wpList Tryz.prog ops Q (o::rest) a w:=by
 obtain ⟨i0,hi0,hz0,hz1,hz2⟩:=info_parts Iy;exact Ba hgd s x 59 ho base 61 i0 _ 6 96 Tryz.underlying59 hi0 hz0 hz1 hz2 rfl (by decide) (Xo (d:=0)) v k xs hs hown ⟨b,0,none⟩ 1 1 [.int .i64 kq,.slice A n c,.bool s1,.slice B m d,.bool f1,.slice C p q] hx rfl
  (fun j u hu=>by rw[addr_add,Nat.zero_add,cell_of_row w b j _ _ _ hb];simpa using hu) (fun u hu=>by
   simp only[List.mem_cons,List.not_mem_nil,or_false]at hu;rcases hu with rfl|rfl|rfl|rfl|rfl|rfl<;>rfl) (Xo (d:=0)) (by unfold maxLen;omega) (by omega) hbase h
theorem Ak.lowF {T:TypeId} {sz:Nat} {w:World} {base B:Nat} {v:Value} {n:Nat} {xs:List Value} (h:Ak T sz w base v n xs) (hB:B<=base):Ak T sz w B v n xs:=by refine ⟨h.1,h.2.imp id ?_⟩;rintro ⟨g,cap,cur,h1,h2,h3⟩;exact ⟨g,cap,cur,h1,Nat.le_trans hB h2,h3⟩
def Yk (L:List (Int×Int)) (K:Int) (fl:Bool) (k:Nat) (w:World) (e:Ending) (w':World):Prop:=∃(A:Option Addr) (n c:Nat) (s:Bool) (B:Option Addr) (m d:Nat) (v:Value),e=.returned v/\Ak 61 6 w' w.heap.size v 1 [.int .i64 2,.slice A n c,.bool s,.slice B m d,.bool fl,.slice none 0 0]/\Nu.AP w' (.agg #[.slice A n c,.bool s,.slice B m d]) L K k/\Below w.heap.size w w'
theorem RJ (A B:Option Addr) (n c m d:Nat) (s fl:Bool) (L:List (Int×Int)) (K:Int) (k G0:Nat) (w0:World) (hx:Am 61 w0 G0 #[.int .i64 2,.slice A n c,.bool s,.slice B m d,.bool fl,.slice none 0 0]) (hv:Nu.Sj w0 (.agg #[.slice A n c,.bool s,.slice B m d,.bool fl]) L K fl k) (hle:L.length<=1099511) (hk:k<=1099511627) :
  Calls Tryz.prog 187 #[.slice (some ⟨G0,0,none⟩) 1 1,.func (.func 168) #[] #[]] w0 (Yk (Tm.norm L) K fl (k+L.length) w0):=by
 have HX:=Aa hx;have HCH:=Aa (fun W (h:Below w0.heap.size w0 W)=>Mu A B n c m d s fl L K k W (hv.below h) hle hk);have HS:=Aa (Below.refl w0.heap.size w0);clear hx hv;go_enter Tryz.func187,Tryz.ntmps187;go_wp2_with fail;go_loopw [5,10] (fun r i wr=>(r=.slice none 0 0/\i=.int .i64 0/\wr=w0)\/(i=.int .i64 1/\Hid (Yk (Tm.norm L) K fl (k+L.length) w0 (.returned r) wr))) (fun _ i _=>1-(intOf i).toNat)
 case atStart=>exact Or.inl ⟨rfl,rfl,rfl⟩
 case round=>
  rcases hrel with ⟨rfl,rfl,rfl⟩|⟨rfl,HE⟩
  · have y0:=HX.out.cell 0 _ rfl;have y1:=HX.out.cell 1 _ rfl;have y2:=HX.out.cell 2 _ rfl;have y3:=HX.out.cell 3 _ rfl;have y4:=HX.out.cell 4 _ rfl;have y5:=HX.out.cell 5 _ rfl;have hlt:=HX.out.lt;go_upto_region 5 with fail;generalize hW:wr.alloc (.cells #[.int .i64 2,.slice A n c,.bool s,.slice B m d,.bool fl,.slice none 0 0] 61)=W1 at *;have hbx:Am 61 W1 wr.heap.size #[.int .i64 2,.slice A n c,.bool s,.slice B m d,.bool fl,.slice none 0 0]:=hW▸Am.new _ _ _
    have hb1:Below wr.heap.size wr W1:=hW▸Ae wr _;have z0:=hbx.cell 0 _ rfl;have z1:=hbx.cell 1 _ rfl;have z2:=hbx.cell 2 _ rfl;have z3:=hbx.cell 3 _ rfl;have z4:=hbx.cell 4 _ rfl;have z5:=hbx.cell 5 _ rfl;have HB1:=Aa hb1;clear hW hbx hb1 y0 y1 y2 y3 y4 y5;go_wp2_with fail;refine (HCH.out _ HB1.out).mono ?_;rintro e w3 ⟨A3,n3,c3,s3,B3,m3,d3,rfl,ht3,b3⟩;have HB3:=Aa (HB1.out.next b3);have HT3:=Aa ht3
    have L7:=Aa (Ak.nil 61 6 (w3.alloc (.cells #[.int .i64 2,.slice A3 n3 c3,.bool s3,.slice B3 m3 d3,.bool fl,.slice none 0 0] 61)) wr.heap.size);have HN7:=Aa (heap_alloc_new w3 (.cells #[.int .i64 2,.slice A3 n3 c3,.bool s3,.slice B3 m3 d3,.bool fl,.slice none 0 0] 61));have HA7:=Aa (Ae w3 (.cells #[.int .i64 2,.slice A3 n3 c3,.bool s3,.slice B3 m3 d3,.bool fl,.slice none 0 0] 61));have hs3:=HB3.out.size;clear b3 ht3 z0 z1 z2 z3 z4 z5
    go_wp2_with (at_builtin;refine Gx rfl _ _ rfl wr.heap.size _ 0 [] rfl L7.out w3.heap.size 2 A3 B3 none n3 c3 m3 d3 0 0 s3 fl rfl HN7.out (by omega) (by simp only[World.size_alloc];omega) ?_;intro v7 w7 l7 g7;have HG7:=Aa g7;have L8:=Aa l7;clear l7 g7)
    have hb7:Below (w3.alloc (.cells #[.int .i64 2,.slice A3 n3 c3,.bool s3,.slice B3 m3 d3,.bool fl,.slice none 0 0] 61)).heap.size (w3.alloc (.cells #[.int .i64 2,.slice A3 n3 c3,.bool s3,.slice B3 m3 d3,.bool fl,.slice none 0 0] 61)) w7:=⟨HG7.out.os,HG7.out.tape,HG7.out.output,HG7.out.size,fun k hk=>HG7.out.block k hk (fun h=>by cases h)⟩
    have HR:=Aa (show Yk (Tm.norm L) K fl (k+L.length) wr (.returned v7) w7 from ⟨A3,n3,c3,s3,B3,m3,d3,v7,rfl,L8.out,Nu.AP.below (Nu.AP.below HT3.out HA7.out) hb7,(HB3.out.next HA7.out).next hb7⟩);clear hb7;go_roundw
    case rel=>exact Or.inr ⟨rfl,HR⟩
    case measure=>simp[intOf]
  · go_wp2_with fail;go_ret
    exact HE.out
theorem NT (A B:Option Addr) (n c m d:Nat) (s fl:Bool) (L:List (Int×Int)) (K:Int) (k G0:Nat) (w0:World) (hx:Am 61 w0 G0 #[.int .i64 2,.slice A n c,.bool s,.slice B m d,.bool fl,.slice none 0 0]) (hv:Nu.Sj w0 (.agg #[.slice A n c,.bool s,.slice B m d,.bool fl]) L K fl k) (hle:L.length<=1099511) (hk:k<=1099511627) :
  Calls Tryz.prog 170 #[.slice (some ⟨G0,0,none⟩) 1 1] w0 (Yk (Tm.norm L) K fl (k+L.length) w0):=by
 have HE:=Aa (RJ A B n c m d s fl L K k G0 w0 hx hv hle hk);clear hx hv;go_enter Tryz.func170,Tryz.ntmps170;go_wp2_with fail;refine HE.out.mono ?_;rintro e w2 ⟨A3,n3,c3,s3,B3,m3,d3,v,rfl,h1,h2,h3⟩;have HF:=Aa (show Yk (Tm.norm L) K fl (k+L.length) w0 (.returned v) w2 from ⟨A3,n3,c3,s3,B3,m3,d3,v,rfl,h1,h2,h3⟩);clear h1 h2 h3;go_wp2_with fail;go_ret
 exact HF.out
def Wh (L:List (Int×Int)) (K:Int) (fl:Bool) (k:Nat) (w:World) (e:Ending) (w':World):Prop:=∃(A:Option Addr) (n c:Nat) (s:Bool) (B:Option Addr) (m d:Nat) (C:Option Addr) (q:Nat),e=.returned (.agg #[.int .i64 3,.slice none 0 0,.bool false,.slice none 0 0,.bool false,.slice C 1 q])/\Ak 61 6 w' w.heap.size (.slice C 1 q) 1 [.int .i64 2,.slice A n c,.bool s,.slice B m d,.bool fl,.slice none 0 0]/\Nu.AP w' (.agg #[.slice A n c,.bool s,.slice B m d]) L K k/\Below w.heap.size w w'
theorem Wh.up {L:List (Int×Int)} {K:Int} {fl:Bool} {k j:Nat} {w w':World} {e:Ending} (h:Wh L K fl k w e w') (hj:k<=j):Wh L K fl j w e w':=by obtain ⟨A,n,c,s,B,m,d,C,q,h1,h2,h3,h4⟩:=h;exact ⟨A,n,c,s,B,m,d,C,q,h1,h2,h3.mono hj,h4⟩
theorem RL (A B:Option Addr) (n c m d:Nat) (s fl:Bool) (L:List (Int×Int)) (K:Int) (k:Nat) (w0:World) (hv:Nu.Sj w0 (.agg #[.slice A n c,.bool s,.slice B m d,.bool fl]) L K fl k) (hle:L.length<=1099511) (hk:k<=1099511627) :
  Calls Tryz.prog 146 #[.agg #[.int .i64 2,.slice A n c,.bool s,.slice B m d,.bool fl,.slice none 0 0]] w0 (Wh (Tm.norm L) K fl (k+L.length) w0):=by
 obtain ⟨x1,x2,hb,hsz⟩:=Ax 61 61 w0 #[.int .i64 2,.slice A n c,.bool s,.slice B m d,.bool fl,.slice none 0 0] #[.int .i64 0,.slice none 0 0,.bool false,.slice none 0 0,.bool false,.slice none 0 0];have HB:=Aa hb;have HX:=Aa x1;have HY:=Aa x2;have HCP:=Aa (fun W G0 (h:Below w0.heap.size w0 W) (hx:Am 61 W G0 #[.int .i64 2,.slice A n c,.bool s,.slice B m d,.bool fl,.slice none 0 0])=>NT A B n c m d s fl L K k G0 W hx (hv.below h) hle hk);have y0:=x1.cell 0 _ rfl
 have y1:=x1.cell 1 _ rfl;have y2:=x1.cell 2 _ rfl;have y3:=x1.cell 3 _ rfl;have y4:=x1.cell 4 _ rfl;have y5:=x1.cell 5 _ rfl;clear x1 x2 hb hv;go_enter Tryz.func146,Tryz.ntmps146;go_wp2_with fail;generalize hW:(w0.alloc (.cells #[.int .i64 2,.slice A n c,.bool s,.slice B m d,.bool fl,.slice none 0 0] 61)).alloc (.cells #[.int .i64 0,.slice none 0 0,.bool false,.slice none 0 0,.bool false,.slice none 0 0] 61)=W1 at *;clear hW
 have HA:=Aa (Ae W1 (.cells #[.int .i64 2,.slice A n c,.bool s,.slice B m d,.bool fl,.slice none 0 0] 61));refine (HCP.out _ (w0.heap.size+2) (HB.out.next HA.out) (by have:=Am.new 61 W1 #[.int .i64 2,.slice A n c,.bool s,.slice B m d,.bool fl,.slice none 0 0];rw[hsz]at this;exact this)).mono ?_;rintro e w2 ⟨A3,n3,c3,s3,B3,m3,d3,v,rfl,hr,ht,b2⟩;obtain ⟨C,q,rfl,-,-,-⟩:=hr.len;have xf2:=(HY.out.next HA.out).next b2;have XF2:=Aa xf2;have HT2:=Aa ht;have HR2:=Aa hr
 have HB2:=Aa ((HB.out.next HA.out).next b2);have HS2:=Aa (show w0.heap.size+1<(W1.alloc (.cells #[.int .i64 2,.slice A n c,.bool s,.slice B m d,.bool fl,.slice none 0 0] 61)).heap.size from (HY.out.next HA.out).lt);clear b2 ht hr y0 y1 y2 y3 y4 y5
 go_wp2_with (with_reducible refine Ab rfl 61 _ _ rfl (w0.heap.size+1) #[.int .i64 3,.slice none 0 0,.bool false,.slice none 0 0,.bool false,.slice C 1 q] rfl rfl _ xf2 (by kernel_rfl) rfl (by simp[Value.oneCell']) ?_;intro w9 k9 o9);refine Be rfl rfl k9 rfl ?_;exact ⟨A3,n3,c3,s3,B3,m3,d3,C,q,rfl,(HR2.out.other o9 (Or.inl HS2.out)).lowF (Nat.le_trans (Nat.le_succ _) (Nat.le_of_lt HS2.out)),Nu.AP.onlyF HT2.out XF2.out o9,HB2.out.trans (o9.below HB2.out.size (by omega))⟩
theorem RN (v u:Value) (L M:List (Int×Int)) (K J:Int) (w0:World) (hv:Nu.AW w0 v L K 9000) (hu:Nu.AW w0 u M J 9000) (hl:L.length<=64) (hm:M.length<=64):Calls Tryz.prog 110 #[.int .i64 1,v,u] w0 (Wh (Tm.norm (Tm.norm (Tm.norm (BQ L M)))) (K-J) true 30000 w0):=by
 have hv0:=hv;have hu0:=hu;obtain ⟨A,n,c,s,B,m,d,rfl,-⟩:=hv;obtain ⟨A2,n2,c2,s2,B2,m2,d2,rfl,-⟩:=hu;obtain ⟨x1,x2,xf,hb,hsz⟩:=Cm 56 56 61 w0 #[.slice A n c,.bool s,.slice B m d] #[.slice A2 n2 c2,.bool s2,.slice B2 m2 d2] #[.int .i64 0,.slice none 0 0,.bool false,.slice none 0 0,.bool false,.slice none 0 0];have HEQ:=Aa (fun W (h:Below w0.heap.size w0 W)=>LC _ _ L M K J W (hv0.below h) (hu0.below h) hl hm)
 have HLE:=Aa (show (Tm.norm (Tm.norm (BQ L M))).length<=128 from Bd _ (Bd _ (Eg _ _ (by omega))));have XF:=Aa xf;have HB:=Aa hb;have c0:=x1.cell 0 _ rfl;have c1:=x1.cell 1 _ rfl;have c2:=x1.cell 2 _ rfl;have d0:=x2.cell 0 _ rfl;have d1:=x2.cell 1 _ rfl;have d2:=x2.cell 2 _ rfl;clear hv0 hu0 x1 x2 xf hb;go_enter Tryz.func110,Tryz.ntmps110;go_wp2_with fail;refine (HEQ.out _ HB.out).mono ?_;rintro e w2 ⟨A8,n8,c8,s8,B8,m8,d8,rfl,ht,b2⟩
 have HDN:=Aa (RL A8 B8 n8 c8 m8 d8 s8 true _ _ _ w2 ⟨A8,n8,c8,s8,B8,m8,d8,rfl,ht.in_⟩ (by have:=HLE.out;omega) (by omega));have XF2:=Aa (XF.out.next b2);have HB2:=Aa (HB.out.next b2);clear b2 ht c0 c1 c2 d0 d1 d2;go_wp2_with fail;refine HDN.out.mono ?_;rintro e w3 ⟨A9,n9,c9,s9,B9,m9,d9,C9,q9,rfl,hr,ht,b3⟩;have xf3:=XF2.out.next b3;have XF3:=Aa xf3;have HT3:=Aa ht;have HR3:=Aa hr;have HB3:=Aa (HB2.out.next b3);have HS3:=Aa (show w0.heap.size+1+1<w2.heap.size from XF2.out.lt)
 clear b3 ht hr;go_wp2_with (with_reducible refine Ab rfl 61 _ _ rfl (w0.heap.size+1+1) #[.int .i64 3,.slice none 0 0,.bool false,.slice none 0 0,.bool false,.slice C9 1 q9] rfl rfl _ xf3 (by kernel_rfl) rfl (by simp[Value.oneCell']) ?_;intro w9 k9 o9);refine Be rfl rfl k9 rfl ?_
 exact Wh.up ⟨A9,n9,c9,s9,B9,m9,d9,C9,q9,rfl,(HR3.out.other o9 (Or.inl HS3.out)).lowF (by have:=HS3.out;omega),Nu.AP.onlyF HT3.out XF3.out o9,HB3.out.trans (o9.below HB3.out.size (by omega))⟩ (by have:=HLE.out;omega)
end
section
open Go.RowKit
def CR (Pt:List Value->Prop) (T:TypeId) (sz:Nat) (w:World) (base:Nat) (v:Value) (n:Nat) (xs:List Value):Prop:=
 xs.length=n*sz/\((v=.slice none 0 0/\n=0) \/
  ∃g cap cur,v=.slice (some ⟨g,0,none⟩) n cap/\base<=g/\w.heap[g]?=some (.cells cur T (0,0))/\n<=cap/\cap<=maxLen/\cur.size=cap*sz/\cur.toList.take (n*sz)=xs/\Cw cur.toList/\Pt cur.toList)
theorem CR.lrow {Pt:List Value->Prop} {T:TypeId} {sz:Nat} {w:World} {base:Nat} {v:Value} {n:Nat} {xs:List Value} (h:CR Pt T sz w base v n xs):Ak T sz w base v n xs:=
 ⟨h.1,h.2.imp id fun ⟨g,cap,cur,a,b,c,d,e,f,i,j,_⟩=>⟨g,cap,cur,a,b,c,d,e,f,i,j⟩⟩
theorem CR.nil (Pt:List Value->Prop) (T:TypeId) (sz:Nat) (w:World) (base:Nat):CR Pt T sz w base (.slice none 0 0) 0 []:=⟨by simp,.inl ⟨rfl,rfl⟩⟩
theorem CR.kept {Pt:List Value->Prop} {T:TypeId} {sz:Nat} {w w':World} {base:Nat} {v:Value} {n:Nat} {xs:List Value} {row:Option Nat} (h:CR Pt T sz w base v n xs) (hg:w.grownBy w' row) (hne:v.ownBlock=none\/v.ownBlock≠row):CR Pt T sz w' base v n xs:=by
 refine ⟨h.1,?_⟩;rcases h.2 with hn|⟨g,cap,cur,rfl,hb,hgg,rest⟩
 · exact .inl hn
 · refine .inr ⟨g,cap,cur,rfl,hb,?_,rest⟩;rw[hg.block g (Array.getElem?_eq_some_iff.1 hgg).1 (by simpa[Value.ownBlock] using hne)];exact hgg
theorem CR.below {Pt:List Value->Prop} {T:TypeId} {sz:Nat} {w w':World} {base:Nat} {v:Value} {n:Nat} {xs:List Value} (h:CR Pt T sz w base v n xs) (hb:Below w.heap.size w w'):CR Pt T sz w' base v n xs:=
 h.kept (row:=none) ⟨hb.os,hb.tape,hb.output,hb.size,fun k hk _=>hb.block k hk⟩ (by
  by_cases h0:v.ownBlock=none
  · exact .inl h0
  · exact .inr h0)
theorem CR.other {Pt:List Value->Prop} {T:TypeId} {sz:Nat} {w w':World} {base:Nat} {v:Value} {n:Nat} {xs:List Value} {g:Nat} (h:CR Pt T sz w base v n xs) (ho:Ai g w w') (hg:g<base\/w.heap.size<=g):CR Pt T sz w' base v n xs:=
 h.kept ho (by
  cases hv:v.ownBlock with
  |none=>exact .inl rfl
  |some k=> have:=h.lrow.lt k hv;exact .inr (fun e=>by injection e with e;omega))
section
variable {P:Program} (w:World)
theorem I3 (Pt:List Value->Prop) (base:Nat) (t ty e:TypeId) (i:TypeInfo) (z:Value) (size bytes:Nat) (ht:P.underlying t=some (.slice e)) (hi:P.info? e=some i) (hz:i.zero=some z)
   (hsize:i.size=size) (hby:i.bytes=bytes) (hzs:z.cells.size=size) (hsz:0<size) (hzn:Cw z.cells.toList)
   (v:Value) (n:Nat) (xs:List Value) (hown:CR Pt e size w base v n xs)
   (a:Addr) (m c:Nat) (news:List Value) (hl:news.length=m*size) (hnews:∀j u,news[j]?=some u->w.cell? (a.add j)=some u) (h1:∀u∈news,u.oneCell'=true) (hnn:Cw news)
   (h63:n+m<=maxLen) (hbytes:(n+m)*bytes<=140737488355328) (hbase:base<=w.heap.size)
   (p0:Pt []) (pa:∀a b:List Value,a.length%size=0->Pt a->Pt b->Pt (a++b)) (pt:∀(a:List Value) (k:Nat),Pt a->Pt (a.take k)) (pd:∀(a:List Value) (k:Nat),k%size=0->Pt a->Pt (a.drop k)) (pz:∀k,Pt (Builtin.zeroCells z.cells k).toList) (pn:Pt news) :
   ∃v' w',(Builtin.append_ #[t,t] ty #[v,.slice (some a) m c]).run P w=.ok v' w'/\CR Pt e size w' base v' (n+m) (xs++news)/\w.grownBy w' v.ownBlock/\(v'.ownBlock=v.ownBlock\/v'.ownBlock=some w.heap.size):=by
 subst hsize;subst hby;have hsmall:n+m<=9223372036854775807:=by simp only[maxLen]at h63;omega
 have hlen:(xs++news).length=(n+m)*i.size:=by rw[List.length_append,hown.1,hl,Nat.add_mul]
 have hxn:=hown.lrow.isNLs;have hxp:Pt xs:=by
   rcases hown.2 with ⟨-,h0⟩|⟨g,cap,cur,-,-,-,-,-,-,ht,-,hp⟩
   · have:xs=[]:=List.eq_nil_of_length_eq_zero (by rw[hown.1,h0,Nat.zero_mul]);rw[this];exact p0
   · rw[<-ht];exact pt _ _ hp
 have hzz:∀k,Cw (Builtin.zeroCells z.cells k).toList:=by intro k u hu;have h2:u∈(Builtin.zeroCells z.cells k):=(by simpa using hu);unfold Builtin.zeroCells at h2;obtain ⟨q,-,hq⟩:=Array.mem_map.1 h2;have hlt:q%z.cells.size<z.cells.size:=Nat.mod_lt _ (by omega);rw[getElem!_pos z.cells _ hlt]at hq;exact hzn u (by rw[<-hq];simp)
 have grown:∀(old:Nat),old<n+m->∀(row:Option Nat),
     CR Pt e i.size (w.drew.alloc (.cells (xs.toArray++news.toArray++Builtin.zeroCells z.cells (grownCap w (n+m) old e-(n+m))) e)) base
       (.slice (some ⟨w.heap.size,0,none⟩) (n+m) (grownCap w (n+m) old e)) (n+m) (xs++news) /\
     w.grownBy (w.drew.alloc (.cells (xs.toArray++news.toArray++Builtin.zeroCells z.cells (grownCap w (n+m) old e-(n+m))) e)) row:=by
   intro old ho row;have hge:=grownCap_ge w (n+m) old e;have hcm:grownCap w (n+m) old e<=maxLen:=grownCap_le_maxLen w (n+m) old e h63;refine ⟨⟨hlen,.inr ⟨w.heap.size,_,_,rfl,hbase,heap_alloc_new w.drew _,hge,hcm,?_,?_,?_,?_⟩⟩,⟨rfl,rfl,rfl,by simp,fun k hk _=>Below.heap_alloc w.drew _ k hk⟩⟩
   · simp only[Array.size_append,List.size_toArray,size_zeroCells,hzs,hown.1,hl,<-Nat.add_mul];congr 1
     omega
   · simp only[Array.toList_append,List.append_assoc];rw[<-List.append_assoc,<-hlen];exact List.take_left
   · simp only[Array.toList_append];exact (hxn.append hnn).append (hzz _)
   · simp only[Array.toList_append];exact pa _ _ (by show (xs++news).length%i.size=0;rw[hlen];exact Nat.mul_mod_left _ _) (pa _ _ (by show xs.length%i.size=0;rw[hown.1];exact Nat.mul_mod_left _ _) hxp pn) (pz _)
 rcases hown.2 with ⟨rfl,rfl⟩|⟨g,cap,cur,rfl,hbg,hg,hnc,hcm,hcs,htake,hcn,hcp⟩
 · have hx:xs=[]:=List.eq_nil_of_length_eq_zero (by simpa using hown.1);subst hx;by_cases hm:m=0
   · subst hm;have hn:news=[]:=List.eq_nil_of_length_eq_zero (by simpa using hl);subst hn;refine ⟨.slice none 0 0,w,?_,CR.nil Pt e i.size w base,⟨rfl,rfl,rfl,Nat.le_refl _,fun _ _ _=>rfl⟩,.inl rfl⟩;simp[Builtin.append_,run_underlying ht,sizeOf,typeInfo,hi,Builtin.lenOf,Builtin.firstCells,loadCells,loadCellsFrom]
   · have hr:=run_append_nil (P:=P) w t ty e i z ht hi hz a m c news hl hnews (by omega) (by omega) (by have hb:=hbytes;simp only[Nat.zero_add]at hb;omega);have hgr:=grown 0 (by omega) (Value.ownBlock (.slice none 0 0));simp only[Nat.zero_add,List.nil_append,Array.empty_append]at hgr ⊢;exact ⟨_,_,hr,hgr.1,hgr.2,.inr rfl⟩
 · by_cases hroom:n+m<=cap
   · have hfit:n*i.size+news.length<=cur.size:=(by rw[hl,hcs,<-Nat.add_mul];exact Nat.mul_le_mul_right _ hroom);have hr:=run_append_room (P:=P) w t ty e i ht hi g n cap cur hg a m c news hl hnews h1 hroom hfit;refine ⟨_,_,hr,⟨hlen,.inr ⟨g,cap,_,rfl,hbg,setRow_heap w g cur _ e _ hg,hroom,hcm,?_,?_,?_,?_⟩⟩,⟨rfl,rfl,rfl,by simp,fun k _ hk=>setRow_other w g k _ (fun e=>hk (by simp[Value.ownBlock,e]))⟩,.inl rfl⟩
     · simp only[List.size_toArray,List.length_append,List.length_take,List.length_drop,Array.length_toList];omega
     · rw[htake,<-hlen];exact List.take_left
     · exact ((hcn.take _).append hnn).append (hcn.drop _)
     · have e1:(cur.toList.take (n*i.size)).length%i.size=0:=(by rw[htake,hown.1];exact Nat.mul_mod_left _ _);refine pa _ _ ?_ (pa _ _ e1 (pt _ _ hcp) pn) (pd _ _ ?_ hcp)
       · rw[htake,hlen];exact Nat.mul_mod_left _ _
       · rw[hl,<-Nat.add_mul];exact Nat.mul_mod_left _ _
   · have holds:∀j u,xs[j]?=some u->w.cell? ((⟨g,0,none⟩:Addr).add j)=some u:=by
       intro j u hu;have hadd:(⟨g,0,none⟩:Addr).add j=⟨g,j,none⟩:=(by unfold Addr.add;split<;>simp_all);rw[hadd,cell_of_row w g j cur e (0,0) hg];rw[<-htake,List.getElem?_take]at hu;split at hu
       · simpa using hu
       · cases hu
     have hr:=run_append_grow (P:=P) w t ty e i z ht hi hz ⟨g,0,none⟩ n cap xs hown.1 holds a m c news hl hnews (by omega) (by omega) (growslice_fits (by omega) hbytes);have hgr:=grown cap (by omega) (Value.ownBlock (.slice (some ⟨g,0,none⟩) n cap));exact ⟨_,_,hr,hgr.1,hgr.2,.inr rfl⟩
end
theorem Gy {P:Program} (Pt:List Value->Prop) {w:World} {ops:Array Oper} {rest:List Oper} {o:Oper} {a:Act} {Q:Exit->Act->World->Prop} (hgd:o.guard=none) (s x:Operand) (t:TypeId)
  (ho:o.op=.call { callee:=.builtin .append,args:=#[s,x],argTypes:=#[t,t] }) (base:Nat) (e:TypeId) (i:TypeInfo) (z:Value) (size bytes:Nat) (ht:P.underlying t=some (.slice e)) (hi:P.info? e=some i) (hz:i.zero=some z)
  (hsize:i.size=size) (hby:i.bytes=bytes) (hzs:z.cells.size=size) (hsz:0<size) (hzn:Cw z.cells.toList)
  (v:Value) (n:Nat) (xs:List Value) (hs:a.eval s=v) (hown:CR Pt e size w base v n xs)
  (ad:Addr) (m c:Nat) (news:List Value) (hx:a.eval x=.slice (some ad) m c) (hl:news.length=m*size) (hnews:∀j u,news[j]?=some u->w.cell? (ad.add j)=some u) (h1:∀u∈news,u.oneCell'=true) (hnn:Cw news)
  (h63:n+m<=maxLen) (hbytes:(n+m)*bytes<=140737488355328) (hbase:base<=w.heap.size)
  (p0:Pt []) (pa:∀a b:List Value,a.length%size=0->Pt a->Pt b->Pt (a++b)) (pt:∀(a:List Value) (k:Nat),Pt a->Pt (a.take k)) (pd:∀(a:List Value) (k:Nat),k%size=0->Pt a->Pt (a.drop k)) (pz:∀k,Pt (Builtin.zeroCells z.cells k).toList) (pn:Pt news)
  (h:∀v' w',CR Pt e size w' base v' (n+m) (xs++news)->w.grownBy w' v.ownBlock->(v'.ownBlock=v.ownBlock\/v'.ownBlock=some w.heap.size)->wpList P ops Q rest (a.put o.dst v') w'):wpList P ops Q (o::rest) a w:=by
 obtain ⟨v',w',hr,h2,h3,h4⟩:=I3 (P:=P) w Pt base t o.type e i z size bytes ht hi hz hsize hby hzs hsz hzn v n xs hown ad m c news hl hnews h1 hnn h63 hbytes hbase p0 pa pt pd pz pn;refine wpList_plain hgd fun K hK=>?_
 unfold Oper.wp;rw[CZ ho hs hx hr];exact hK _ _ (h v' w' h2 h3 h4)
end
section
open Go.RowKit
open Lx Ex
inductive BN (S:Nat->Prop) (w:World):Fm->List Value->Prop where
 |mk (k:Int) (L:List (Int×Int)) (K:Int) (e:Bool) (kids:List Fm) (A:Option Addr) (n c:Nat) (s:Bool) (B:Option Addr) (m d:Nat) (C:Option Addr) (p q b o:Nat) (cs:Nat->List Value) :
  Nu.AW w (.agg #[.slice A n c,.bool s,.slice B m d]) L K 30000->L.length<=200->kids.length=p->p<=q->q<=9223372036854775807 ->
  (0<p->C=some ⟨b,o,none⟩/\S b/\b<w.heap.size) ->
  (∀j,j<p->(cs j).length=6/\∀r u,(cs j)[r]?=some u->w.cell? ⟨b,o+j*6+r,none⟩=some u) ->
  (∀j t,kids[j]?=some t->BN S w t (cs j)) ->
  BN S w (.mk k L K e kids) [.int .i64 k,.slice A n c,.bool s,.slice B m d,.bool e,.slice C p q]
theorem BN.keep {S:Nat->Prop} {w w':World} {t:Fm} {vs:List Value} (h:BN S w t vs) (k:AJ S w w') (kt:∀v L K,Nu.AW w v L K 30000->Nu.AW w' v L K 30000):BN S w' t vs:=by
 induction h with
 |mk kd L K e kids A n c s B m d C p q b o cs h1 h2 h3 h4 h5 h6 h7 _ ih=> refine BN.mk kd L K e kids A n c s B m d C p q b o cs (kt _ _ _ h1) h2 h3 h4 h5 (fun hp=>⟨(h6 hp).1,(h6 hp).2.1,Nat.lt_of_lt_of_le (h6 hp).2.2 k.1⟩) (fun j hj=>⟨(h7 j hj).1,fun r u hu=>?_⟩) ih;obtain ⟨-,hS,hlt⟩:=h6 (by omega);exact (World.cell?_of_block (w:=w) (a:=⟨b,o+j*6+r,none⟩) (k.2 b hS hlt)).trans ((h7 j hj).2 r u hu)
theorem BN.sub {S S':Nat->Prop} {w:World} {t:Fm} {vs:List Value} (h:BN S w t vs) (hB:∀b,b<w.heap.size->S b->S' b):BN S' w t vs:=by
 induction h with
 |mk kd L K e kids A n c s B m d C p q b o cs h1 h2 h3 h4 h5 h6 h7 _ ih=> exact BN.mk kd L K e kids A n c s B m d C p q b o cs h1 h2 h3 h4 h5 (fun hp=>⟨(h6 hp).1,hB b (h6 hp).2.2 (h6 hp).2.1,(h6 hp).2.2⟩) h7 ih
theorem BN.blw {S:Nat->Prop} {w w':World} {t:Fm} {vs:List Value} (h:BN S w t vs) (hb:Below w.heap.size w w'):BN S w' t vs:=h.keep (AJ.of_below hb) (fun _ _ _ h=>h.below hb)
theorem BN.onlyF {S:Nat->Prop} {w w':World} {t:Fm} {vs:List Value} {T:TypeId} {g:Nat} {B C D:Option Addr} {m c d q p r:Nat} {i:Int} {s f:Bool} (h:BN S w t vs) (hb:Am T w g #[.int .i64 i,.slice B m c,.bool s,.slice C q d,.bool f,.slice D p r]) (ho:Ai g w w') (hS:∀b,S b->b≠g):BN S w' t vs:=
 h.keep ⟨ho.size,fun b hb' hlt=>ho.block b hlt (fun e=>hS b hb' (by injection e))⟩ (fun _ _ _ h=>Nu.AW.onlyF h hb ho)
theorem BN.shape {S:Nat->Prop} {w:World} {t:Fm} {vs:List Value} (h:BN S w t vs):∃(k:Int) (A:Option Addr) (n c:Nat) (s:Bool) (B:Option Addr) (m d:Nat) (f:Bool) (C:Option Addr) (p q:Nat),vs=[.int .i64 k,.slice A n c,.bool s,.slice B m d,.bool f,.slice C p q]:=by cases h;exact ⟨_,_,_,_,_,_,_,_,_,_,_,_,rfl⟩
theorem BN.len {S:Nat->Prop} {w:World} {t:Fm} {vs:List Value} (h:BN S w t vs):vs.length=6:=by cases h;rfl
theorem BN.nokids (S:Nat->Prop) {w:World} {k:Int} {L:List (Int×Int)} {K:Int} {e:Bool} {A:Option Addr} {n c:Nat} {s:Bool} {B:Option Addr} {m d:Nat} (h:Nu.AW w (.agg #[.slice A n c,.bool s,.slice B m d]) L K 30000) (hl:L.length<=200) :
  BN S w (.mk k L K e []) [.int .i64 k,.slice A n c,.bool s,.slice B m d,.bool e,.slice none 0 0]:=
 BN.mk k L K e [] A n c s B m d none 0 0 0 0 (fun _=>[]) h hl rfl (Nat.le_refl _) (by omega) (fun h=>absurd h (by omega)) (fun j h=>absurd h (by omega)) (fun j t h=>by simp at h)
theorem JY (w:World) (k:Nat):Nu.AW w (.agg #[.slice none 0 0,.bool false,.slice none 0 0]) [] 0 k:=(Gv w k).in_
def Eh (l:List Value):Prop:=∀j u,l[j]?=some u->(j%6≠0->∀z,u≠.int .i64 z)/\(j%6=1->∀b,u≠.bool b)
theorem Eh.nil:Eh []:=fun j u h=>by simp at h
theorem Eh.app (a b:List Value) (ha:a.length%6=0) (h1:Eh a) (h2:Eh b):Eh (a++b):=by
 intro j u hu;rcases Nat.lt_or_ge j a.length with hj|hj
 · rw[List.getElem?_append_left hj]at hu;exact h1 j u hu
 · rw[List.getElem?_append_right hj]at hu;have:=h2 _ u hu;have e:(j-a.length)%6=j%6:=(by omega);rw[e]at this;exact this
theorem Eh.take (a:List Value) (k:Nat) (h:Eh a):Eh (a.take k):=by
 intro j u hu;rw[List.getElem?_take]at hu;split at hu
 · exact h j u hu
 · cases hu
theorem Eh.drop (a:List Value) (k:Nat) (hk:k%6=0) (h:Eh a):Eh (a.drop k):=by
 intro j u hu;rw[List.getElem?_drop]at hu;have:=h _ u hu;have e:(k+j)%6=j%6:=by omega
 rw[e]at this;exact this
theorem Eh.six (i:Int) (A B C:Option Addr) (n c m d p q:Nat) (s f:Bool):Eh [.int .i64 i,.slice A n c,.bool s,.slice B m d,.bool f,.slice C p q]:=by
 intro j u hu;match j,hu with
 |0,hu=>simp at hu;subst hu;exact ⟨(fun h=>absurd rfl h),(fun h=>by omega)⟩
 |1,hu=>simp at hu;subst hu;exact ⟨(fun _ z h=>by cases h),(fun _ b h=>by cases h)⟩
 |2,hu=>simp at hu;subst hu;exact ⟨(fun _ z h=>by cases h),(fun h=>by omega)⟩
 |3,hu=>simp at hu;subst hu;exact ⟨(fun _ z h=>by cases h),(fun h=>by omega)⟩
 |4,hu=>simp at hu;subst hu;exact ⟨(fun _ z h=>by cases h),(fun h=>by omega)⟩
 |5,hu=>simp at hu;subst hu;exact ⟨(fun _ z h=>by cases h),(fun h=>by omega)⟩
 |j+6,hu=>simp at hu
theorem Eh.zero (k:Nat):Eh (Builtin.zeroCells (Value.cells (.agg #[.int .i64 0,.slice none 0 0,.bool false,.slice none 0 0,.bool false,.slice none 0 0])) k).toList:=by
 intro j u hu;unfold Builtin.zeroCells at hu;simp only[Value.cells,Array.toList_map,Array.toList_range,List.getElem?_map]at hu;obtain ⟨q,hq,rfl⟩:=Option.map_eq_some_iff.1 hu;have hqj:q=j:=by have:=List.getElem?_eq_some_iff.1 hq;obtain ⟨h1,h2⟩:=this;rw[List.getElem_range]at h2;exact h2.symm
 subst hqj;show (q%6≠0->_)/\(q%6=1->_);have hlt:q%6<6:=Nat.mod_lt _ (by decide);generalize hr:q%6=r at *;clear hu;match r,hlt with
 |0,_=>exact ⟨(fun h=>absurd rfl h),(fun h=>by omega)⟩
 |1,_=>exact ⟨(fun _ z h=>by cases h),(fun _ b h=>by cases h)⟩
 |2,_=>exact ⟨(fun _ z h=>by cases h),(fun h=>by omega)⟩
 |3,_=>exact ⟨(fun _ z h=>by cases h),(fun h=>by omega)⟩
 |4,_=>exact ⟨(fun _ z h=>by cases h),(fun h=>by omega)⟩
 |5,_=>exact ⟨(fun _ z h=>by cases h),(fun h=>by omega)⟩
abbrev NU:=CR Eh 61 6
theorem RP {w w':World} {base n:Nat} {v u:Value} {xs:List Value} {L:List (Int×Int)} {K:Int} {k:Nat} (hr:NU w base v n xs) (g:w.grownBy w' v.ownBlock) (h:Nu.AW w u L K k):Nu.AW w' u L K k:=by
 rcases hr.2 with ⟨rfl,-⟩|⟨gb,cap,cur,rfl,hb,hg,h1,h2,h3,h4,h5,hp⟩
 · exact h.below ⟨g.os,g.tape,g.output,g.size,fun k hk=>g.block k hk (fun h=>by cases h)⟩
 · have ho:Nu.Ai gb w w':=g;have hk:Nu.Kp w w':=Nu.Kp.block hg h5 ho;obtain ⟨A,m,c,s,B,q,d,e,i1,i2,i3,i4⟩:=h;refine ⟨A,m,c,s,B,q,d,e,i1.keep ho hk (fun hn ad had he=>?_),i2,i3,i4.kp hk⟩;obtain ⟨ps,hps,-⟩:=i1;obtain ⟨b2,o,e2,hc⟩:=hps.2.1 hn;have hl:0<ps.length:=(by rw[hps.1];exact hn);obtain ⟨q0,q1,-⟩:=Nu.flat_get ps 0 ps[0] (List.getElem?_eq_getElem hl);have c0:=hc 0 _ q0;have c1:=hc 1 _ q1;rw[had]at e2;injection e2 with e2
   subst e2;have he':b2=gb:=he;subst he';rw[cell_of_row w b2 _ _ _ _ hg]at c0 c1;have p0:=hp (o+0) _ (by simpa using c0);have p1:=hp (o+1) _ (by simpa using c1);by_cases hm:o%6=0
   · exact p1.2 (by omega) _ rfl
   · exact p0.1 (by omega) _ rfl
def KL (S:Nat->Prop) (w:World) (base:Nat) (v:Value) (fs:List Fm):Prop:=∃css:List (List Value),NU w base v fs.length css.flatten/\css.length=fs.length/\(∀cs∈css,cs.length=6)/\∀(j:Nat) (t:Fm),fs[j]?=some t->∃cs:List Value,css[j]?=some cs/\BN S w t cs
theorem Yl {css:List (List Value)} (h:∀cs∈css,cs.length=6):∀(j:Nat) (cs:List Value),css[j]?=some cs->∀r,r<6->css.flatten[j*6+r]?=cs[r]?:=by
 induction css with
 |nil=>intro j cs hj;simp at hj
 |cons c css ih=>
  intro j cs hj r hr;have hc:=h c (List.mem_cons_self ..);cases j with
  |zero=>
   simp only[List.getElem?_cons_zero,Option.some.injEq]at hj;subst hj;rw[List.flatten_cons,Nat.zero_mul,Nat.zero_add,List.getElem?_append_left (by omega)]
  |succ j=>
   rw[List.getElem?_cons_succ]at hj;have:=ih (fun x hx=>h x (List.mem_cons_of_mem _ hx)) j cs hj r hr;rw[List.flatten_cons,List.getElem?_append_right (by omega),hc,<-this];congr 1
   omega
theorem KL.nil (S:Nat->Prop) (w:World) (base:Nat):KL S w base (.slice none 0 0) []:=⟨[],CR.nil _ _ _ _ _,rfl,(fun _ h=>by cases h),(fun j t h=>by simp at h)⟩
theorem KL.keep {S:Nat->Prop} {w w':World} {base:Nat} {v:Value} {fs:List Fm} (h:KL S w base v fs) (hr:∀xs,NU w base v fs.length xs->NU w' base v fs.length xs) (k:AJ S w w') (kt:∀v L K,Nu.AW w v L K 30000->Nu.AW w' v L K 30000):KL S w' base v fs:=by obtain ⟨css,h1,h2,h3,h4⟩:=h;exact ⟨css,hr _ h1,h2,h3,fun j t ht=>by obtain ⟨cs,e1,e2⟩:=h4 j t ht;exact ⟨cs,e1,e2.keep k kt⟩⟩
theorem KL.add {U:Nat->Prop} {w w':World} {base:Nat} {v v':Value} {fs:List Fm} {css:List (List Value)} {F:Fm} {cs:List Value} (h1:NU w base v fs.length css.flatten) (h2:css.length=fs.length) (h3:∀cs∈css,cs.length=6)
   (h4:∀(j:Nat) (t:Fm),fs[j]?=some t->∃cs:List Value,css[j]?=some cs/\BN (fun b=>U b/\some b≠v.ownBlock) w t cs) (hF:BN (fun b=>U b/\some b≠v.ownBlock) w F cs)
   (hl:NU w' base v' (fs.length+1) (css.flatten++cs)) (hg:w.grownBy w' v.ownBlock) (ho:v'.ownBlock=v.ownBlock\/v'.ownBlock=some w.heap.size):KL (fun b=>U b/\some b≠v'.ownBlock) w' base v' (fs++[F]):=by
 have kp:∀(t:Fm) (cs:List Value),BN (fun b=>U b/\some b≠v.ownBlock) w t cs->BN (fun b=>U b/\some b≠v'.ownBlock) w' t cs:=fun t cs h=>
   ((
     h.sub (S':=fun b=>(U b/\some b≠v.ownBlock)/\some b≠v'.ownBlock) (fun b hb hs=>⟨hs,fun e=>by
     rcases ho with ho|ho
     · rw[ho]at e;exact hs.2 e
     · rw[ho]at e;injection e with e;omega⟩)).keep ⟨hg.size,fun b hb hlt=>hg.block b hlt hb.1.2⟩ (fun _ _ _ h=>RP h1 hg h)).sub (fun b _ hs=>⟨hs.1.1,hs.2⟩)
 refine ⟨css++[cs],?_,by simp[h2],fun x hx=>?_,fun j t ht=>?_⟩
 · rw[List.flatten_append,List.length_append];simpa using hl
 · rcases List.mem_append.1 hx with hx|hx
   · exact h3 x hx
   · obtain rfl:=List.mem_singleton.1 hx;exact hF.len
 · rcases Nat.lt_or_ge j fs.length with hj|hj
   · rw[List.getElem?_append_left hj]at ht;obtain ⟨c,e1,e2⟩:=h4 j t ht;exact ⟨c,by rw[List.getElem?_append_left (by omega)];exact e1,kp _ _ e2⟩
   · rw[List.getElem?_append_right hj]at ht;have hj0:j-fs.length=0:=by
       have:=(List.getElem?_eq_some_iff.1 ht).1;simp at this;omega
     rw[hj0]at ht;simp only[List.getElem?_cons_zero,Option.some.injEq]at ht;subst ht;exact ⟨cs,by rw[List.getElem?_append_right (by omega),show j-css.length=0 from by omega];rfl,kp _ _ hF⟩
theorem BN.kids {S:Nat->Prop} {w:World} {base:Nat} {C:Option Addr} {q:Nat} {fs:List Fm} (k:Int) (h:∃css:List (List Value),Ak 61 6 w base (.slice C fs.length q) fs.length css.flatten/\css.length=fs.length/\(∀cs∈css,cs.length=6)/\∀(j:Nat) (t:Fm),fs[j]?=some t->∃cs:List Value,css[j]?=some cs/\BN S w t cs) (hS:∀b,base<=b->S b):BN S w (Cx k fs) [.int .i64 k,.slice none 0 0,.bool false,.slice none 0 0,.bool false,.slice C fs.length q]:=by
 obtain ⟨css,h1,h2,h3,h4⟩:=h;obtain ⟨A,c,e,h5,h6,-⟩:=h1.len;injection e with e1 e2 e3
 subst e1 e3;by_cases hn:0<fs.length
 · obtain ⟨g,rfl,hb,hlt,hc⟩:=h1.cell hn;refine BN.mk k [] 0 false fs none 0 0 false none 0 0 _ fs.length q g 0 (fun j=>css.getD j []) (JY w _) (Nat.zero_le _) rfl h5 h6 (fun _=>⟨rfl,hS g hb,hlt⟩) (fun j hj=>?_) (fun j t ht=>?_)
   · have hj':j<css.length:=(by omega);have e1:css[j]?=some css[j]:=List.getElem?_eq_getElem hj';have e2:css.getD j []=css[j]:=(by rw[List.getD_eq_getElem?_getD,e1];rfl);have h6':=h3 _ (List.getElem_mem hj');rw[e2];refine ⟨h6',fun r u hu=>?_⟩;have hr:r<6:=(by have:=(List.getElem?_eq_some_iff.1 hu).1;omega);rw[Nat.zero_add];exact (hc _ u ((Yl h3 j _ e1 r hr).trans hu)).1
   · obtain ⟨cs,e1,e2⟩:=h4 j t ht;show BN S w t (css.getD j []);rw[List.getD_eq_getElem?_getD,e1];exact e2
 · have h0:fs=[]:=List.eq_nil_of_length_eq_zero (by omega);subst h0;exact BN.mk k [] 0 false [] none 0 0 false none 0 0 C 0 q 0 0 (fun _=>[]) (JY w _) (Nat.zero_le _) rfl (Nat.zero_le _) h6 (fun h=>absurd h (by omega)) (fun j h=>absurd h (by omega)) (fun j t h=>by simp at h)
def VD (F:Fm) (w:World) (e:Ending) (w':World):Prop:=∃(k:Int) (A:Option Addr) (n c:Nat) (s:Bool) (B:Option Addr) (m d:Nat) (f:Bool) (C:Option Addr) (p q:Nat),e=.returned (.agg #[.int .i64 k,.slice A n c,.bool s,.slice B m d,.bool f,.slice C p q])/\BN (BG w.heap.size) w' F [.int .i64 k,.slice A n c,.bool s,.slice B m d,.bool f,.slice C p q]/\Below w.heap.size w w'
def RQ (r:Option Fm) (w:World) (e:Ending) (w':World):Prop:=∃(k:Int) (A:Option Addr) (n c:Nat) (s:Bool) (B:Option Addr) (m d:Nat) (f:Bool) (C:Option Addr) (p q:Nat),e=.returned (.tuple #[.agg #[.int .i64 k,.slice A n c,.bool s,.slice B m d,.bool f,.slice C p q],.bool r.isSome])/\(∀F,r=some F->BN (BG w.heap.size) w' F [.int .i64 k,.slice A n c,.bool s,.slice B m d,.bool f,.slice C p q])/\Below w.heap.size w w'
theorem Sk.st {L:List (Int×Int)} {K:Int} {fl:Bool} {k:Nat} {w w':World} {e:Ending} (h:Sk L K fl k w e w') (hk:k<=30000) (hl:L.length<=200):VD (Ib L K fl) w e w':=by obtain ⟨A,n,c,s,B,m,d,rfl,h1,h2⟩:=h;exact ⟨_,A,n,c,s,B,m,d,fl,none,0,0,rfl,BN.nokids _ (h1.mono hk).in_ hl,h2⟩
theorem Wh.st {L:List (Int×Int)} {K:Int} {fl:Bool} {k:Nat} {w w':World} {e:Ending} (h:Wh L K fl k w e w') (hk:k<=30000) (hl:L.length<=200):VD (Cx 3 [Ib L K fl]) w e w':=by
 obtain ⟨A,n,c,s,B,m,d,C,q,rfl,h1,h2,h3⟩:=h;refine ⟨_,none,0,0,false,none,0,0,false,C,1,q,rfl,BN.kids (base:=w.heap.size) (fs:=[Ib L K fl]) 3 ⟨[_],by rw[List.flatten_cons,List.flatten_nil,List.append_nil];exact h1,rfl,fun cs hc=>?_,fun j t ht=>?_⟩ (fun b h=>h),h3⟩
 · obtain rfl:=List.mem_singleton.1 hc;rfl
 · match j,ht with
   |0,ht=>
    simp only[List.getElem?_cons_zero,Option.some.injEq]at ht;subst ht;exact ⟨_,rfl,BN.nokids _ (h2.mono hk).in_ hl⟩
   |j+1,ht=>simp at ht
theorem Pv (v u:Value) (o:Nat) (ho:o<6) (L M:List (Int×Int)) (K J:Int) (w0:World) (hv:Nu.AW w0 v L K 9000) (hu:Nu.AW w0 u M J 9000) (hl:L.length<=64) (hm:M.length<=64):Calls Tryz.prog 110 #[.int .i64 (o:Int),v,u] w0 (VD (U5 o L M K J) w0):=by
 have n1:(BQ L M).length<=128:=Eg _ _ (by omega);have n2:(BQ M L).length<=128:=Eg _ _ (by omega);match o,ho with
 |0,_=>exact (LC v u L M K J w0 hv hu hl hm).mono fun e w h=>h.st (by decide) (Nat.le_trans (Bd _ (Bd _ n1)) (by decide))
 |1,_=>exact (RN v u L M K J w0 hv hu hl hm).mono fun e w h=>h.st (by decide) (Nat.le_trans (Bd _ (Bd _ (Bd _ n1))) (by decide))
 |2,_=>exact (LE v u L M K J w0 hv hu hl hm).mono fun e w h=>h.st (by decide) (Nat.le_trans (Bd _ (Bd _ (Eg _ _ (by simpa using n2)))) (by decide))
 |3,_=>exact (LD v u L M K J w0 hv hu hl hm).mono fun e w h=>h.st (by decide) (Nat.le_trans (Bd _ (Bd _ n2)) (by decide))
 |4,_=>exact (RF v u L M K J w0 hv hu hl hm).mono fun e w h=>h.st (by decide) (Nat.le_trans (Bd _ (Bd _ (Eg _ _ (by simpa using n1)))) (by decide))
 |5,_=>exact (RG v u L M K J w0 hv hu hl hm).mono fun e w h=>h.st (by decide) (Nat.le_trans (Bd _ (Bd _ n1)) (by decide))
end
end Go.Proofs.YtgohmojcopajoaaGreatDoor
