/- Texts of one seat, put together: Saying. -/
import Derived.Test.YtemfjdedjcjegaaGreatDoorL16
import Derived.Test.YtemfjdedjcjegaaGreatDoorL19
import Derived.Test.YtemfjdedjcjegaaGreatDoorL20
import Derived.Test.YtemfjdedjcjegaaGreatDoorL22
import Derived.Test.YtemfjdedjcjegaaGreatDoorL23
import Derived.Test.YtemfjdedjcjegaaGreatDoorL25
set_option linter.unusedVariables false
set_option linter.unusedSimpArgs false
set_option maxRecDepth 100000
set_option maxHeartbeats 16000000
namespace Go.Proofs.YtemfjdedjcjegaaGreatDoor
section
open Go.RowKit
open Tm
theorem IY {f:Nat} {args:Array Value} {w:World} {z:Bool} (r:Bool) (h:Calls Tryz.prog f args w (fun e w'=>e=.returned (.bool z)/\Below w.heap.size w w')) (hz:z=r):Calls Tryz.prog f args w (fun e w'=>e=.returned (.bool r)/\Below w.heap.size w w'):=hz▸h
theorem Se {f:Nat} {args:Array Value} {w:World} {z:Int} (r:Int) (h:Calls Tryz.prog f args w (fun e w'=>e=.returned (.int .i64 z)/\Below w.heap.size w w')) (hz:z=r):Calls Tryz.prog f args w (fun e w'=>e=.returned (.int .i64 r)/\Below w.heap.size w w'):=hz▸h
theorem CY.empty (w:World):CY w none 0 [] 0:=⟨rfl,fun h=>absurd h (by omega),fun p hp=>by cases hp⟩
theorem CY.one {w:World} {g m1 d1 k:Nat} {s1:Bool} {B1:Option Addr} {Z:Int} (x:Aw 31 w g #[.bool s1,.slice B1 m1 d1]) (h1:Au w (.agg #[.bool s1,.slice B1 m1 d1]) Z k) :
  CY w (some ⟨g,0,none⟩) 1 [⟨s1,B1,m1,d1,Z⟩] k:=
 ⟨rfl,fun _=>⟨g,0,rfl,fun j u hu=>by rw[Nat.zero_add];exact x.cell j u (by simpa[JP,IV.cells] using hu)⟩,fun p hp=>by
  simp only[List.mem_cons,List.not_mem_nil,or_false]at hp;subst hp;exact h1.in_⟩
theorem Ce.one {w:World} {g n1 c1 m1 d1 k:Nat} {s1:Bool} {A1 B1:Option Addr} {L:List (Int×Int)} {K:Int} (x:Aw 33 w g #[.slice A1 n1 c1,.bool s1,.slice B1 m1 d1]) (h1:An w (.agg #[.slice A1 n1 c1,.bool s1,.slice B1 m1 d1]) L K k) :
  Ce w (some ⟨g,0,none⟩) 1 [⟨A1,n1,c1,s1,B1,m1,d1,L,K⟩] k:=
 Ce.box (ts:=[⟨A1,n1,c1,s1,B1,m1,d1,L,K⟩]) x (fun t ht=>by
  simp only[List.mem_cons,List.not_mem_nil,or_false]at ht;subst ht;exact h1.in_)
theorem J7 (v:Value) (g k:Nat) (w:World) (hv:JW w v [(0,1)] (-2) false k) (hk:k<=1000) (hx:Aw 9 w g #[.string ⟨#[120]⟩]):Calls Tryz.prog 20 #[v,.slice (some ⟨g,0,none⟩) 1 1] w (fun e w'=>e=.returned (.string ⟨#[120,32,45,32,50,32,62,61,32,48]⟩)/\Below w.heap.size w w'):=by
 have hE:Dz (fun _=>[120]) (norm [(0,1)]) (-2)=[120,32,45,32,50]:=by decide +kernel
 have hN:norm [(0,(1:Int))]=[(0,1)]:=by decide
 have h:=Ml v [(0,1)] (-2) false k (some ⟨g,0,none⟩) 1 1 (fun _=>[120]) w hv (by decide) (by omega) (fun p hp W hb=>by
  rw[hN]at hp;simp only[List.mem_cons,List.not_mem_nil,or_false]at hp;subst hp;exact Sa (some ⟨g,0,none⟩) 1 1 0 [⟨#[120]⟩] ⟨#[120]⟩ W ⟨rfl,fun _=>⟨g,0,rfl,fun j s hs=>by
   cases j with
   |zero=>simp at hs;subst hs;exact (hx.below hb hx.lt).cell 0 _ rfl
   |succ j=>simp at hs⟩⟩ (by decide) rfl) (by rw[hE];decide)
 rw[hE]at h;exact h
theorem Nx (w0:World):Calls Tryz.prog 5 #[] w0 (Ef w0):=by
 have y1:=Ae w0 (.cells #[.int .i64 4] 2);have hx0:EX (w0.alloc (.cells #[.int .i64 4] 2)) (some ⟨w0.heap.size,0,none⟩) 1 [4]:=(Aw.new 2 w0 (ints [4]).toArray).ints;have hof:=Bq (-6) (some ⟨w0.heap.size,0,none⟩) 1 1 [4] _ hx0 (by decide) (by decide) (by decide) (by decide);have HB0:=Ad y1;clear hx0 y1;go_enter Tryz.func5,Tryz.ntmps5;go_wp2_with fail;refine hof.mono ?_;rintro e w1 ⟨v1,rfl,r1,b1⟩;have hle:=Bj v1 (BU [4]) (-6) 2 w1 r1.in_ (by decide) (by decide)
 have HB1:=Ad (HB0.out.next b1);clear hof r1 b1;go_wp2_with fail;refine hle.mono ?_;rintro e w2 ⟨v2,rfl,r2,b2⟩;have hti:=Cn v2 (norm (BU [4])) (-6) false 3 w2 r2.in_ (by decide) (by decide);have HB2:=Ad (HB1.out.next b2);clear hle r2 b2;go_wp2_with fail;refine hti.mono ?_;rintro e w3 ⟨v3,rfl,r3,b3⟩
 have r4:=(r3.ofEq (show IJ (norm (BU [4])) (-6) false=[(0,1)] by decide +kernel) (show J0 (norm (BU [4])) (-6) false=-2 by decide +kernel) (show EQ (norm (BU [4])) (-6) false=false by decide +kernel)).mono (show _<=9 by decide);rw[show AM (norm (BU [4])) (-6) false=0 by decide +kernel];have HB3:=Ad (HB2.out.next b3);clear hti r3 b3;obtain ⟨Ar,nr,cr,sr,Br,mr,dr,rfl,t4⟩:=r4;obtain ⟨p0,p1,-⟩:=AV 35 w3 #[.slice Ar nr cr,.bool sr,.slice Br mr dr,.bool false]
 have HR:=Ad (show BO _ (.agg #[.slice Ar nr cr,.bool sr,.slice Br mr dr,.bool false]) [(0,1)] (-2) false 9 from ⟨_,_,_,_,_,_,_,rfl,t4.below p1⟩);have HX:=Ad p0;have HB4:=Ad (HB3.out.next p1);clear t4 p0 p1;have y5:=Ae (w3.alloc (.cells #[.slice Ar nr cr,.bool sr,.slice Br mr dr,.bool false] 35)) (.cells #[.int .i64 4] 2)
 have hx5:EX ((w3.alloc (.cells #[.slice Ar nr cr,.bool sr,.slice Br mr dr,.bool false] 35)).alloc (.cells #[.int .i64 4] 2)) (some ⟨(w3.alloc (.cells #[.slice Ar nr cr,.bool sr,.slice Br mr dr,.bool false] 35)).heap.size,0,none⟩) 1 [4]:=(Aw.new 2 _ (ints [4]).toArray).ints;rw[size_alloc]at hx5;have hof:=Bq (-6) _ 1 1 [4] _ hx5 (by decide) (by decide) (by decide) (by decide);have HR:=Ad (HR.out.below y5);have HX:=Ad (HX.out.next y5);have HB5:=Ad (HB4.out.next y5);clear hx5 y5
 go_wp2_with fail;refine hof.mono ?_;rintro e w4 ⟨v4,rfl,r4,b4⟩;have hze:=GG v4 (BU [4]) (-6) 2 w4 r4.in_ (by decide) (by decide);have HR:=Ad (HR.out.below b4);have HX:=Ad (HX.out.next b4);have HB6:=Ad (HB5.out.next b4);clear hof r4 b4;go_wp2_with fail;refine hze.mono ?_;rintro e w5 ⟨v5,rfl,r5,b5⟩;have hti:=Cn v5 (norm (BU [4])) (-6) true 3 w5 r5.in_ (by decide) (by decide);have HR:=Ad (HR.out.below b5);have HX:=Ad (HX.out.next b5);have HB7:=Ad (HB6.out.next b5)
 clear hze r5 b5;go_wp2_with fail;refine hti.mono ?_;rintro e w6 ⟨v6,rfl,r6,b6⟩;rw[show AM (norm (BU [4])) (-6) true=-1 by decide +kernel];obtain ⟨A6,n6,c6,s6,B6,m6,d6,rfl,-⟩:=r6;have y6:=Ae w6 (.cells #[.slice A6 n6 c6,.bool s6,.slice B6 m6 d6,.bool (EQ (norm (BU [4])) (-6) true)] 35);have HR:=Ad ((HR.out.below b6).below y6);have HX:=Ad ((HX.out.next b6).next y6);have HB8:=Ad ((HB7.out.next b6).next y6);clear hti b6 y6
 have hof:=fun W=>Bq 3 none 0 0 [] W (EX.none W) (by decide) (by decide) (by decide) (by decide)
 go_wp2_with fail;refine (hof _).mono ?_;rintro e w7 ⟨v7,rfl,r7,b7⟩;have hle:=Bj v7 (BU []) 3 2 w7 r7.in_ (by decide) (by decide);have HR:=Ad (HR.out.below b7);have HX:=Ad (HX.out.next b7);have HB9:=Ad (HB8.out.next b7);clear hof r7 b7;go_wp2_with fail;refine hle.mono ?_;rintro e w8 ⟨v8,rfl,r8,b8⟩;have hti:=Cn v8 (norm (BU [])) 3 false 2 w8 r8.in_ (by decide) (by decide);have HR:=Ad (HR.out.below b8);have HX:=Ad (HX.out.next b8);have HB10:=Ad (HB9.out.next b8);clear hle r8 b8
 go_wp2_with fail;refine hti.mono ?_;rintro e w9 ⟨v9,rfl,r9,b9⟩;rw[show AM (norm (BU [])) 3 false=1 by decide +kernel];obtain ⟨A9,n9,c9,s9,B9,m9,d9,rfl,-⟩:=r9;have y9:=Ae w9 (.cells #[.slice A9 n9 c9,.bool s9,.slice B9 m9 d9,.bool (EQ (norm (BU [])) 3 false)] 35);have HR:=Ad ((HR.out.below b9).below y9);have HX:=Ad ((HX.out.next b9).next y9);have HB11:=Ad ((HB10.out.next b9).next y9);clear hti b9 y9;go_upto_region 4 with fail
 (try simp only[List.append_eq,List.cons_append,List.nil_append])
 generalize hW:(w9.alloc (.cells #[.slice A9 n9 c9,.bool s9,.slice B9 m9 d9,.bool (EQ (norm (BU [])) 3 false)] 35))=W0 at *;clear hW;obtain ⟨gr,hgr⟩:∃gr,gr=w3.heap.size:=⟨_,rfl⟩;rw[<-hgr]at HX ⊢;clear hgr
 have SOF:=Ad (show ∀W,Below W0.heap.size W0 W->(W.cell? ⟨gr,0,none⟩=some (.slice Ar nr cr)/\W.cell? ⟨gr,1,none⟩=some (.bool sr)/\W.cell? ⟨gr,2,none⟩=some (.slice Br mr dr)/\W.cell? ⟨gr,3,none⟩=some (.bool false)) from fun W h=>⟨(HX.out.next h).r0,(HX.out.next h).r1,(HX.out.next h).r2,(HX.out.next h).r3⟩)
 refine BC (by kernel_rfl) (by kernel_rfl) (by kernel_rfl) (fun w w'=>Below w.heap.size w w') (fun j v w=>match j with|0=>v=.agg #[.slice Ar nr cr,.bool sr,.slice Br mr dr,.bool false]|1=>∃g,v=.slice (some ⟨g,0,none⟩) 1 1/\Aw 2 w g (ints [1]).toArray|2=>An w v (BU [1]) (-2) 2|3=>BO w v (BU [1]) (-2) false 2|4=>v=.bool true|5=>v=.bool true|6=>v=.int .i64 0|7=>v=.bool true|8=>v=.bool true|9=>v=.bool true|10=>v=.int .i64 (-1)|11=>v=.bool true|12=>v=.bool true|13=>v=.bool true|14=>v=.int .i64 1|15=>v=.bool true|16=>v=.bool true|17=>v=.bool true|18=>v=.agg #[.slice Ar nr cr,.bool sr,.slice Br mr dr,.bool false]|19=>Au w v 2 2|20=>∃g s1 B1 m1 d1,v=.slice (some ⟨g,0,none⟩) 1 1/\Aw 31 w g #[.bool s1,.slice B1 m1 d1]/\Au w (.agg #[.bool s1,.slice B1 m1 d1]) 2 2|21=>v=.bool true|22=>v=.bool true|23=>v=.bool true|24=>v=.agg #[.slice Ar nr cr,.bool sr,.slice Br mr dr,.bool false]|25=>v=.bool false|26=>v=.bool true|27=>v=.bool true|28=>v=.bool true|29=>v=.agg #[.slice Ar nr cr,.bool sr,.slice Br mr dr,.bool false]|30=>v=.agg #[.slice Ar nr cr,.bool sr,.slice Br mr dr,.bool false]|31=>v=.bool true|32=>v=.bool true|33=>v=.bool true|34=>An w v (BU []) 1 2|35=>BO w v (norm (BU [])) 1 false 2|36=>An w v (BU []) 2 2|37=>BO w v (norm (BU [])) 2 false 2|38=>v=.int .i64 (-1)|39=>v=.bool true|40=>v=.bool true|41=>v=.bool true|42=>v=.agg #[.slice Ar nr cr,.bool sr,.slice Br mr dr,.bool false]|43=>∃g,v=.slice (some ⟨g,0,none⟩) 1 1/\Aw 9 w g #[.string ⟨#[120]⟩]|44=>v=.string ⟨#[120,32,45,32,50,32,62,61,32,48]⟩|45=>v=.bool true|46=>v=.bool true|47=>v=.bool true|48=>∃g,v=.slice (some ⟨g,0,none⟩) 1 1/\Aw 2 w g (ints [1]).toArray|49=>An w v (BU [1]) 0 2|50=>BO w v (norm (BU [1])) 0 true 3|51=>∃A c,v=.slice A 2 c|52=>v=.int .i64 2|53=>v=.bool true|54=>v=.bool true|55=>v=.bool true|56=>v=.agg #[.slice Ar nr cr,.bool sr,.slice Br mr dr,.bool false]|57=>An w v (BU []) 5 2|58=>BO w v (BU []) 3 false 1010011|59=>An w v (BU []) 3 2|60=>BO w v (BU []) (3) false 2|61=>v=.bool true|62=>v=.bool true|63=>v=.bool true|64=>v=.agg #[.slice Ar nr cr,.bool sr,.slice Br mr dr,.bool false]|65=>∃g,v=.slice (some ⟨g,0,none⟩) 1 1/\Aw 3 w g (ints [0]).toArray|66=>An w v (BU []) 5 2|67=>∃g A1 n1 c1 s1 B1 m1 d1,v=.slice (some ⟨g,0,none⟩) 1 1/\Aw 33 w g #[.slice A1 n1 c1,.bool s1,.slice B1 m1 d1]/\An w (.agg #[.slice A1 n1 c1,.bool s1,.slice B1 m1 d1]) (BU []) 5 2|68=>BO w v (BU []) 3 false 1010011|69=>An w v (BU []) 3 2|70=>BO w v (BU []) (3) false 2|71=>v=.bool true|72=>v=.bool true|73=>v=.bool true|74=>v=.agg #[.slice Ar nr cr,.bool sr,.slice Br mr dr,.bool false]|75=>BO w v [(2,1)] (-2) false 1010009|76=>∃A c,v=.slice A 1 c|77=>v=.int .i64 1|78=>v=.bool true|79=>v=.bool true|80=>v=.bool true|_=>True) (fun _ _ w=>Below W0.heap.size W0 w) ?_ (fun _=>Ak W0 1) ?_ ?_
 · intro j v w w' hT h;match j,h with
   |0,h=>exact h
   |1,h=>exact (by obtain ⟨g,e,h1⟩:=h;exact ⟨g,e,h1.next hT⟩)
   |2,h=>exact h.below hT
   |3,h=>exact h.below hT
   |4,h=>exact h
   |5,h=>exact h
   |6,h=>exact h
   |7,h=>exact h
   |8,h=>exact h
   |9,h=>exact h
   |10,h=>exact h
   |11,h=>exact h
   |12,h=>exact h
   |13,h=>exact h
   |14,h=>exact h
   |15,h=>exact h
   |16,h=>exact h
   |17,h=>exact h
   |18,h=>exact h
   |19,h=>exact h.below hT
   |20,h=>exact (by obtain ⟨g,s1,B1,m1,d1,e,h1,h2⟩:=h;exact ⟨g,s1,B1,m1,d1,e,h1.next hT,h2.below hT⟩)
   |21,h=>exact h
   |22,h=>exact h
   |23,h=>exact h
   |24,h=>exact h
   |25,h=>exact h
   |26,h=>exact h
   |27,h=>exact h
   |28,h=>exact h
   |29,h=>exact h
   |30,h=>exact h
   |31,h=>exact h
   |32,h=>exact h
   |33,h=>exact h
   |34,h=>exact h.below hT
   |35,h=>exact h.below hT
   |36,h=>exact h.below hT
   |37,h=>exact h.below hT
   |38,h=>exact h
   |39,h=>exact h
   |40,h=>exact h
   |41,h=>exact h
   |42,h=>exact h
   |43,h=>exact (by obtain ⟨g,e,h1⟩:=h;exact ⟨g,e,h1.next hT⟩)
   |44,h=>exact h
   |45,h=>exact h
   |46,h=>exact h
   |47,h=>exact h
   |48,h=>exact (by obtain ⟨g,e,h1⟩:=h;exact ⟨g,e,h1.next hT⟩)
   |49,h=>exact h.below hT
   |50,h=>exact h.below hT
   |51,h=>exact h
   |52,h=>exact h
   |53,h=>exact h
   |54,h=>exact h
   |55,h=>exact h
   |56,h=>exact h
   |57,h=>exact h.below hT
   |58,h=>exact h.below hT
   |59,h=>exact h.below hT
   |60,h=>exact h.below hT
   |61,h=>exact h
   |62,h=>exact h
   |63,h=>exact h
   |64,h=>exact h
   |65,h=>exact (by obtain ⟨g,e,h1⟩:=h;exact ⟨g,e,h1.next hT⟩)
   |66,h=>exact h.below hT
   |67,h=>exact (by obtain ⟨g,A1,n1,c1,s1,B1,m1,d1,e,h1,h2⟩:=h;exact ⟨g,A1,n1,c1,s1,B1,m1,d1,e,h1.next hT,h2.below hT⟩)
   |68,h=>exact h.below hT
   |69,h=>exact h.below hT
   |70,h=>exact h.below hT
   |71,h=>exact h
   |72,h=>exact h
   |73,h=>exact h
   |74,h=>exact h
   |75,h=>exact h.below hT
   |76,h=>exact h
   |77,h=>exact h
   |78,h=>exact h
   |79,h=>exact h
   |80,h=>exact h
   |j+81,h=>trivial
 · refine ⟨?_,?_,?_,?_,?_,?_,?_,?_,?_,?_,?_,?_,?_,?_,?_,?_,?_,?_,?_,?_,?_,?_,?_,?_,?_,?_,?_,?_,?_,?_,?_,?_,?_,?_,?_,?_,?_,?_,?_,?_,?_,?_,?_,?_,?_,?_,?_,?_,?_,?_,?_,?_,?_,?_,?_,?_,?_,?_,?_,?_,?_,?_,?_,?_,?_,?_,?_,?_,?_,?_,?_,?_,?_,?_,?_,?_,?_,?_,?_,?_,?_,trivial⟩
   · intro listed σ w a hin hout hl hc hp hG hF;refine Ac.none rfl ?_;have e1:a.tmps.getD 1 undef=.pointer (some ⟨gr,0,none⟩):=hout 1 (Af (by kernel_rfl));have CC:=SOF.out w hG;obtain ⟨C0,C1,C2,C3⟩:=CC;refine Does.val (.agg #[.slice Ar nr cr,.bool sr,.slice Br mr dr,.bool false]) (w':=w) ?_ ⟨Below.refl _ _,rfl,hG⟩;go_simp
   · intro listed σ w a hin hout hl hc hp hG hF;refine Ac.none rfl ?_;refine Does.val (.slice (some ⟨w.heap.size,0,none⟩) 1 1) (w':=w.alloc (.cells #[.int .i64 1] 2)) ?_ ⟨Ae w _,⟨w.heap.size,rfl,Aw.new _ _ _⟩,hG.next (Ae w _)⟩;go_simp
   · intro listed σ w a hin hout hl hc hp hG hF;refine Ac.none rfl ?_;have e28:=hin 1 28 rfl (hp ⟨1,.data⟩ (by simp) rfl);obtain ⟨g1,ev1,x1⟩:=hF 1 (hp ⟨1,.data⟩ (by simp) rfl);rw[ev1]at e28;refine Does.call ?_ (Bq (-2) (some ⟨g1,0,none⟩) 1 1 [1] w x1.ints (by decide) (by decide) (by decide) (by decide)) ?_
     · go_simp
     · rintro e w' ⟨v,rfl,z,hb⟩;exact ⟨_,rfl,hb,z,hG.next hb⟩
   · intro listed σ w a hin hout hl hc hp hG hF;refine Ac.none rfl ?_;have e29:=hin 2 29 rfl (hp ⟨2,.data⟩ (by simp) rfl);have z2:=hF 2 (hp ⟨2,.data⟩ (by simp) rfl);obtain ⟨A7,n7,c7,s7,B7,m7,d7,ev7⟩:=An.form z2;rw[ev7]at e29 z2;refine Does.val (.agg #[.slice A7 n7 c7,.bool s7,.slice B7 m7 d7,.bool false]) (w':=w) ?_ ⟨Below.refl _ _,⟨A7,n7,c7,s7,B7,m7,d7,rfl,z2⟩,hG⟩;simp only[Array.getD_eq_getD_getElem?]at e29;go_simp
   · intro listed σ w a hin hout hl hc hp hG hF;refine Ac.none rfl ?_;have e27:a.tmps.getD 27 undef=.agg #[.slice Ar nr cr,.bool sr,.slice Br mr dr,.bool false]:=(hin 0 27 rfl (hp ⟨0,.data⟩ (by simp) rfl)).trans (hF 0 (hp ⟨0,.data⟩ (by simp) rfl));have e30:=hin 3 30 rfl (hp ⟨3,.data⟩ (by simp) rfl);have z3:=hF 3 (hp ⟨3,.data⟩ (by simp) rfl);refine Does.call ?_ (Di _ _ (BU [1]) (-2) false 9 2 w ((HR.out.below hG).ofEq (by decide) rfl rfl) z3 (by decide)) ?_
     · go_simp
     · rintro e w' ⟨rfl,hb⟩;exact ⟨_,rfl,hb,rfl,hG.next hb⟩
   · intro listed σ w a hin hout hl hc hp hG hF;refine Ac.none rfl ?_;have e31:a.tmps.getD 31 undef=.bool true:=(hin 4 31 rfl (hp ⟨4,.data⟩ (by simp) rfl)).trans (hF 4 (hp ⟨4,.data⟩ (by simp) rfl));refine Does.val (.bool true) (w':=w) ?_ ⟨Below.refl _ _,rfl,hG⟩;simp only[Array.getD_eq_getD_getElem?]at e31;go_simp
   · intro listed σ w a hin hout hl hc hp hG hF;refine Ac.some (d:=32) (b:=true) rfl rfl ((hin 5 32 rfl (hp ⟨5,.guard⟩ (by simp) rfl)).trans (hF 5 (hp ⟨5,.guard⟩ (by simp) rfl))) ?_;refine Or.inl ⟨rfl,?_⟩;have e2:a.tmps.getD 2 undef=.int .i64 0:=hout 2 (Af (by kernel_rfl));refine Does.val (.int .i64 0) (w':=w) ?_ ⟨Below.refl _ _,rfl,hG⟩;simp only[Array.getD_eq_getD_getElem?]at e2;go_simp
   · intro listed σ w a hin hout hl hc hp hG hF;refine Ac.some (d:=32) (b:=true) rfl rfl ((hin 5 32 rfl (hp ⟨5,.guard⟩ (by simp) rfl)).trans (hF 5 (hp ⟨5,.guard⟩ (by simp) rfl))) ?_;refine Or.inl ⟨rfl,?_⟩;have e33:a.tmps.getD 33 undef=.int .i64 0:=(hin 6 33 rfl (hp ⟨6,.data⟩ (by simp) rfl)).trans (hF 6 (hp ⟨6,.data⟩ (by simp) rfl));refine Does.val (.bool true) (w':=w) ?_ ⟨Below.refl _ _,rfl,hG⟩;simp only[Array.getD_eq_getD_getElem?]at e33;go_simp
   · intro listed σ w a hin hout hl hc hp hG hF;refine Ac.none rfl ?_;have e32:a.tmps.getD 32 undef=.bool true:=(hin 5 32 rfl (hp ⟨5,.data⟩ (by simp) rfl)).trans (hF 5 (hp ⟨5,.data⟩ (by simp) rfl));have e34:a.tmps.getD 34 undef=.bool true:=(hin 7 34 rfl (hp ⟨7,.data⟩ (by simp) rfl)).trans (hF 7 (hp ⟨7,.data⟩ (by simp) rfl));refine Does.val (.bool true) (w':=w) ?_ ⟨Below.refl _ _,rfl,hG⟩;simp only[Array.getD_eq_getD_getElem?]at e32 e34;go_simp
   · intro listed σ w a hin hout hl hc hp hG hF;refine Ac.none rfl ?_;have e35:a.tmps.getD 35 undef=.bool true:=(hin 8 35 rfl (hp ⟨8,.data⟩ (by simp) rfl)).trans (hF 8 (hp ⟨8,.data⟩ (by simp) rfl));refine Does.val (.bool true) (w':=w) ?_ ⟨Below.refl _ _,rfl,hG⟩;simp only[Array.getD_eq_getD_getElem?]at e35;go_simp
   · intro listed σ w a hin hout hl hc hp hG hF;refine Ac.some (d:=36) (b:=true) rfl rfl ((hin 9 36 rfl (hp ⟨9,.guard⟩ (by simp) rfl)).trans (hF 9 (hp ⟨9,.guard⟩ (by simp) rfl))) ?_;refine Or.inl ⟨rfl,?_⟩;have e4:a.tmps.getD 4 undef=.int .i64 (-1):=hout 4 (Af (by kernel_rfl));refine Does.val (.int .i64 (-1)) (w':=w) ?_ ⟨Below.refl _ _,rfl,hG⟩;simp only[Array.getD_eq_getD_getElem?]at e4;go_simp
   · intro listed σ w a hin hout hl hc hp hG hF;refine Ac.some (d:=36) (b:=true) rfl rfl ((hin 9 36 rfl (hp ⟨9,.guard⟩ (by simp) rfl)).trans (hF 9 (hp ⟨9,.guard⟩ (by simp) rfl))) ?_;refine Or.inl ⟨rfl,?_⟩;have e37:a.tmps.getD 37 undef=.int .i64 (-1):=(hin 10 37 rfl (hp ⟨10,.data⟩ (by simp) rfl)).trans (hF 10 (hp ⟨10,.data⟩ (by simp) rfl));refine Does.val (.bool true) (w':=w) ?_ ⟨Below.refl _ _,rfl,hG⟩;simp only[Array.getD_eq_getD_getElem?]at e37;go_simp
   · intro listed σ w a hin hout hl hc hp hG hF;refine Ac.none rfl ?_;have e36:a.tmps.getD 36 undef=.bool true:=(hin 9 36 rfl (hp ⟨9,.data⟩ (by simp) rfl)).trans (hF 9 (hp ⟨9,.data⟩ (by simp) rfl));have e38:a.tmps.getD 38 undef=.bool true:=(hin 11 38 rfl (hp ⟨11,.data⟩ (by simp) rfl)).trans (hF 11 (hp ⟨11,.data⟩ (by simp) rfl));refine Does.val (.bool true) (w':=w) ?_ ⟨Below.refl _ _,rfl,hG⟩;simp only[Array.getD_eq_getD_getElem?]at e36 e38;go_simp
   · intro listed σ w a hin hout hl hc hp hG hF;refine Ac.none rfl ?_;have e39:a.tmps.getD 39 undef=.bool true:=(hin 12 39 rfl (hp ⟨12,.data⟩ (by simp) rfl)).trans (hF 12 (hp ⟨12,.data⟩ (by simp) rfl));refine Does.val (.bool true) (w':=w) ?_ ⟨Below.refl _ _,rfl,hG⟩;simp only[Array.getD_eq_getD_getElem?]at e39;go_simp
   · intro listed σ w a hin hout hl hc hp hG hF;refine Ac.some (d:=40) (b:=true) rfl rfl ((hin 13 40 rfl (hp ⟨13,.guard⟩ (by simp) rfl)).trans (hF 13 (hp ⟨13,.guard⟩ (by simp) rfl))) ?_;refine Or.inl ⟨rfl,?_⟩;have e6:a.tmps.getD 6 undef=.int .i64 1:=hout 6 (Af (by kernel_rfl));refine Does.val (.int .i64 1) (w':=w) ?_ ⟨Below.refl _ _,rfl,hG⟩;simp only[Array.getD_eq_getD_getElem?]at e6;go_simp
   · intro listed σ w a hin hout hl hc hp hG hF;refine Ac.some (d:=40) (b:=true) rfl rfl ((hin 13 40 rfl (hp ⟨13,.guard⟩ (by simp) rfl)).trans (hF 13 (hp ⟨13,.guard⟩ (by simp) rfl))) ?_;refine Or.inl ⟨rfl,?_⟩;have e41:a.tmps.getD 41 undef=.int .i64 1:=(hin 14 41 rfl (hp ⟨14,.data⟩ (by simp) rfl)).trans (hF 14 (hp ⟨14,.data⟩ (by simp) rfl));refine Does.val (.bool true) (w':=w) ?_ ⟨Below.refl _ _,rfl,hG⟩;simp only[Array.getD_eq_getD_getElem?]at e41;go_simp
   · intro listed σ w a hin hout hl hc hp hG hF;refine Ac.none rfl ?_;have e40:a.tmps.getD 40 undef=.bool true:=(hin 13 40 rfl (hp ⟨13,.data⟩ (by simp) rfl)).trans (hF 13 (hp ⟨13,.data⟩ (by simp) rfl));have e42:a.tmps.getD 42 undef=.bool true:=(hin 15 42 rfl (hp ⟨15,.data⟩ (by simp) rfl)).trans (hF 15 (hp ⟨15,.data⟩ (by simp) rfl));refine Does.val (.bool true) (w':=w) ?_ ⟨Below.refl _ _,rfl,hG⟩;simp only[Array.getD_eq_getD_getElem?]at e40 e42;go_simp
   · intro listed σ w a hin hout hl hc hp hG hF;refine Ac.none rfl ?_;have e43:a.tmps.getD 43 undef=.bool true:=(hin 16 43 rfl (hp ⟨16,.data⟩ (by simp) rfl)).trans (hF 16 (hp ⟨16,.data⟩ (by simp) rfl));refine Does.val (.bool true) (w':=w) ?_ ⟨Below.refl _ _,rfl,hG⟩;simp only[Array.getD_eq_getD_getElem?]at e43;go_simp
   · intro listed σ w a hin hout hl hc hp hG hF;refine Ac.some (d:=44) (b:=true) rfl rfl ((hin 17 44 rfl (hp ⟨17,.guard⟩ (by simp) rfl)).trans (hF 17 (hp ⟨17,.guard⟩ (by simp) rfl))) ?_;refine Or.inl ⟨rfl,?_⟩;have e1:a.tmps.getD 1 undef=.pointer (some ⟨gr,0,none⟩):=hout 1 (Af (by kernel_rfl));have CC:=SOF.out w hG;obtain ⟨C0,C1,C2,C3⟩:=CC;refine Does.val (.agg #[.slice Ar nr cr,.bool sr,.slice Br mr dr,.bool false]) (w':=w) ?_ ⟨Below.refl _ _,rfl,hG⟩;go_simp
   · intro listed σ w a hin hout hl hc hp hG hF;refine Ac.some (d:=44) (b:=true) rfl rfl ((hin 17 44 rfl (hp ⟨17,.guard⟩ (by simp) rfl)).trans (hF 17 (hp ⟨17,.guard⟩ (by simp) rfl))) ?_;refine Or.inl ⟨rfl,?_⟩;refine Does.call ?_ (QC 2 w (by decide) (by decide)) ?_
     · go_simp
     · rintro e w' ⟨v,rfl,z,hb⟩;exact ⟨_,rfl,hb,z,hG.next hb⟩
   · intro listed σ w a hin hout hl hc hp hG hF;refine Ac.some (d:=44) (b:=true) rfl rfl ((hin 17 44 rfl (hp ⟨17,.guard⟩ (by simp) rfl)).trans (hF 17 (hp ⟨17,.guard⟩ (by simp) rfl))) ?_;refine Or.inl ⟨rfl,?_⟩;have e46:=hin 19 46 rfl (hp ⟨19,.data⟩ (by simp) rfl);have z19:=hF 19 (hp ⟨19,.data⟩ (by simp) rfl);obtain ⟨s1,B1,m1,d1,ev1⟩:=Au.form z19;rw[ev1]at e46 z19
     refine Does.val (.slice (some ⟨w.heap.size,0,none⟩) 1 1) (w':=w.alloc (.cells #[.bool s1,.slice B1 m1 d1] 31)) ?_ ⟨Ae w _,⟨w.heap.size,s1,B1,m1,d1,rfl,Aw.new _ _ _,z19.below (Ae w _)⟩,hG.next (Ae w _)⟩;simp only[Array.getD_eq_getD_getElem?]at e46;go_simp
   · intro listed σ w a hin hout hl hc hp hG hF;refine Ac.some (d:=44) (b:=true) rfl rfl ((hin 17 44 rfl (hp ⟨17,.guard⟩ (by simp) rfl)).trans (hF 17 (hp ⟨17,.guard⟩ (by simp) rfl))) ?_;refine Or.inl ⟨rfl,?_⟩;have e45:a.tmps.getD 45 undef=.agg #[.slice Ar nr cr,.bool sr,.slice Br mr dr,.bool false]:=(hin 18 45 rfl (hp ⟨18,.data⟩ (by simp) rfl)).trans (hF 18 (hp ⟨18,.data⟩ (by simp) rfl));have e47:=hin 20 47 rfl (hp ⟨20,.data⟩ (by simp) rfl)
     obtain ⟨g20,s1,B1,m1,d1,ev20,x20,zz20⟩:=hF 20 (hp ⟨20,.data⟩ (by simp) rfl);rw[ev20]at e47;refine Does.call ?_ (IY true (EI _ [(0,1)] (-2) false 9 2 (some ⟨g20,0,none⟩) 1 1 [⟨s1,B1,m1,d1,2⟩] w (HR.out.below hG).in_ (CY.one x20 zz20) (by decide) (by decide) (by decide) (by decide)) (show Dx false (-2+val [2] [(0,1)])=true by decide)) ?_
     · go_simp
     · rintro e w' ⟨rfl,hb⟩;exact ⟨_,rfl,hb,rfl,hG.next hb⟩
   · intro listed σ w a hin hout hl hc hp hG hF;refine Ac.none rfl ?_;have e44:a.tmps.getD 44 undef=.bool true:=(hin 17 44 rfl (hp ⟨17,.data⟩ (by simp) rfl)).trans (hF 17 (hp ⟨17,.data⟩ (by simp) rfl));have e48:a.tmps.getD 48 undef=.bool true:=(hin 21 48 rfl (hp ⟨21,.data⟩ (by simp) rfl)).trans (hF 21 (hp ⟨21,.data⟩ (by simp) rfl));refine Does.val (.bool true) (w':=w) ?_ ⟨Below.refl _ _,rfl,hG⟩;simp only[Array.getD_eq_getD_getElem?]at e44 e48;go_simp
   · intro listed σ w a hin hout hl hc hp hG hF;refine Ac.none rfl ?_;have e49:a.tmps.getD 49 undef=.bool true:=(hin 22 49 rfl (hp ⟨22,.data⟩ (by simp) rfl)).trans (hF 22 (hp ⟨22,.data⟩ (by simp) rfl));refine Does.val (.bool true) (w':=w) ?_ ⟨Below.refl _ _,rfl,hG⟩;simp only[Array.getD_eq_getD_getElem?]at e49;go_simp
   · intro listed σ w a hin hout hl hc hp hG hF;refine Ac.some (d:=50) (b:=true) rfl rfl ((hin 23 50 rfl (hp ⟨23,.guard⟩ (by simp) rfl)).trans (hF 23 (hp ⟨23,.guard⟩ (by simp) rfl))) ?_;refine Or.inl ⟨rfl,?_⟩;have e1:a.tmps.getD 1 undef=.pointer (some ⟨gr,0,none⟩):=hout 1 (Af (by kernel_rfl));have CC:=SOF.out w hG;obtain ⟨C0,C1,C2,C3⟩:=CC;refine Does.val (.agg #[.slice Ar nr cr,.bool sr,.slice Br mr dr,.bool false]) (w':=w) ?_ ⟨Below.refl _ _,rfl,hG⟩;go_simp
   · intro listed σ w a hin hout hl hc hp hG hF;refine Ac.some (d:=50) (b:=true) rfl rfl ((hin 23 50 rfl (hp ⟨23,.guard⟩ (by simp) rfl)).trans (hF 23 (hp ⟨23,.guard⟩ (by simp) rfl))) ?_;refine Or.inl ⟨rfl,?_⟩;have e51:a.tmps.getD 51 undef=.agg #[.slice Ar nr cr,.bool sr,.slice Br mr dr,.bool false]:=(hin 24 51 rfl (hp ⟨24,.data⟩ (by simp) rfl)).trans (hF 24 (hp ⟨24,.data⟩ (by simp) rfl))
     refine Does.call ?_ (IY false (EI _ [(0,1)] (-2) false 9 0 none 0 0 [] w (HR.out.below hG).in_ (CY.empty w) (by decide) (by decide) (by decide) (by decide)) (by decide)) ?_
     · go_simp
     · rintro e w' ⟨rfl,hb⟩;exact ⟨_,rfl,hb,rfl,hG.next hb⟩
   · intro listed σ w a hin hout hl hc hp hG hF;refine Ac.some (d:=50) (b:=true) rfl rfl ((hin 23 50 rfl (hp ⟨23,.guard⟩ (by simp) rfl)).trans (hF 23 (hp ⟨23,.guard⟩ (by simp) rfl))) ?_;refine Or.inl ⟨rfl,?_⟩;have e52:a.tmps.getD 52 undef=.bool false:=(hin 25 52 rfl (hp ⟨25,.data⟩ (by simp) rfl)).trans (hF 25 (hp ⟨25,.data⟩ (by simp) rfl));refine Does.val (.bool true) (w':=w) ?_ ⟨Below.refl _ _,rfl,hG⟩;simp only[Array.getD_eq_getD_getElem?]at e52;go_simp
   · intro listed σ w a hin hout hl hc hp hG hF;refine Ac.none rfl ?_;have e50:a.tmps.getD 50 undef=.bool true:=(hin 23 50 rfl (hp ⟨23,.data⟩ (by simp) rfl)).trans (hF 23 (hp ⟨23,.data⟩ (by simp) rfl));have e53:a.tmps.getD 53 undef=.bool true:=(hin 26 53 rfl (hp ⟨26,.data⟩ (by simp) rfl)).trans (hF 26 (hp ⟨26,.data⟩ (by simp) rfl));refine Does.val (.bool true) (w':=w) ?_ ⟨Below.refl _ _,rfl,hG⟩;simp only[Array.getD_eq_getD_getElem?]at e50 e53;go_simp
   · intro listed σ w a hin hout hl hc hp hG hF;refine Ac.none rfl ?_;have e54:a.tmps.getD 54 undef=.bool true:=(hin 27 54 rfl (hp ⟨27,.data⟩ (by simp) rfl)).trans (hF 27 (hp ⟨27,.data⟩ (by simp) rfl));refine Does.val (.bool true) (w':=w) ?_ ⟨Below.refl _ _,rfl,hG⟩;simp only[Array.getD_eq_getD_getElem?]at e54;go_simp
   · intro listed σ w a hin hout hl hc hp hG hF;refine Ac.some (d:=55) (b:=true) rfl rfl ((hin 28 55 rfl (hp ⟨28,.guard⟩ (by simp) rfl)).trans (hF 28 (hp ⟨28,.guard⟩ (by simp) rfl))) ?_;refine Or.inl ⟨rfl,?_⟩;have e1:a.tmps.getD 1 undef=.pointer (some ⟨gr,0,none⟩):=hout 1 (Af (by kernel_rfl));have CC:=SOF.out w hG;obtain ⟨C0,C1,C2,C3⟩:=CC;refine Does.val (.agg #[.slice Ar nr cr,.bool sr,.slice Br mr dr,.bool false]) (w':=w) ?_ ⟨Below.refl _ _,rfl,hG⟩;go_simp
   · intro listed σ w a hin hout hl hc hp hG hF;refine Ac.some (d:=55) (b:=true) rfl rfl ((hin 28 55 rfl (hp ⟨28,.guard⟩ (by simp) rfl)).trans (hF 28 (hp ⟨28,.guard⟩ (by simp) rfl))) ?_;refine Or.inl ⟨rfl,?_⟩;have e1:a.tmps.getD 1 undef=.pointer (some ⟨gr,0,none⟩):=hout 1 (Af (by kernel_rfl));have CC:=SOF.out w hG;obtain ⟨C0,C1,C2,C3⟩:=CC;refine Does.val (.agg #[.slice Ar nr cr,.bool sr,.slice Br mr dr,.bool false]) (w':=w) ?_ ⟨Below.refl _ _,rfl,hG⟩;go_simp
   · intro listed σ w a hin hout hl hc hp hG hF;refine Ac.some (d:=55) (b:=true) rfl rfl ((hin 28 55 rfl (hp ⟨28,.guard⟩ (by simp) rfl)).trans (hF 28 (hp ⟨28,.guard⟩ (by simp) rfl))) ?_;refine Or.inl ⟨rfl,?_⟩;have e56:a.tmps.getD 56 undef=.agg #[.slice Ar nr cr,.bool sr,.slice Br mr dr,.bool false]:=(hin 29 56 rfl (hp ⟨29,.data⟩ (by simp) rfl)).trans (hF 29 (hp ⟨29,.data⟩ (by simp) rfl))
     have e57:a.tmps.getD 57 undef=.agg #[.slice Ar nr cr,.bool sr,.slice Br mr dr,.bool false]:=(hin 30 57 rfl (hp ⟨30,.data⟩ (by simp) rfl)).trans (hF 30 (hp ⟨30,.data⟩ (by simp) rfl));refine Does.call ?_ (IY true (Me _ _ [(0,1)] [(0,1)] (-2) (-2) false false 9 w (HR.out.below hG).in_ (HR.out.below hG).in_ (by decide) (by decide) (by decide)) (by decide +kernel)) ?_
     · go_simp
     · rintro e w' ⟨rfl,hb⟩;exact ⟨_,rfl,hb,rfl,hG.next hb⟩
   · intro listed σ w a hin hout hl hc hp hG hF;refine Ac.none rfl ?_;have e55:a.tmps.getD 55 undef=.bool true:=(hin 28 55 rfl (hp ⟨28,.data⟩ (by simp) rfl)).trans (hF 28 (hp ⟨28,.data⟩ (by simp) rfl));have e58:a.tmps.getD 58 undef=.bool true:=(hin 31 58 rfl (hp ⟨31,.data⟩ (by simp) rfl)).trans (hF 31 (hp ⟨31,.data⟩ (by simp) rfl));refine Does.val (.bool true) (w':=w) ?_ ⟨Below.refl _ _,rfl,hG⟩;simp only[Array.getD_eq_getD_getElem?]at e55 e58;go_simp
   · intro listed σ w a hin hout hl hc hp hG hF;refine Ac.none rfl ?_;have e59:a.tmps.getD 59 undef=.bool true:=(hin 32 59 rfl (hp ⟨32,.data⟩ (by simp) rfl)).trans (hF 32 (hp ⟨32,.data⟩ (by simp) rfl));refine Does.val (.bool true) (w':=w) ?_ ⟨Below.refl _ _,rfl,hG⟩;simp only[Array.getD_eq_getD_getElem?]at e59;go_simp
   · intro listed σ w a hin hout hl hc hp hG hF;refine Ac.some (d:=60) (b:=true) rfl rfl ((hin 33 60 rfl (hp ⟨33,.guard⟩ (by simp) rfl)).trans (hF 33 (hp ⟨33,.guard⟩ (by simp) rfl))) ?_;refine Or.inl ⟨rfl,?_⟩;refine Does.call ?_ (Bq 1 none 0 0 [] w (EX.none w) (by decide) (by decide) (by decide) (by decide)) ?_
     · go_simp
     · rintro e w' ⟨v,rfl,z,hb⟩;exact ⟨_,rfl,hb,z,hG.next hb⟩
   · intro listed σ w a hin hout hl hc hp hG hF;refine Ac.some (d:=60) (b:=true) rfl rfl ((hin 33 60 rfl (hp ⟨33,.guard⟩ (by simp) rfl)).trans (hF 33 (hp ⟨33,.guard⟩ (by simp) rfl))) ?_;refine Or.inl ⟨rfl,?_⟩;have e61:=hin 34 61 rfl (hp ⟨34,.data⟩ (by simp) rfl);have z34:=hF 34 (hp ⟨34,.data⟩ (by simp) rfl);refine Does.call ?_ (Bj _ (BU []) 1 2 w z34.in_ (by decide) (by decide)) ?_
     · go_simp
     · rintro e w' ⟨v,rfl,z,hb⟩;exact ⟨_,rfl,hb,z,hG.next hb⟩
   · intro listed σ w a hin hout hl hc hp hG hF;refine Ac.some (d:=60) (b:=true) rfl rfl ((hin 33 60 rfl (hp ⟨33,.guard⟩ (by simp) rfl)).trans (hF 33 (hp ⟨33,.guard⟩ (by simp) rfl))) ?_;refine Or.inl ⟨rfl,?_⟩;refine Does.call ?_ (Bq 2 none 0 0 [] w (EX.none w) (by decide) (by decide) (by decide) (by decide)) ?_
     · go_simp
     · rintro e w' ⟨v,rfl,z,hb⟩;exact ⟨_,rfl,hb,z,hG.next hb⟩
   · intro listed σ w a hin hout hl hc hp hG hF;refine Ac.some (d:=60) (b:=true) rfl rfl ((hin 33 60 rfl (hp ⟨33,.guard⟩ (by simp) rfl)).trans (hF 33 (hp ⟨33,.guard⟩ (by simp) rfl))) ?_;refine Or.inl ⟨rfl,?_⟩;have e63:=hin 36 63 rfl (hp ⟨36,.data⟩ (by simp) rfl);have z36:=hF 36 (hp ⟨36,.data⟩ (by simp) rfl);refine Does.call ?_ (Bj _ (BU []) 2 2 w z36.in_ (by decide) (by decide)) ?_
     · go_simp
     · rintro e w' ⟨v,rfl,z,hb⟩;exact ⟨_,rfl,hb,z,hG.next hb⟩
   · intro listed σ w a hin hout hl hc hp hG hF;refine Ac.some (d:=60) (b:=true) rfl rfl ((hin 33 60 rfl (hp ⟨33,.guard⟩ (by simp) rfl)).trans (hF 33 (hp ⟨33,.guard⟩ (by simp) rfl))) ?_;refine Or.inl ⟨rfl,?_⟩;have e62:=hin 35 62 rfl (hp ⟨35,.data⟩ (by simp) rfl);have z35:=hF 35 (hp ⟨35,.data⟩ (by simp) rfl);have e64:=hin 37 64 rfl (hp ⟨37,.data⟩ (by simp) rfl);have z37:=hF 37 (hp ⟨37,.data⟩ (by simp) rfl)
     refine Does.call ?_ (Se (-1) (FU _ _ (norm (BU [])) (norm (BU [])) 1 2 false false 2 w z35.in_ z37.in_ (by decide) (by decide) (by decide)) (by decide +kernel)) ?_
     · go_simp
     · rintro e w' ⟨rfl,hb⟩;exact ⟨_,rfl,hb,rfl,hG.next hb⟩
   · intro listed σ w a hin hout hl hc hp hG hF;refine Ac.some (d:=60) (b:=true) rfl rfl ((hin 33 60 rfl (hp ⟨33,.guard⟩ (by simp) rfl)).trans (hF 33 (hp ⟨33,.guard⟩ (by simp) rfl))) ?_;refine Or.inl ⟨rfl,?_⟩;have e65:a.tmps.getD 65 undef=.int .i64 (-1):=(hin 38 65 rfl (hp ⟨38,.data⟩ (by simp) rfl)).trans (hF 38 (hp ⟨38,.data⟩ (by simp) rfl));refine Does.val (.bool true) (w':=w) ?_ ⟨Below.refl _ _,rfl,hG⟩;simp only[Array.getD_eq_getD_getElem?]at e65;go_simp
   · intro listed σ w a hin hout hl hc hp hG hF;refine Ac.none rfl ?_;have e60:a.tmps.getD 60 undef=.bool true:=(hin 33 60 rfl (hp ⟨33,.data⟩ (by simp) rfl)).trans (hF 33 (hp ⟨33,.data⟩ (by simp) rfl));have e66:a.tmps.getD 66 undef=.bool true:=(hin 39 66 rfl (hp ⟨39,.data⟩ (by simp) rfl)).trans (hF 39 (hp ⟨39,.data⟩ (by simp) rfl));refine Does.val (.bool true) (w':=w) ?_ ⟨Below.refl _ _,rfl,hG⟩;simp only[Array.getD_eq_getD_getElem?]at e60 e66;go_simp
   · intro listed σ w a hin hout hl hc hp hG hF;refine Ac.none rfl ?_;have e67:a.tmps.getD 67 undef=.bool true:=(hin 40 67 rfl (hp ⟨40,.data⟩ (by simp) rfl)).trans (hF 40 (hp ⟨40,.data⟩ (by simp) rfl));refine Does.val (.bool true) (w':=w) ?_ ⟨Below.refl _ _,rfl,hG⟩;simp only[Array.getD_eq_getD_getElem?]at e67;go_simp
   · intro listed σ w a hin hout hl hc hp hG hF;refine Ac.some (d:=68) (b:=true) rfl rfl ((hin 41 68 rfl (hp ⟨41,.guard⟩ (by simp) rfl)).trans (hF 41 (hp ⟨41,.guard⟩ (by simp) rfl))) ?_;refine Or.inl ⟨rfl,?_⟩;have e1:a.tmps.getD 1 undef=.pointer (some ⟨gr,0,none⟩):=hout 1 (Af (by kernel_rfl));have CC:=SOF.out w hG;obtain ⟨C0,C1,C2,C3⟩:=CC;refine Does.val (.agg #[.slice Ar nr cr,.bool sr,.slice Br mr dr,.bool false]) (w':=w) ?_ ⟨Below.refl _ _,rfl,hG⟩;go_simp
   · intro listed σ w a hin hout hl hc hp hG hF;refine Ac.some (d:=68) (b:=true) rfl rfl ((hin 41 68 rfl (hp ⟨41,.guard⟩ (by simp) rfl)).trans (hF 41 (hp ⟨41,.guard⟩ (by simp) rfl))) ?_;refine Or.inl ⟨rfl,?_⟩;refine Does.val (.slice (some ⟨w.heap.size,0,none⟩) 1 1) (w':=w.alloc (.cells #[.string ⟨#[120]⟩] 9)) ?_ ⟨Ae w _,⟨w.heap.size,rfl,Aw.new _ _ _⟩,hG.next (Ae w _)⟩;go_simp
   · intro listed σ w a hin hout hl hc hp hG hF;refine Ac.some (d:=68) (b:=true) rfl rfl ((hin 41 68 rfl (hp ⟨41,.guard⟩ (by simp) rfl)).trans (hF 41 (hp ⟨41,.guard⟩ (by simp) rfl))) ?_;refine Or.inl ⟨rfl,?_⟩;have e69:a.tmps.getD 69 undef=.agg #[.slice Ar nr cr,.bool sr,.slice Br mr dr,.bool false]:=(hin 42 69 rfl (hp ⟨42,.data⟩ (by simp) rfl)).trans (hF 42 (hp ⟨42,.data⟩ (by simp) rfl));have e70:=hin 43 70 rfl (hp ⟨43,.data⟩ (by simp) rfl)
     obtain ⟨g43,ev43,x43⟩:=hF 43 (hp ⟨43,.data⟩ (by simp) rfl);rw[ev43]at e70;refine Does.call ?_ (J7 _ g43 9 w (HR.out.below hG).in_ (by decide) x43) ?_
     · go_simp
     · rintro e w' ⟨rfl,hb⟩;exact ⟨_,rfl,hb,rfl,hG.next hb⟩
   · intro listed σ w a hin hout hl hc hp hG hF;refine Ac.some (d:=68) (b:=true) rfl rfl ((hin 41 68 rfl (hp ⟨41,.guard⟩ (by simp) rfl)).trans (hF 41 (hp ⟨41,.guard⟩ (by simp) rfl))) ?_;refine Or.inl ⟨rfl,?_⟩;have e71:a.tmps.getD 71 undef=.string ⟨#[120,32,45,32,50,32,62,61,32,48]⟩:=(hin 44 71 rfl (hp ⟨44,.data⟩ (by simp) rfl)).trans (hF 44 (hp ⟨44,.data⟩ (by simp) rfl));refine Does.val (.bool true) (w':=w) ?_ ⟨Below.refl _ _,rfl,hG⟩
     simp only[Array.getD_eq_getD_getElem?]at e71;go_simp;(try decide +kernel)
   · intro listed σ w a hin hout hl hc hp hG hF;refine Ac.none rfl ?_;have e68:a.tmps.getD 68 undef=.bool true:=(hin 41 68 rfl (hp ⟨41,.data⟩ (by simp) rfl)).trans (hF 41 (hp ⟨41,.data⟩ (by simp) rfl));have e72:a.tmps.getD 72 undef=.bool true:=(hin 45 72 rfl (hp ⟨45,.data⟩ (by simp) rfl)).trans (hF 45 (hp ⟨45,.data⟩ (by simp) rfl));refine Does.val (.bool true) (w':=w) ?_ ⟨Below.refl _ _,rfl,hG⟩;simp only[Array.getD_eq_getD_getElem?]at e68 e72;go_simp
   · intro listed σ w a hin hout hl hc hp hG hF;refine Ac.none rfl ?_;have e73:a.tmps.getD 73 undef=.bool true:=(hin 46 73 rfl (hp ⟨46,.data⟩ (by simp) rfl)).trans (hF 46 (hp ⟨46,.data⟩ (by simp) rfl));refine Does.val (.bool true) (w':=w) ?_ ⟨Below.refl _ _,rfl,hG⟩;simp only[Array.getD_eq_getD_getElem?]at e73;go_simp
   · intro listed σ w a hin hout hl hc hp hG hF;refine Ac.some (d:=74) (b:=true) rfl rfl ((hin 47 74 rfl (hp ⟨47,.guard⟩ (by simp) rfl)).trans (hF 47 (hp ⟨47,.guard⟩ (by simp) rfl))) ?_;refine Or.inl ⟨rfl,?_⟩;refine Does.val (.slice (some ⟨w.heap.size,0,none⟩) 1 1) (w':=w.alloc (.cells #[.int .i64 1] 2)) ?_ ⟨Ae w _,⟨w.heap.size,rfl,Aw.new _ _ _⟩,hG.next (Ae w _)⟩;go_simp
   · intro listed σ w a hin hout hl hc hp hG hF;refine Ac.some (d:=74) (b:=true) rfl rfl ((hin 47 74 rfl (hp ⟨47,.guard⟩ (by simp) rfl)).trans (hF 47 (hp ⟨47,.guard⟩ (by simp) rfl))) ?_;refine Or.inl ⟨rfl,?_⟩;have e75:=hin 48 75 rfl (hp ⟨48,.data⟩ (by simp) rfl);obtain ⟨g48,ev48,x48⟩:=hF 48 (hp ⟨48,.data⟩ (by simp) rfl);rw[ev48]at e75;refine Does.call ?_ (Bq 0 (some ⟨g48,0,none⟩) 1 1 [1] w x48.ints (by decide) (by decide) (by decide) (by decide)) ?_
     · go_simp
     · rintro e w' ⟨v,rfl,z,hb⟩;exact ⟨_,rfl,hb,z,hG.next hb⟩
   · intro listed σ w a hin hout hl hc hp hG hF;refine Ac.some (d:=74) (b:=true) rfl rfl ((hin 47 74 rfl (hp ⟨47,.guard⟩ (by simp) rfl)).trans (hF 47 (hp ⟨47,.guard⟩ (by simp) rfl))) ?_;refine Or.inl ⟨rfl,?_⟩;have e76:=hin 49 76 rfl (hp ⟨49,.data⟩ (by simp) rfl);have z49:=hF 49 (hp ⟨49,.data⟩ (by simp) rfl);refine Does.call ?_ (GG _ (BU [1]) 0 2 w z49.in_ (by decide) (by decide)) ?_
     · go_simp
     · rintro e w' ⟨v,rfl,z,hb⟩;exact ⟨_,rfl,hb,z,hG.next hb⟩
   · intro listed σ w a hin hout hl hc hp hG hF;refine Ac.some (d:=74) (b:=true) rfl rfl ((hin 47 74 rfl (hp ⟨47,.guard⟩ (by simp) rfl)).trans (hF 47 (hp ⟨47,.guard⟩ (by simp) rfl))) ?_;refine Or.inl ⟨rfl,?_⟩;have e77:=hin 50 77 rfl (hp ⟨50,.data⟩ (by simp) rfl);have z50:=hF 50 (hp ⟨50,.data⟩ (by simp) rfl);refine Does.call ?_ (Mh _ (norm (BU [1])) 0 true 3 w z50.in_ (by decide) (by decide)) ?_
     · go_simp
     · rintro e w' ⟨A,c,rs,rfl,-,-,-,-,hb⟩;exact ⟨_,rfl,hb,⟨A,c,rfl⟩,hG.next hb⟩
   · intro listed σ w a hin hout hl hc hp hG hF;refine Ac.some (d:=74) (b:=true) rfl rfl ((hin 47 74 rfl (hp ⟨47,.guard⟩ (by simp) rfl)).trans (hF 47 (hp ⟨47,.guard⟩ (by simp) rfl))) ?_;refine Or.inl ⟨rfl,?_⟩;have e78:=hin 51 78 rfl (hp ⟨51,.data⟩ (by simp) rfl);obtain ⟨A51,c51,ev51⟩:=hF 51 (hp ⟨51,.data⟩ (by simp) rfl);rw[ev51]at e78;refine Does.val (.int .i64 2) (w':=w) ?_ ⟨Below.refl _ _,rfl,hG⟩;simp only[Array.getD_eq_getD_getElem?]at e78;go_simp
   · intro listed σ w a hin hout hl hc hp hG hF;refine Ac.some (d:=74) (b:=true) rfl rfl ((hin 47 74 rfl (hp ⟨47,.guard⟩ (by simp) rfl)).trans (hF 47 (hp ⟨47,.guard⟩ (by simp) rfl))) ?_;refine Or.inl ⟨rfl,?_⟩;have e79:a.tmps.getD 79 undef=.int .i64 2:=(hin 52 79 rfl (hp ⟨52,.data⟩ (by simp) rfl)).trans (hF 52 (hp ⟨52,.data⟩ (by simp) rfl));refine Does.val (.bool true) (w':=w) ?_ ⟨Below.refl _ _,rfl,hG⟩;simp only[Array.getD_eq_getD_getElem?]at e79;go_simp
   · intro listed σ w a hin hout hl hc hp hG hF;refine Ac.none rfl ?_;have e74:a.tmps.getD 74 undef=.bool true:=(hin 47 74 rfl (hp ⟨47,.data⟩ (by simp) rfl)).trans (hF 47 (hp ⟨47,.data⟩ (by simp) rfl));have e80:a.tmps.getD 80 undef=.bool true:=(hin 53 80 rfl (hp ⟨53,.data⟩ (by simp) rfl)).trans (hF 53 (hp ⟨53,.data⟩ (by simp) rfl));refine Does.val (.bool true) (w':=w) ?_ ⟨Below.refl _ _,rfl,hG⟩;simp only[Array.getD_eq_getD_getElem?]at e74 e80;go_simp
   · intro listed σ w a hin hout hl hc hp hG hF;refine Ac.none rfl ?_;have e81:a.tmps.getD 81 undef=.bool true:=(hin 54 81 rfl (hp ⟨54,.data⟩ (by simp) rfl)).trans (hF 54 (hp ⟨54,.data⟩ (by simp) rfl));refine Does.val (.bool true) (w':=w) ?_ ⟨Below.refl _ _,rfl,hG⟩;simp only[Array.getD_eq_getD_getElem?]at e81;go_simp
   · intro listed σ w a hin hout hl hc hp hG hF;refine Ac.some (d:=82) (b:=true) rfl rfl ((hin 55 82 rfl (hp ⟨55,.guard⟩ (by simp) rfl)).trans (hF 55 (hp ⟨55,.guard⟩ (by simp) rfl))) ?_;refine Or.inl ⟨rfl,?_⟩;have e1:a.tmps.getD 1 undef=.pointer (some ⟨gr,0,none⟩):=hout 1 (Af (by kernel_rfl));have CC:=SOF.out w hG;obtain ⟨C0,C1,C2,C3⟩:=CC;refine Does.val (.agg #[.slice Ar nr cr,.bool sr,.slice Br mr dr,.bool false]) (w':=w) ?_ ⟨Below.refl _ _,rfl,hG⟩;go_simp
   · intro listed σ w a hin hout hl hc hp hG hF;refine Ac.some (d:=82) (b:=true) rfl rfl ((hin 55 82 rfl (hp ⟨55,.guard⟩ (by simp) rfl)).trans (hF 55 (hp ⟨55,.guard⟩ (by simp) rfl))) ?_;refine Or.inl ⟨rfl,?_⟩;refine Does.call ?_ (Bq 5 none 0 0 [] w (EX.none w) (by decide) (by decide) (by decide) (by decide)) ?_
     · go_simp
     · rintro e w' ⟨v,rfl,z,hb⟩;exact ⟨_,rfl,hb,z,hG.next hb⟩
   · intro listed σ w a hin hout hl hc hp hG hF;refine Ac.some (d:=82) (b:=true) rfl rfl ((hin 55 82 rfl (hp ⟨55,.guard⟩ (by simp) rfl)).trans (hF 55 (hp ⟨55,.guard⟩ (by simp) rfl))) ?_;refine Or.inl ⟨rfl,?_⟩;have e83:a.tmps.getD 83 undef=.agg #[.slice Ar nr cr,.bool sr,.slice Br mr dr,.bool false]:=(hin 56 83 rfl (hp ⟨56,.data⟩ (by simp) rfl)).trans (hF 56 (hp ⟨56,.data⟩ (by simp) rfl));have e84:=hin 57 84 rfl (hp ⟨57,.data⟩ (by simp) rfl)
     have z57:=hF 57 (hp ⟨57,.data⟩ (by simp) rfl);refine Does.call ?_ (Nw _ _ [(0,1)] (BU []) (-2) 5 0 false 9 2 w (HR.out.below hG).in_ z57.in_ (by decide) (by decide) (by decide) (by decide) (by decide) (by decide) (by decide)) ?_
     · go_simp
     · rintro e w' ⟨v,rfl,z,hb⟩;exact ⟨_,rfl,hb,(BO.ofEq z (by decide +kernel) (by decide +kernel) rfl),hG.next hb⟩
   · intro listed σ w a hin hout hl hc hp hG hF;refine Ac.some (d:=82) (b:=true) rfl rfl ((hin 55 82 rfl (hp ⟨55,.guard⟩ (by simp) rfl)).trans (hF 55 (hp ⟨55,.guard⟩ (by simp) rfl))) ?_;refine Or.inl ⟨rfl,?_⟩;refine Does.call ?_ (Bq 3 none 0 0 [] w (EX.none w) (by decide) (by decide) (by decide) (by decide)) ?_
     · go_simp
     · rintro e w' ⟨v,rfl,z,hb⟩;exact ⟨_,rfl,hb,z,hG.next hb⟩
   · intro listed σ w a hin hout hl hc hp hG hF;refine Ac.some (d:=82) (b:=true) rfl rfl ((hin 55 82 rfl (hp ⟨55,.guard⟩ (by simp) rfl)).trans (hF 55 (hp ⟨55,.guard⟩ (by simp) rfl))) ?_;refine Or.inl ⟨rfl,?_⟩;have e86:=hin 59 86 rfl (hp ⟨59,.data⟩ (by simp) rfl);have z59:=hF 59 (hp ⟨59,.data⟩ (by simp) rfl);obtain ⟨A7,n7,c7,s7,B7,m7,d7,ev7⟩:=An.form z59;rw[ev7]at e86 z59
     refine Does.val (.agg #[.slice A7 n7 c7,.bool s7,.slice B7 m7 d7,.bool false]) (w':=w) ?_ ⟨Below.refl _ _,⟨A7,n7,c7,s7,B7,m7,d7,rfl,z59⟩,hG⟩;simp only[Array.getD_eq_getD_getElem?]at e86;go_simp
   · intro listed σ w a hin hout hl hc hp hG hF;refine Ac.some (d:=82) (b:=true) rfl rfl ((hin 55 82 rfl (hp ⟨55,.guard⟩ (by simp) rfl)).trans (hF 55 (hp ⟨55,.guard⟩ (by simp) rfl))) ?_;refine Or.inl ⟨rfl,?_⟩;have e85:=hin 58 85 rfl (hp ⟨58,.data⟩ (by simp) rfl);have z58:=hF 58 (hp ⟨58,.data⟩ (by simp) rfl);have e87:=hin 60 87 rfl (hp ⟨60,.data⟩ (by simp) rfl);have z60:=hF 60 (hp ⟨60,.data⟩ (by simp) rfl)
     refine Does.call ?_ (Di _ _ (BU []) 3 false 1010011 2 w z58 z60 (by decide)) ?_
     · go_simp
     · rintro e w' ⟨rfl,hb⟩;exact ⟨_,rfl,hb,rfl,hG.next hb⟩
   · intro listed σ w a hin hout hl hc hp hG hF;refine Ac.none rfl ?_;have e82:a.tmps.getD 82 undef=.bool true:=(hin 55 82 rfl (hp ⟨55,.data⟩ (by simp) rfl)).trans (hF 55 (hp ⟨55,.data⟩ (by simp) rfl));have e88:a.tmps.getD 88 undef=.bool true:=(hin 61 88 rfl (hp ⟨61,.data⟩ (by simp) rfl)).trans (hF 61 (hp ⟨61,.data⟩ (by simp) rfl));refine Does.val (.bool true) (w':=w) ?_ ⟨Below.refl _ _,rfl,hG⟩;simp only[Array.getD_eq_getD_getElem?]at e82 e88;go_simp
   · intro listed σ w a hin hout hl hc hp hG hF;refine Ac.none rfl ?_;have e89:a.tmps.getD 89 undef=.bool true:=(hin 62 89 rfl (hp ⟨62,.data⟩ (by simp) rfl)).trans (hF 62 (hp ⟨62,.data⟩ (by simp) rfl));refine Does.val (.bool true) (w':=w) ?_ ⟨Below.refl _ _,rfl,hG⟩;simp only[Array.getD_eq_getD_getElem?]at e89;go_simp
   · intro listed σ w a hin hout hl hc hp hG hF;refine Ac.some (d:=90) (b:=true) rfl rfl ((hin 63 90 rfl (hp ⟨63,.guard⟩ (by simp) rfl)).trans (hF 63 (hp ⟨63,.guard⟩ (by simp) rfl))) ?_;refine Or.inl ⟨rfl,?_⟩;have e1:a.tmps.getD 1 undef=.pointer (some ⟨gr,0,none⟩):=hout 1 (Af (by kernel_rfl));have CC:=SOF.out w hG;obtain ⟨C0,C1,C2,C3⟩:=CC;refine Does.val (.agg #[.slice Ar nr cr,.bool sr,.slice Br mr dr,.bool false]) (w':=w) ?_ ⟨Below.refl _ _,rfl,hG⟩;go_simp
   · intro listed σ w a hin hout hl hc hp hG hF;refine Ac.some (d:=90) (b:=true) rfl rfl ((hin 63 90 rfl (hp ⟨63,.guard⟩ (by simp) rfl)).trans (hF 63 (hp ⟨63,.guard⟩ (by simp) rfl))) ?_;refine Or.inl ⟨rfl,?_⟩;refine Does.val (.slice (some ⟨w.heap.size,0,none⟩) 1 1) (w':=w.alloc (.cells #[.int .i64 0] 3)) ?_ ⟨Ae w _,⟨w.heap.size,rfl,Aw.new _ _ _⟩,hG.next (Ae w _)⟩;go_simp
   · intro listed σ w a hin hout hl hc hp hG hF;refine Ac.some (d:=90) (b:=true) rfl rfl ((hin 63 90 rfl (hp ⟨63,.guard⟩ (by simp) rfl)).trans (hF 63 (hp ⟨63,.guard⟩ (by simp) rfl))) ?_;refine Or.inl ⟨rfl,?_⟩;refine Does.call ?_ (Bq 5 none 0 0 [] w (EX.none w) (by decide) (by decide) (by decide) (by decide)) ?_
     · go_simp
     · rintro e w' ⟨v,rfl,z,hb⟩;exact ⟨_,rfl,hb,z,hG.next hb⟩
   · intro listed σ w a hin hout hl hc hp hG hF;refine Ac.some (d:=90) (b:=true) rfl rfl ((hin 63 90 rfl (hp ⟨63,.guard⟩ (by simp) rfl)).trans (hF 63 (hp ⟨63,.guard⟩ (by simp) rfl))) ?_;refine Or.inl ⟨rfl,?_⟩;have e93:=hin 66 93 rfl (hp ⟨66,.data⟩ (by simp) rfl);have z66:=hF 66 (hp ⟨66,.data⟩ (by simp) rfl);obtain ⟨A1,n1,c1,s1,B1,m1,d1,ev1⟩:=An.form z66;rw[ev1]at e93 z66
     refine Does.val (.slice (some ⟨w.heap.size,0,none⟩) 1 1) (w':=w.alloc (.cells #[.slice A1 n1 c1,.bool s1,.slice B1 m1 d1] 33)) ?_ ⟨Ae w _,⟨w.heap.size,A1,n1,c1,s1,B1,m1,d1,rfl,Aw.new _ _ _,z66.below (Ae w _)⟩,hG.next (Ae w _)⟩;simp only[Array.getD_eq_getD_getElem?]at e93;go_simp
   · intro listed σ w a hin hout hl hc hp hG hF;refine Ac.some (d:=90) (b:=true) rfl rfl ((hin 63 90 rfl (hp ⟨63,.guard⟩ (by simp) rfl)).trans (hF 63 (hp ⟨63,.guard⟩ (by simp) rfl))) ?_;refine Or.inl ⟨rfl,?_⟩;have e91:a.tmps.getD 91 undef=.agg #[.slice Ar nr cr,.bool sr,.slice Br mr dr,.bool false]:=(hin 64 91 rfl (hp ⟨64,.data⟩ (by simp) rfl)).trans (hF 64 (hp ⟨64,.data⟩ (by simp) rfl));have e92:=hin 65 92 rfl (hp ⟨65,.data⟩ (by simp) rfl)
     obtain ⟨g65,ev65,x65⟩:=hF 65 (hp ⟨65,.data⟩ (by simp) rfl);rw[ev65]at e92;have e94:=hin 67 94 rfl (hp ⟨67,.data⟩ (by simp) rfl);obtain ⟨g67,A1,n1,c1,s1,B1,m1,d1,ev67,x67,zz67⟩:=hF 67 (hp ⟨67,.data⟩ (by simp) rfl);rw[ev67]at e94
     refine Does.call ?_ (J2 _ [(0,1)] (-2) false 9 (some ⟨g65,0,none⟩) 1 1 [0] (some ⟨g67,0,none⟩) 1 1 [⟨A1,n1,c1,s1,B1,m1,d1,BU [],5⟩] 2 w (HR.out.below hG).in_ x65.ints (by decide) (by decide) (Ce.one x67 zz67) (by decide) (fun t ht=>by simp only[List.mem_cons,List.not_mem_nil,or_false]at ht;subst ht;exact (by decide:(0:Nat)<=1000)) (by decide) (by decide) (by decide) (by decide)) ?_
     · go_simp
     · rintro e w' ⟨v,rfl,z,hb⟩;exact ⟨_,rfl,hb,(BO.ofEq (show BO _ _ (norm (DY [0] [(BU [],5)] (norm [(0,1)]))) (-2+Dq [0] [(BU [],5)] (norm [(0,1)])) false 1010011 from z) (by decide +kernel) (by decide +kernel) rfl),hG.next hb⟩
   · intro listed σ w a hin hout hl hc hp hG hF;refine Ac.some (d:=90) (b:=true) rfl rfl ((hin 63 90 rfl (hp ⟨63,.guard⟩ (by simp) rfl)).trans (hF 63 (hp ⟨63,.guard⟩ (by simp) rfl))) ?_;refine Or.inl ⟨rfl,?_⟩;refine Does.call ?_ (Bq 3 none 0 0 [] w (EX.none w) (by decide) (by decide) (by decide) (by decide)) ?_
     · go_simp
     · rintro e w' ⟨v,rfl,z,hb⟩;exact ⟨_,rfl,hb,z,hG.next hb⟩
   · intro listed σ w a hin hout hl hc hp hG hF;refine Ac.some (d:=90) (b:=true) rfl rfl ((hin 63 90 rfl (hp ⟨63,.guard⟩ (by simp) rfl)).trans (hF 63 (hp ⟨63,.guard⟩ (by simp) rfl))) ?_;refine Or.inl ⟨rfl,?_⟩;have e96:=hin 69 96 rfl (hp ⟨69,.data⟩ (by simp) rfl);have z69:=hF 69 (hp ⟨69,.data⟩ (by simp) rfl);obtain ⟨A7,n7,c7,s7,B7,m7,d7,ev7⟩:=An.form z69;rw[ev7]at e96 z69
     refine Does.val (.agg #[.slice A7 n7 c7,.bool s7,.slice B7 m7 d7,.bool false]) (w':=w) ?_ ⟨Below.refl _ _,⟨A7,n7,c7,s7,B7,m7,d7,rfl,z69⟩,hG⟩;simp only[Array.getD_eq_getD_getElem?]at e96;go_simp
   · intro listed σ w a hin hout hl hc hp hG hF;refine Ac.some (d:=90) (b:=true) rfl rfl ((hin 63 90 rfl (hp ⟨63,.guard⟩ (by simp) rfl)).trans (hF 63 (hp ⟨63,.guard⟩ (by simp) rfl))) ?_;refine Or.inl ⟨rfl,?_⟩;have e95:=hin 68 95 rfl (hp ⟨68,.data⟩ (by simp) rfl);have z68:=hF 68 (hp ⟨68,.data⟩ (by simp) rfl);have e97:=hin 70 97 rfl (hp ⟨70,.data⟩ (by simp) rfl);have z70:=hF 70 (hp ⟨70,.data⟩ (by simp) rfl)
     refine Does.call ?_ (Di _ _ (BU []) 3 false 1010011 2 w z68 z70 (by decide)) ?_
     · go_simp
     · rintro e w' ⟨rfl,hb⟩;exact ⟨_,rfl,hb,rfl,hG.next hb⟩
   · intro listed σ w a hin hout hl hc hp hG hF;refine Ac.none rfl ?_;have e90:a.tmps.getD 90 undef=.bool true:=(hin 63 90 rfl (hp ⟨63,.data⟩ (by simp) rfl)).trans (hF 63 (hp ⟨63,.data⟩ (by simp) rfl));have e98:a.tmps.getD 98 undef=.bool true:=(hin 71 98 rfl (hp ⟨71,.data⟩ (by simp) rfl)).trans (hF 71 (hp ⟨71,.data⟩ (by simp) rfl));refine Does.val (.bool true) (w':=w) ?_ ⟨Below.refl _ _,rfl,hG⟩;simp only[Array.getD_eq_getD_getElem?]at e90 e98;go_simp
   · intro listed σ w a hin hout hl hc hp hG hF;refine Ac.none rfl ?_;have e99:a.tmps.getD 99 undef=.bool true:=(hin 72 99 rfl (hp ⟨72,.data⟩ (by simp) rfl)).trans (hF 72 (hp ⟨72,.data⟩ (by simp) rfl));refine Does.val (.bool true) (w':=w) ?_ ⟨Below.refl _ _,rfl,hG⟩;simp only[Array.getD_eq_getD_getElem?]at e99;go_simp
   · intro listed σ w a hin hout hl hc hp hG hF;refine Ac.some (d:=100) (b:=true) rfl rfl ((hin 73 100 rfl (hp ⟨73,.guard⟩ (by simp) rfl)).trans (hF 73 (hp ⟨73,.guard⟩ (by simp) rfl))) ?_;refine Or.inl ⟨rfl,?_⟩;have e1:a.tmps.getD 1 undef=.pointer (some ⟨gr,0,none⟩):=hout 1 (Af (by kernel_rfl));have CC:=SOF.out w hG;obtain ⟨C0,C1,C2,C3⟩:=CC;refine Does.val (.agg #[.slice Ar nr cr,.bool sr,.slice Br mr dr,.bool false]) (w':=w) ?_ ⟨Below.refl _ _,rfl,hG⟩;go_simp
   · intro listed σ w a hin hout hl hc hp hG hF;refine Ac.some (d:=100) (b:=true) rfl rfl ((hin 73 100 rfl (hp ⟨73,.guard⟩ (by simp) rfl)).trans (hF 73 (hp ⟨73,.guard⟩ (by simp) rfl))) ?_;refine Or.inl ⟨rfl,?_⟩;have e101:a.tmps.getD 101 undef=.agg #[.slice Ar nr cr,.bool sr,.slice Br mr dr,.bool false]:=(hin 74 101 rfl (hp ⟨74,.data⟩ (by simp) rfl)).trans (hF 74 (hp ⟨74,.data⟩ (by simp) rfl))
     refine Does.call ?_ (Mg _ [(0,1)] (-2) 2 false 9 w (HR.out.below hG).in_ (by decide) (by decide) (by decide) (by decide) (by decide)) ?_
     · go_simp
     · rintro e w' ⟨v,rfl,z,hb⟩;exact ⟨_,rfl,hb,(BO.ofEq z (by decide +kernel) rfl rfl),hG.next hb⟩
   · intro listed σ w a hin hout hl hc hp hG hF;refine Ac.some (d:=100) (b:=true) rfl rfl ((hin 73 100 rfl (hp ⟨73,.guard⟩ (by simp) rfl)).trans (hF 73 (hp ⟨73,.guard⟩ (by simp) rfl))) ?_;refine Or.inl ⟨rfl,?_⟩;have e102:=hin 75 102 rfl (hp ⟨75,.data⟩ (by simp) rfl);have z75:=hF 75 (hp ⟨75,.data⟩ (by simp) rfl);refine Does.call ?_ (LQ _ [(2,1)] (-2) false 1010009 w z75.in_ (by decide) (by decide)) ?_
     · go_simp
     · rintro e w' ⟨A,c,rfl,z,h1,h2,hb⟩;exact ⟨_,rfl,hb,⟨A,c,rfl⟩,hG.next hb⟩
   · intro listed σ w a hin hout hl hc hp hG hF;refine Ac.some (d:=100) (b:=true) rfl rfl ((hin 73 100 rfl (hp ⟨73,.guard⟩ (by simp) rfl)).trans (hF 73 (hp ⟨73,.guard⟩ (by simp) rfl))) ?_;refine Or.inl ⟨rfl,?_⟩;have e103:=hin 76 103 rfl (hp ⟨76,.data⟩ (by simp) rfl);obtain ⟨A76,c76,ev76⟩:=hF 76 (hp ⟨76,.data⟩ (by simp) rfl);rw[ev76]at e103;refine Does.val (.int .i64 1) (w':=w) ?_ ⟨Below.refl _ _,rfl,hG⟩;simp only[Array.getD_eq_getD_getElem?]at e103;go_simp
   · intro listed σ w a hin hout hl hc hp hG hF;refine Ac.some (d:=100) (b:=true) rfl rfl ((hin 73 100 rfl (hp ⟨73,.guard⟩ (by simp) rfl)).trans (hF 73 (hp ⟨73,.guard⟩ (by simp) rfl))) ?_;refine Or.inl ⟨rfl,?_⟩;have e104:a.tmps.getD 104 undef=.int .i64 1:=(hin 77 104 rfl (hp ⟨77,.data⟩ (by simp) rfl)).trans (hF 77 (hp ⟨77,.data⟩ (by simp) rfl));refine Does.val (.bool true) (w':=w) ?_ ⟨Below.refl _ _,rfl,hG⟩;simp only[Array.getD_eq_getD_getElem?]at e104;go_simp
   · intro listed σ w a hin hout hl hc hp hG hF;refine Ac.none rfl ?_;have e100:a.tmps.getD 100 undef=.bool true:=(hin 73 100 rfl (hp ⟨73,.data⟩ (by simp) rfl)).trans (hF 73 (hp ⟨73,.data⟩ (by simp) rfl));have e105:a.tmps.getD 105 undef=.bool true:=(hin 78 105 rfl (hp ⟨78,.data⟩ (by simp) rfl)).trans (hF 78 (hp ⟨78,.data⟩ (by simp) rfl));refine Does.val (.bool true) (w':=w) ?_ ⟨Below.refl _ _,rfl,hG⟩;simp only[Array.getD_eq_getD_getElem?]at e100 e105;go_simp
   · intro listed σ w a hin hout hl hc hp hG hF;refine Ac.none rfl ?_;have e106:a.tmps.getD 106 undef=.bool true:=(hin 79 106 rfl (hp ⟨79,.data⟩ (by simp) rfl)).trans (hF 79 (hp ⟨79,.data⟩ (by simp) rfl));refine Does.val (.bool true) (w':=w) ?_ ⟨Below.refl _ _,rfl,hG⟩;simp only[Array.getD_eq_getD_getElem?]at e106;go_simp
 · intro listed σ W9 hall hG hF
   rw[show mid _ σ listed _=(Act.put (Act.put (Act.put (Act.put (Act.put (Act.put (Act.put (Act.put (Act.put (Act.put (Act.put (Act.put (Act.put (Act.put (Act.put (Act.put (Act.put (Act.put (Act.put (Act.put (Act.put (Act.put (Act.put (Act.put (Act.put (Act.put (Act.put (Act.put (Act.put (Act.put (Act.put (Act.put (Act.put (Act.put (Act.put (Act.put (Act.put (Act.put (Act.put (Act.put (Act.put (Act.put (Act.put (Act.put (Act.put (Act.put (Act.put (Act.put (Act.put (Act.put (Act.put (Act.put (Act.put (Act.put (Act.put (Act.put (Act.put (Act.put (Act.put (Act.put (Act.put (Act.put (Act.put (Act.put (Act.put (Act.put (Act.put (Act.put (Act.put (Act.put (Act.put (Act.put (Act.put (Act.put (Act.put (Act.put (Act.put (Act.put (Act.put (Act.put (Act.put _ (some 27) (σ 0)) (some 28) (σ 1)) (some 29) (σ 2)) (some 30) (σ 3)) (some 31) (σ 4)) (some 32) (σ 5)) (some 33) (σ 6)) (some 34) (σ 7)) (some 35) (σ 8)) (some 36) (σ 9)) (some 37) (σ 10)) (some 38) (σ 11)) (some 39) (σ 12)) (some 40) (σ 13)) (some 41) (σ 14)) (some 42) (σ 15)) (some 43) (σ 16)) (some 44) (σ 17)) (some 45) (σ 18)) (some 46) (σ 19)) (some 47) (σ 20)) (some 48) (σ 21)) (some 49) (σ 22)) (some 50) (σ 23)) (some 51) (σ 24)) (some 52) (σ 25)) (some 53) (σ 26)) (some 54) (σ 27)) (some 55) (σ 28)) (some 56) (σ 29)) (some 57) (σ 30)) (some 58) (σ 31)) (some 59) (σ 32)) (some 60) (σ 33)) (some 61) (σ 34)) (some 62) (σ 35)) (some 63) (σ 36)) (some 64) (σ 37)) (some 65) (σ 38)) (some 66) (σ 39)) (some 67) (σ 40)) (some 68) (σ 41)) (some 69) (σ 42)) (some 70) (σ 43)) (some 71) (σ 44)) (some 72) (σ 45)) (some 73) (σ 46)) (some 74) (σ 47)) (some 75) (σ 48)) (some 76) (σ 49)) (some 77) (σ 50)) (some 78) (σ 51)) (some 79) (σ 52)) (some 80) (σ 53)) (some 81) (σ 54)) (some 82) (σ 55)) (some 83) (σ 56)) (some 84) (σ 57)) (some 85) (σ 58)) (some 86) (σ 59)) (some 87) (σ 60)) (some 88) (σ 61)) (some 89) (σ 62)) (some 90) (σ 63)) (some 91) (σ 64)) (some 92) (σ 65)) (some 93) (σ 66)) (some 94) (σ 67)) (some 95) (σ 68)) (some 96) (σ 69)) (some 97) (σ 70)) (some 98) (σ 71)) (some 99) (σ 72)) (some 100) (σ 73)) (some 101) (σ 74)) (some 102) (σ 75)) (some 103) (σ 76)) (some 104) (σ 77)) (some 105) (σ 78)) (some 106) (σ 79)) (some 0) (σ 80)) from (BP hall).trans rfl]
   generalize σ 0=tt0;generalize σ 1=tt1;generalize σ 2=tt2;generalize σ 3=tt3;generalize σ 4=tt4;generalize σ 5=tt5;generalize σ 6=tt6;generalize σ 7=tt7;generalize σ 8=tt8;generalize σ 9=tt9;generalize σ 10=tt10;generalize σ 11=tt11;generalize σ 12=tt12;generalize σ 13=tt13;generalize σ 14=tt14;generalize σ 15=tt15;generalize σ 16=tt16;generalize σ 17=tt17;generalize σ 18=tt18;generalize σ 19=tt19;generalize σ 20=tt20;generalize σ 21=tt21;generalize σ 22=tt22
   generalize σ 23=tt23;generalize σ 24=tt24;generalize σ 25=tt25;generalize σ 26=tt26;generalize σ 27=tt27;generalize σ 28=tt28;generalize σ 29=tt29;generalize σ 30=tt30;generalize σ 31=tt31;generalize σ 32=tt32;generalize σ 33=tt33;generalize σ 34=tt34;generalize σ 35=tt35;generalize σ 36=tt36;generalize σ 37=tt37;generalize σ 38=tt38;generalize σ 39=tt39;generalize σ 40=tt40;generalize σ 41=tt41;generalize σ 42=tt42;generalize σ 43=tt43;generalize σ 44=tt44
   generalize σ 45=tt45;generalize σ 46=tt46;generalize σ 47=tt47;generalize σ 48=tt48;generalize σ 49=tt49;generalize σ 50=tt50;generalize σ 51=tt51;generalize σ 52=tt52;generalize σ 53=tt53;generalize σ 54=tt54;generalize σ 55=tt55;generalize σ 56=tt56;generalize σ 57=tt57;generalize σ 58=tt58;generalize σ 59=tt59;generalize σ 60=tt60;generalize σ 61=tt61;generalize σ 62=tt62;generalize σ 63=tt63;generalize σ 64=tt64;generalize σ 65=tt65;generalize σ 66=tt66
   generalize σ 67=tt67;generalize σ 68=tt68;generalize σ 69=tt69;generalize σ 70=tt70;generalize σ 71=tt71;generalize σ 72=tt72;generalize σ 73=tt73;generalize σ 74=tt74;generalize σ 75=tt75;generalize σ 76=tt76;generalize σ 77=tt77;generalize σ 78=tt78;generalize σ 79=tt79;rw[show σ 80=.bool true from hF 80 (by decide)];simp only[Act.put,List.setIfInBounds_toArray,List.set_cons_zero,List.set_cons_succ];have TG:=hG;clear hF hG hall;clear σ;have HE:=Ad (HB11.out.next TG)
   clear TG SOF;go_wp2_with fail;go_ret
   exact ⟨rfl,HE.out⟩
end
end Go.Proofs.YtemfjdedjcjegaaGreatDoor
