import Derived.Test.YtffegeaflohfhaaGreatDoorS23
import Derived.Test.YtffegeaflohfhaaGreatDoorS25
import Derived.Test.YtffegeaflohfhaaGreatDoorS26
import Derived.Test.YtffegeaflohfhaaGreatDoorS02
set_option linter.unusedVariables false
set_option linter.unusedSimpArgs false
set_option maxRecDepth 100000
set_option maxHeartbeats 8000000
namespace Go.Proofs.YtffegeaflohfhaaGreatDoor
open Go.RowKit
theorem sz_of {p q r:Int} (hp:-9223372036854775808 <= p) (hp':p < 9223372036854775808) (hq:-9223372036854775808 <= q) (hq':q < 9223372036854775808) (hr:-9223372036854775808 <= r) (hr':r < 9223372036854775808):Sz (ofR p q r) 2:=by
 unfold ofR Cx.ratio
 obtain ⟨d,hd⟩:∃ d:Int,d = if r = 0 then 1 else r:=⟨_,rfl⟩
 rw [<- hd]
 have h0:d ≠ 0:=by rw [hd]; split <;> omega
 have h1:-9223372036854775808 <= d /\ d < 9223372036854775808:=by rw [hd]; split <;> omega
 clear hd
 have w1:=wl_i64 hp hp'
 have w2:=wl_i64 hq hq'
 have w3:=wl_i64 h1.1 h1.2
 refine Sz.of (d:=d.natAbs) oM (ratio_terms h0) (ratio_terms h0) ?_ ?_ w3
 ·split
  ·rw [Int.natAbs_neg]; exact w1
  ·exact w1
 ·split
  ·rw [Int.natAbs_neg]; exact w2
  ·exact w2
theorem tobits_run (w:World) (n:Nat):(callFunc 41 #[.float .f64 n]).run Tryz.prog w = .ok (.value (.int .u64 (n:Int))) w:=by
 rw [run_callFunc_extern (f:=41) (fn:=Tryz.f41) (e:=Extern.MathFloatBits.float64bits) kR kR kR kR kR]
 rfl
def awQ:Cx:=(ofR 1 2 0).div (ofR 3 (-1) 0)
theorem awQ_eq:awQ = ⟨1 / 10,7 / 10⟩:=dK
theorem awQ_ne:ofR 3 (-1) 0 ≠ .zero:=dK
theorem awQ_text:ctext awQ = [49,47,49,48,43,55,47,49,48,105]:=dK
theorem awQ_norm:ctext awQ.norm = [49,47,50]:=dK
theorem awQ_low:Low awQ 1 7 10:=by
 rw [awQ_eq]
 exact ⟨oM,dE,dK,dK⟩
def awF:Nat -> Nat -> Cx:=fun i=>if i = 0 then row2 (.int 1) (ofR 0 1 0) else row2 (.int 2) (.int 3)
theorem awD_eq:detF 2 awF = ⟨3,-2⟩:=dK
theorem awD_text:ctext ⟨3,-2⟩ = [51,45,50,105]:=dK
theorem aw_near:nearB 1 10 = 4591870180066957722:=dK
def kRow (n:Nat) (f:Nat -> Cx):Value -> World -> Prop:=fun v W=>∃ g,v = .slice (some ⟨g,0,none⟩) n n /\ NBlk W g n f
def kMat (n m:Nat) (F:Nat -> Nat -> Cx):Value -> World -> Prop:=fun v W=>∃ go gi,v = .slice (some ⟨go,0,none⟩) n n /\ MatAt W go gi n m F
theorem stab_row (n:Nat) (f:Nat -> Cx):StabB (kRow n f):=fun _ _ _ hb ⟨g,h1,h2⟩=>⟨g,h1,h2.below hb⟩
theorem stab_mat (n m:Nat) (F:Nat -> Nat -> Cx):StabB (kMat n m F):=fun _ _ _ hb ⟨g,gi,h1,h2⟩=>⟨g,gi,h1,h2.below hb⟩
theorem sz_awQ:Sz awQ 10:=((sz_of (p:=1) (q:=2) (r:=0) oM oM oM oM oM oM).div (sz_of (p:=3) (q:=-1) (r:=0) oM oM oM oM oM oM)).mono oM
theorem awF_sz:∀ a b,a < 2 -> b < 2 -> Sz (awF a b) 3:=fun a b ha hb=>by
 unfold awF
 have hi:∀ k:Int,-1000 <= k -> k <= 1000 -> Sz (.int k) 3:=fun k h1 h2=>Sz.int (by have:=wl_i64 (z:=k) oM oM; omega) oM
 have hd:=(sz_of (p:=0) (q:=1) (r:=0) oM oM oM oM oM oM).mono (show 2 <= 3 by omega)
 have ha:a = 0 ∨ a = 1:=oM
 have hb:b = 0 ∨ b = 1:=oM
 rcases ha with rfl | rfl <;> rcases hb with rfl | rfl
 ·exact hi 1 oM oM
 ·exact hd
 ·exact hi 2 oM oM
 ·exact hi 3 oM oM
theorem aw_szD:Sz (detF 2 awF) 300:=by
 rw [awD_eq]
 exact Sz.of (d:=1) (a:=3) (b:=-2) oM dK dK dK dK dK
theorem awF_bd:33 * (szE 3 2 + 2) < 549755813888:=dE
theorem awake_any (w:World) (hT:Tab w):Calls Tryz.prog 7 #[] w fun e w'=>e = .returned (.bool true) /\ Below w.heap.size w w':=by
 have HT:=hid hT
 clear hT
 go_enter Tryz.func7,Tryz.ntmps7
 go_upto_region 1 with fail
 have B1:Below w.heap.size w w:=Below.refl _ _
 refine region_lin [.val (kIs (.agg #[.int .i64 (1),.int .i64 (2),.int .i64 (0)])),.val (kNum (ofR (1) (2) (0))),.val (kIs (.agg #[.int .i64 (3),.int .i64 (-1),.int .i64 (0)])),.val (kNum (ofR (3) (-1) (0))),.val (kTup (awQ) 0),.val (kTup (awQ) 0),.val (kNum (awQ)),.val (kIs (.int .i64 0)),.box 35 zNum,.put 8 6,.val (kIs (.int .i64 0))]
  kR kR kR kR kR ⟨stab_is _,stab_num _,stab_is _,stab_num _,stab_tup _ _,stab_tup _ _,stab_num _,stab_is _,stab_is _,trivial⟩ sP ⟨?_,?_,?_,?_,?_,?_,?_,?_,alloc_num,store_num _,?_,trivial⟩ ?_
 ·intro ts W hb hB hp K hK
  simp only [fillT,zA,Nat.reduceAdd,sA,sB,sC] at hK ⊢
  have HK:=hid hK
  clear hK hp
  refine ⟨?_⟩
  go_simp
  exact HK.out _ _ rfl rfB
 ·intro ts W hb hB hp
  have h0:ts 0 = _:=hp 0 kR
  intro K hK
  simp only [fillT,zA,Nat.reduceAdd,sA,sB,sC,h0] at hK ⊢
  have HK:=hid hK
  clear hK hp
  refine ⟨?_⟩
  go_simp
  refine (of_any (1) (2) (0) W oM oM oM oM oM oM (HT.out.below (bT B1 hb))).mono ?_
  rintro e W9 ⟨r9,rfl,hr9,hb9⟩
  exact HK.out _ _ hr9 hb9
 ·intro ts W hb hB hp K hK
  simp only [fillT,zA,Nat.reduceAdd,sA,sB,sC] at hK ⊢
  have HK:=hid hK
  clear hK hp
  refine ⟨?_⟩
  go_simp
  exact HK.out _ _ rfl rfB
 ·intro ts W hb hB hp
  have h2:ts 2 = _:=hp 2 kR
  intro K hK
  simp only [fillT,zA,Nat.reduceAdd,sA,sB,sC,h2] at hK ⊢
  have HK:=hid hK
  clear hK hp
  refine ⟨?_⟩
  go_simp
  refine (of_any (3) (-1) (0) W oM oM oM oM oM oM (HT.out.below (bT B1 hb))).mono ?_
  rintro e W9 ⟨r9,rfl,hr9,hb9⟩
  exact HK.out _ _ hr9 hb9
 ·intro ts W hb hB hp
  have h1:IsNum W (ts 1) (ofR (1) (2) (0)):=hp 1 kR
  have h3:IsNum W (ts 3) (ofR (3) (-1) (0)):=hp 3 kR
  intro K hK
  simp only [fillT,zA,Nat.reduceAdd,sA,sB,sC] at hK ⊢
  have HK:=hid hK
  clear hK hp
  refine ⟨?_⟩
  go_simp
  refine ((by have hd:=divN_any (ts 1) (ts 3) (ofR 1 2 0) (ofR 3 (-1) 0) W h1 h3 2 2 (sz_of oM oM oM oM oM oM) (sz_of oM oM oM oM oM oM) oM (HT.out.below (bT B1 hb)); rw [if_neg awQ_ne] at hd; exact hd:Calls Tryz.prog 38 #[ts 1,ts 3] W (RetNumE W awQ 0))).mono ?_
  rintro e W9 ⟨r9,rfl,hr9,hb9⟩
  exact HK.out _ _ ⟨r9,rfl,hr9⟩ hb9
 ·intro ts W hb hB hp
  have h4:=hp 4 kR
  intro K hK
  simp only [fillT,zA,Nat.reduceAdd,sA,sB,sC] at hK ⊢
  have HK:=hid hK
  clear hK hp
  refine ⟨?_⟩
  go_simp
  exact HK.out _ _ h4 rfB
 ·intro ts W hb hB hp
  have h5:=hp 5 kR
  intro K hK
  obtain ⟨u5,e5,n5⟩:=h5
  simp only [fillT,zA,Nat.reduceAdd,sA,sB,sC,e5] at hK ⊢
  have HK:=hid hK
  clear hK hp
  refine ⟨?_⟩
  go_simp
  exact HK.out _ _ n5 rfB
 ·intro ts W hb hB hp
  have h5:=hp 5 kR
  intro K hK
  obtain ⟨u5,e5,n5⟩:=h5
  simp only [fillT,zA,Nat.reduceAdd,sA,sB,sC,e5] at hK ⊢
  have HK:=hid hK
  clear hK hp
  refine ⟨?_⟩
  go_simp
  exact HK.out _ _ rfl rfB
 ·intro ts W hb hB hp
  have h7:ts 7 = _:=hp 7 kR
  intro K hK
  simp only [fillT,zA,Nat.reduceAdd,sA,sB,sC,h7] at hK ⊢
  have HK:=hid hK
  clear hK hp
  refine ⟨?_⟩
  go_simp
  exact HK.out _ _ rfl rfB
 intro ts W2 hb2 hh hap
 obtain ⟨g1,A1,n1,c1,p1,A1b,n1b,c1b,p1b,A1c,n1c,c1c,e8,lo1,z1,X1,N1⟩:=held_box (x:=awQ) (hh 8 sP) rfl (hh 9 sP) rfl (hh 6 sP) rfl
 have e10:=held_is (hh 10 sP) rfl
 simp only [fillT,zA,Nat.reduceAdd,sA,sB,sC,e8,e10]
 clear hh hap e8 e10
 generalize ts 0 = u0_W2 at *
 generalize ts 1 = u1_W2 at *
 generalize ts 2 = u2_W2 at *
 generalize ts 3 = u3_W2 at *
 generalize ts 4 = u4_W2 at *
 generalize ts 5 = u5_W2 at *
 generalize ts 6 = u6_W2 at *
 generalize ts 7 = u7_W2 at *
 clear ts
 have B2:=hb2
 clear hb2 lo1 B1
 have HX:=hid X1
 clear X1
 go_upto_region 2 with fail
 refine region_lin [.val (kNum (.int 1)),.val (kIs (.agg #[.int .i64 (0),.int .i64 (1),.int .i64 (0)])),.val (kNum (ofR (0) (1) (0))),.val (kRow 2 (row2 (.int 1) (ofR 0 1 0))),.val (kNum (.int 2)),.val (kNum (.int 3)),.val (kRow 2 (row2 (.int 2) (.int 3))),.val (kMat 2 2 awF),.val (kMat 2 2 awF)]
  kR kR kR kR kR ⟨Stab.b (stab_num _),Stab.b (stab_is _),Stab.b (stab_num _),stab_row _ _,Stab.b (stab_num _),Stab.b (stab_num _),stab_row _ _,stab_mat _ _ _,stab_mat _ _ _,trivial⟩ sP ⟨?_,?_,?_,?_,?_,?_,?_,?_,?_,trivial⟩ ?_
 ·intro ts W hb hB hp K hK
  simp only [fillT,zA,Nat.reduceAdd,sA,sB,sC] at hK ⊢
  have HK:=hid hK
  clear hK hp
  refine ⟨?_⟩
  go_simp
  refine (int_any 1 W oM oM).mono ?_
  rintro e W9 ⟨r9,rfl,hr9,hb9⟩
  exact HK.out _ _ hr9 hb9
 ·intro ts W hb hB hp K hK
  simp only [fillT,zA,Nat.reduceAdd,sA,sB,sC] at hK ⊢
  have HK:=hid hK
  clear hK hp
  refine ⟨?_⟩
  go_simp
  exact HK.out _ _ rfl rfB
 ·intro ts W hb hB hp
  have h1:ts 1 = _:=hp 1 kR
  intro K hK
  simp only [fillT,zA,Nat.reduceAdd,sA,sB,sC,h1] at hK ⊢
  have HK:=hid hK
  clear hK hp
  refine ⟨?_⟩
  go_simp
  refine (of_any (0) (1) (0) W oM oM oM oM oM oM (HT.out.below (bT B2 hb))).mono ?_
  rintro e W9 ⟨r9,rfl,hr9,hb9⟩
  exact HK.out _ _ hr9 hb9
 ·intro ts W hb hB hp
  have h0:IsNum W (ts 0) (.int 1):=hp 0 kR
  have h2:IsNum W (ts 2) (ofR (0) (1) (0)):=hp 2 kR
  intro K hK
  simp only [fillT,zA,Nat.reduceAdd,sA,sB,sC] at hK ⊢
  have HK:=hid hK
  clear hK hp
  obtain ⟨W8,hr8,hb8,hn8⟩:=build2 W (ts 0) (ts 2) _ _ h0 h2
  refine ⟨?_⟩
  exact wp_buildSlice rfl (by simp [Act.eval]) hr8 (HK.out _ _ ⟨_,rfl,hn8⟩ hb8)
 ·intro ts W hb hB hp K hK
  simp only [fillT,zA,Nat.reduceAdd,sA,sB,sC] at hK ⊢
  have HK:=hid hK
  clear hK hp
  refine ⟨?_⟩
  go_simp
  refine (int_any 2 W oM oM).mono ?_
  rintro e W9 ⟨r9,rfl,hr9,hb9⟩
  exact HK.out _ _ hr9 hb9
 ·intro ts W hb hB hp K hK
  simp only [fillT,zA,Nat.reduceAdd,sA,sB,sC] at hK ⊢
  have HK:=hid hK
  clear hK hp
  refine ⟨?_⟩
  go_simp
  refine (int_any 3 W oM oM).mono ?_
  rintro e W9 ⟨r9,rfl,hr9,hb9⟩
  exact HK.out _ _ hr9 hb9
 ·intro ts W hb hB hp
  have h4:IsNum W (ts 4) (.int 2):=hp 4 kR
  have h5:IsNum W (ts 5) (.int 3):=hp 5 kR
  intro K hK
  simp only [fillT,zA,Nat.reduceAdd,sA,sB,sC] at hK ⊢
  have HK:=hid hK
  clear hK hp
  obtain ⟨W8,hr8,hb8,hn8⟩:=build2 W (ts 4) (ts 5) _ _ h4 h5
  refine ⟨?_⟩
  exact wp_buildSlice rfl (by simp [Act.eval]) hr8 (HK.out _ _ ⟨_,rfl,hn8⟩ hb8)
 ·intro ts W hb hB hp
  have h3:=hp 3 kR
  have h6:=hp 6 kR
  intro K hK
  obtain ⟨g3,e3,n3⟩:=h3
  obtain ⟨g6,e6,n6⟩:=h6
  simp only [fillT,zA,Nat.reduceAdd,sA,sB,sC,e3,e6] at hK ⊢
  have HK:=hid hK
  clear hK hp
  have hr8:=buildM2_run W (some ⟨g3,0,none⟩) (some ⟨g6,0,none⟩) 2 2 2 2
  have hb8:Below W.heap.size W (W.alloc (.cells #[.slice (some ⟨g3,0,none⟩) 2 2,.slice (some ⟨g6,0,none⟩) 2 2] 46 (0,0))):=below_alloc _ _
  have hm8:MatAt (W.alloc (.cells #[.slice (some ⟨g3,0,none⟩) 2 2,.slice (some ⟨g6,0,none⟩) 2 2] 46 (0,0))) W.heap.size (fun i=>if i = 0 then g3 else g6) 2 2 awF:=by
   refine ⟨_,heap_alloc_new _ _,rfl,fun i hi=>?_,fun i hi=>?_⟩
   ·have:i = 0 ∨ i = 1:=oM
    rcases this with rfl | rfl <;> rfl
   ·have:i = 0 ∨ i = 1:=oM
    rcases this with rfl | rfl
    ·exact n3.below hb8
    ·exact n6.below hb8
  refine ⟨?_⟩
  exact wp_buildSlice rfl (by simp [Act.eval]) hr8 (HK.out _ _ ⟨_,_,rfl,hm8⟩ hb8)
 ·intro ts W hb hB hp
  have h7:=hp 7 kR
  intro K hK
  simp only [fillT,zA,Nat.reduceAdd,sA,sB,sC] at hK ⊢
  have HK:=hid hK
  clear hK hp
  refine ⟨?_⟩
  go_simp
  exact HK.out _ _ h7 rfB
 intro ts W3 hb3 hh hap
 have h8:kMat 2 2 awF (ts 8) W3:=(hh 8 sP)
 obtain ⟨go,gi,e8,hM⟩:=h8
 simp only [fillT,zA,Nat.reduceAdd,sA,sB,sC,e8]
 clear hh hap
 generalize ts 0 = u0_W3 at *
 generalize ts 1 = u1_W3 at *
 generalize ts 2 = u2_W3 at *
 generalize ts 3 = u3_W3 at *
 generalize ts 4 = u4_W3 at *
 generalize ts 5 = u5_W3 at *
 generalize ts 6 = u6_W3 at *
 generalize ts 7 = u7_W3 at *
 clear e8 ts
 have HM:=hid hM
 have N3:=N1.below hb3
 have X1:=(hb3.block g1 z1).trans HX.out
 have z3:g1 < W3.heap.size:=lL z1 hb3.size
 have B3:=bT B2 hb3
 clear hb3 hM N1 z1 HX B2
 have HX:=hid X1
 clear X1
 have hdet:=hid (fun W (hb:Below W3.heap.size W3 W)=>detN_any W go gi 2 3 awF (HM.out.below hb) oM oM (HT.out.below (bT B3 hb)) awF_sz awF_bd)
 go_upto_region 3 with fail
 refine region_lin [.val (kIs (.slice (some ⟨go,0,none⟩) 2 2)),.val (kTup (detF 2 awF) 0),.val (kTup (detF 2 awF) 0),.val (kNum (detF 2 awF)),.val (kIs (.int .i64 0)),.box 35 zNum,.put 5 3,.val (kIs (.int .i64 0))]
  kR kR kR kR kR ⟨stab_is _,stab_tup _ _,stab_tup _ _,stab_num _,stab_is _,stab_is _,trivial⟩ sP ⟨?_,?_,?_,?_,?_,alloc_num,store_num _,?_,trivial⟩ ?_
 ·intro ts W hb hB hp K hK
  simp only [fillT,zA,Nat.reduceAdd,sA,sB,sC] at hK ⊢
  have HK:=hid hK
  clear hK hp
  refine ⟨?_⟩
  go_simp
  exact HK.out _ _ rfl rfB
 ·intro ts W hb hB hp
  have h0:ts 0 = _:=hp 0 kR
  intro K hK
  simp only [fillT,zA,Nat.reduceAdd,sA,sB,sC,h0] at hK ⊢
  have HK:=hid hK
  clear hK hp
  refine ⟨?_⟩
  go_simp
  refine (hdet.out W hb).mono ?_
  rintro e W9 ⟨r9,rfl,hr9,hb9⟩
  exact HK.out _ _ ⟨r9,rfl,hr9⟩ hb9
 ·intro ts W hb hB hp
  have h1:=hp 1 kR
  intro K hK
  simp only [fillT,zA,Nat.reduceAdd,sA,sB,sC] at hK ⊢
  have HK:=hid hK
  clear hK hp
  refine ⟨?_⟩
  go_simp
  exact HK.out _ _ h1 rfB
 ·intro ts W hb hB hp
  have h2:=hp 2 kR
  intro K hK
  obtain ⟨u2,e2,n2⟩:=h2
  simp only [fillT,zA,Nat.reduceAdd,sA,sB,sC,e2] at hK ⊢
  have HK:=hid hK
  clear hK hp
  refine ⟨?_⟩
  go_simp
  exact HK.out _ _ n2 rfB
 ·intro ts W hb hB hp
  have h2:=hp 2 kR
  intro K hK
  obtain ⟨u2,e2,n2⟩:=h2
  simp only [fillT,zA,Nat.reduceAdd,sA,sB,sC,e2] at hK ⊢
  have HK:=hid hK
  clear hK hp
  refine ⟨?_⟩
  go_simp
  exact HK.out _ _ rfl rfB
 ·intro ts W hb hB hp
  have h4:ts 4 = _:=hp 4 kR
  intro K hK
  simp only [fillT,zA,Nat.reduceAdd,sA,sB,sC,h4] at hK ⊢
  have HK:=hid hK
  clear hK hp
  refine ⟨?_⟩
  go_simp
  exact HK.out _ _ rfl rfB
 intro ts W4 hb4 hh hap
 obtain ⟨g2,A2,n2,c2,p2,A2b,n2b,c2b,p2b,A2c,n2c,c2c,e5,lo2,z2,X2,N2⟩:=held_box (x:=detF 2 awF) (hh 5 sP) rfl (hh 6 sP) rfl (hh 3 sP) rfl
 have e7:=held_is (hh 7 sP) rfl
 simp only [fillT,zA,Nat.reduceAdd,sA,sB,sC,e5,e7]
 clear hh hap e5 e7
 generalize ts 0 = u0_W4 at *
 generalize ts 1 = u1_W4 at *
 generalize ts 2 = u2_W4 at *
 generalize ts 3 = u3_W4 at *
 generalize ts 4 = u4_W4 at *
 clear ts
 have N4:=N3.below hb4
 have X1:=(hb4.block g1 z3).trans HX.out
 have z4:g1 < W4.heap.size:=lL z3 hb4.size
 have B4:=bT B3 hb4
 rw [awD_eq] at N2
 clear hb4 N3 z3 HX B3 hdet HM lo2
 have T1:=hid (fun W (hb:Below W4.heap.size W4 W)=>text_any _ awQ W (N4.below hb) (HT.out.below (bT B4 hb)) 10 sz_awQ oM)
 have T2:=hid (fun v W (h:IsNum W v awQ.norm) (hb:Below W4.heap.size W4 W)=>text_any v awQ.norm W h (HT.out.below (bT B4 hb)) 21 sz_awQ.norm oM)
 have T3:=hid (fun W (hb:Below W4.heap.size W4 W)=>text_any _ ⟨3,-2⟩ W (N2.below hb) (HT.out.below (bT B4 hb)) 300 (awD_eq ▸ aw_szD) oM)
 have T4:=hid (fun W (hb:Below W4.heap.size W4 W)=>normN_any _ awQ W (N4.below hb) 10 sz_awQ oM (HT.out.below (bT B4 hb)))
 have T5:=hid (fun W (hb:Below W4.heap.size W4 W)=>near_any _ awQ 1 7 10 W (N4.below hb) awQ_low dK dK dK)
 rw [awQ_text] at T1
 rw [awQ_norm] at T2
 rw [awD_text] at T3
 rw [aw_near] at T5
 have hfb:=hid tobits_run
 go_upto_region 4 with fail
 refine region_lin [.val (kIs (.int .i64 0)),.val (kIs (.bool true)),.val (kIs (.bool true)),.val (kIs (.int .i64 0)),.val (kIs (.bool true)),.val (kIs (.bool true)),.val (kIs (.bool true)),.val (kIs (.agg #[.slice A1 n1 c1,.bool p1,.slice A1b n1b c1b,.bool p1b,.slice A1c n1c c1c])),.val (kIs (.string { data:=#[49,47,49,48,43,55,47,49,48,105] })),.val (kIs (.bool true)),.val (kIs (.bool true)),.val (kIs (.bool true)),.val (kIs (.agg #[.slice A1 n1 c1,.bool p1,.slice A1b n1b c1b,.bool p1b,.slice A1c n1c c1c])),.val (kNum (awQ.norm)),.val (kIs (.string { data:=#[49,47,50] })),.val (kIs (.bool true)),.val (kIs (.bool true)),.val (kIs (.bool true)),.val (kIs (.agg #[.slice A2 n2 c2,.bool p2,.slice A2b n2b c2b,.bool p2b,.slice A2c n2c c2c])),.val (kIs (.string { data:=#[51,45,50,105] })),.val (kIs (.bool true)),.val (kIs (.bool true)),.val (kIs (.bool true)),.val (kIs (.agg #[.slice A1 n1 c1,.bool p1,.slice A1b n1b c1b,.bool p1b,.slice A1c n1c c1c])),.val (kIs (.complex .f64 4591870180066957722 (nearB 7 10))),.val (kIs (.float .f64 4591870180066957722)),.val (kIs (.int .u64 4591870180066957722)),.val (kIs (.int .u64 4591870180066957722)),.val (kIs (.bool true)),.val (kIs (.bool true)),.val (kIs (.bool true))]
  kR kR kR kR kR ⟨Stab.b (stab_is _),Stab.b (stab_is _),Stab.b (stab_is _),Stab.b (stab_is _),Stab.b (stab_is _),Stab.b (stab_is _),Stab.b (stab_is _),Stab.b (stab_is _),Stab.b (stab_is _),Stab.b (stab_is _),Stab.b (stab_is _),Stab.b (stab_is _),Stab.b (stab_is _),Stab.b (stab_num _),Stab.b (stab_is _),Stab.b (stab_is _),Stab.b (stab_is _),Stab.b (stab_is _),Stab.b (stab_is _),Stab.b (stab_is _),Stab.b (stab_is _),Stab.b (stab_is _),Stab.b (stab_is _),Stab.b (stab_is _),Stab.b (stab_is _),Stab.b (stab_is _),Stab.b (stab_is _),Stab.b (stab_is _),Stab.b (stab_is _),Stab.b (stab_is _),Stab.b (stab_is _),trivial⟩ sP ⟨?_,?_,?_,?_,?_,?_,?_,?_,?_,?_,?_,?_,?_,?_,?_,?_,?_,?_,?_,?_,?_,?_,?_,?_,?_,?_,?_,?_,?_,?_,?_,trivial⟩ ?_
 ·intro ts W hb hB hp K hK
  simp only [fillT,zA,Nat.reduceAdd,sA,sB,sC] at hK ⊢
  have HK:=hid hK
  clear hK hp
  refine ⟨?_⟩
  go_simp
  exact HK.out _ _ rfl rfB
 ·intro ts W hb hB hp
  have h0:ts 0 = _:=hp 0 kR
  intro K hK
  simp only [fillT,zA,Nat.reduceAdd,sA,sB,sC,h0] at hK ⊢
  have HK:=hid hK
  clear hK hp
  refine ⟨?_⟩
  go_simp
  exact HK.out _ _ rfl rfB
 ·intro ts W hb hB hp
  have h1:ts 1 = _:=hp 1 kR
  intro K hK
  simp only [fillT,zA,Nat.reduceAdd,sA,sB,sC,h1] at hK ⊢
  have HK:=hid hK
  clear hK hp
  refine ⟨?_⟩
  go_simp
  exact HK.out _ _ rfl rfB
 ·intro ts W hb hB hp
  have h2:ts 2 = _:=hp 2 kR
  refine Guarded.on h2 ?_
  clear h2
  intro K hK
  simp only [fillT,zA,Nat.reduceAdd,sA,sB,sC] at hK ⊢
  have HK:=hid hK
  clear hK hp
  refine ⟨?_⟩
  go_simp
  exact HK.out _ _ rfl rfB
 ·intro ts W hb hB hp
  have h3:ts 3 = _:=hp 3 kR
  have h2:ts 2 = _:=hp 2 kR
  refine Guarded.on h2 ?_
  clear h2
  intro K hK
  simp only [fillT,zA,Nat.reduceAdd,sA,sB,sC,h3] at hK ⊢
  have HK:=hid hK
  clear hK hp
  refine ⟨?_⟩
  go_simp
  exact HK.out _ _ rfl rfB
 ·intro ts W hb hB hp
  have h2:ts 2 = _:=hp 2 kR
  have h4:ts 4 = _:=hp 4 kR
  intro K hK
  simp only [fillT,zA,Nat.reduceAdd,sA,sB,sC,h2,h4] at hK ⊢
  have HK:=hid hK
  clear hK hp
  refine ⟨?_⟩
  go_simp
  exact HK.out _ _ rfl rfB
 ·intro ts W hb hB hp
  have h5:ts 5 = _:=hp 5 kR
  intro K hK
  simp only [fillT,zA,Nat.reduceAdd,sA,sB,sC,h5] at hK ⊢
  have HK:=hid hK
  clear hK hp
  refine ⟨?_⟩
  go_simp
  exact HK.out _ _ rfl rfB
 ·intro ts W hb hB hp
  have h6:ts 6 = _:=hp 6 kR
  refine Guarded.on h6 ?_
  clear h6
  intro K hK
  simp only [fillT,zA,Nat.reduceAdd,sA,sB,sC] at hK ⊢
  refine ⟨?_⟩
  refine wp_load_row _ _ rfl (g1) rfl _ _ (0,0) _ ((hb.block _ (z4)).trans X1) Tryz.underlying35 rfl kR ?_
  exact hK _ _ rfl rfB
 ·intro ts W hb hB hp
  have h7:ts 7 = _:=hp 7 kR
  have h6:ts 6 = _:=hp 6 kR
  refine Guarded.on h6 ?_
  clear h6
  intro K hK
  simp only [fillT,zA,Nat.reduceAdd,sA,sB,sC,h7] at hK ⊢
  have HK:=hid hK
  clear hK hp
  refine ⟨?_⟩
  go_simp
  refine (T1.out W hb).mono ?_
  rintro e W9 ⟨rfl,hb9⟩
  exact HK.out _ _ rfl hb9
 ·intro ts W hb hB hp
  have h8:ts 8 = _:=hp 8 kR
  have h6:ts 6 = _:=hp 6 kR
  refine Guarded.on h6 ?_
  clear h6
  intro K hK
  simp only [fillT,zA,Nat.reduceAdd,sA,sB,sC,h8] at hK ⊢
  have HK:=hid hK
  clear hK hp
  refine ⟨?_⟩
  go_simp
  exact HK.out _ _ rfl rfB
 ·intro ts W hb hB hp
  have h6:ts 6 = _:=hp 6 kR
  have h9:ts 9 = _:=hp 9 kR
  intro K hK
  simp only [fillT,zA,Nat.reduceAdd,sA,sB,sC,h6,h9] at hK ⊢
  have HK:=hid hK
  clear hK hp
  refine ⟨?_⟩
  go_simp
  exact HK.out _ _ rfl rfB
 ·intro ts W hb hB hp
  have h10:ts 10 = _:=hp 10 kR
  intro K hK
  simp only [fillT,zA,Nat.reduceAdd,sA,sB,sC,h10] at hK ⊢
  have HK:=hid hK
  clear hK hp
  refine ⟨?_⟩
  go_simp
  exact HK.out _ _ rfl rfB
 ·intro ts W hb hB hp
  have h11:ts 11 = _:=hp 11 kR
  refine Guarded.on h11 ?_
  clear h11
  intro K hK
  simp only [fillT,zA,Nat.reduceAdd,sA,sB,sC] at hK ⊢
  refine ⟨?_⟩
  refine wp_load_row _ _ rfl (g1) rfl _ _ (0,0) _ ((hb.block _ (z4)).trans X1) Tryz.underlying35 rfl kR ?_
  exact hK _ _ rfl rfB
 ·intro ts W hb hB hp
  have h12:ts 12 = _:=hp 12 kR
  have h11:ts 11 = _:=hp 11 kR
  refine Guarded.on h11 ?_
  clear h11
  intro K hK
  simp only [fillT,zA,Nat.reduceAdd,sA,sB,sC,h12] at hK ⊢
  have HK:=hid hK
  clear hK hp
  refine ⟨?_⟩
  go_simp
  refine (T4.out W hb).mono ?_
  rintro e W9 ⟨r9,rfl,hr9,hb9⟩
  exact HK.out _ _ hr9 hb9
 ·intro ts W hb hB hp
  have h13:IsNum W (ts 13) (awQ.norm):=hp 13 kR
  have h11:ts 11 = _:=hp 11 kR
  refine Guarded.on h11 ?_
  clear h11
  intro K hK
  simp only [fillT,zA,Nat.reduceAdd,sA,sB,sC] at hK ⊢
  have HK:=hid hK
  clear hK hp
  refine ⟨?_⟩
  go_simp
  refine (T2.out (ts 13) W h13 hb).mono ?_
  rintro e W9 ⟨rfl,hb9⟩
  exact HK.out _ _ rfl hb9
 ·intro ts W hb hB hp
  have h14:ts 14 = _:=hp 14 kR
  have h11:ts 11 = _:=hp 11 kR
  refine Guarded.on h11 ?_
  clear h11
  intro K hK
  simp only [fillT,zA,Nat.reduceAdd,sA,sB,sC,h14] at hK ⊢
  have HK:=hid hK
  clear hK hp
  refine ⟨?_⟩
  go_simp
  exact HK.out _ _ rfl rfB
 ·intro ts W hb hB hp
  have h11:ts 11 = _:=hp 11 kR
  have h15:ts 15 = _:=hp 15 kR
  intro K hK
  simp only [fillT,zA,Nat.reduceAdd,sA,sB,sC,h11,h15] at hK ⊢
  have HK:=hid hK
  clear hK hp
  refine ⟨?_⟩
  go_simp
  exact HK.out _ _ rfl rfB
 ·intro ts W hb hB hp
  have h16:ts 16 = _:=hp 16 kR
  intro K hK
  simp only [fillT,zA,Nat.reduceAdd,sA,sB,sC,h16] at hK ⊢
  have HK:=hid hK
  clear hK hp
  refine ⟨?_⟩
  go_simp
  exact HK.out _ _ rfl rfB
 ·intro ts W hb hB hp
  have h17:ts 17 = _:=hp 17 kR
  refine Guarded.on h17 ?_
  clear h17
  intro K hK
  simp only [fillT,zA,Nat.reduceAdd,sA,sB,sC] at hK ⊢
  refine ⟨?_⟩
  refine wp_load_row _ _ rfl (g2) rfl _ _ (0,0) _ ((hb.block _ (z2)).trans X2) Tryz.underlying35 rfl kR ?_
  exact hK _ _ rfl rfB
 ·intro ts W hb hB hp
  have h18:ts 18 = _:=hp 18 kR
  have h17:ts 17 = _:=hp 17 kR
  refine Guarded.on h17 ?_
  clear h17
  intro K hK
  simp only [fillT,zA,Nat.reduceAdd,sA,sB,sC,h18] at hK ⊢
  have HK:=hid hK
  clear hK hp
  refine ⟨?_⟩
  go_simp
  refine (T3.out W hb).mono ?_
  rintro e W9 ⟨rfl,hb9⟩
  exact HK.out _ _ rfl hb9
 ·intro ts W hb hB hp
  have h19:ts 19 = _:=hp 19 kR
  have h17:ts 17 = _:=hp 17 kR
  refine Guarded.on h17 ?_
  clear h17
  intro K hK
  simp only [fillT,zA,Nat.reduceAdd,sA,sB,sC,h19] at hK ⊢
  have HK:=hid hK
  clear hK hp
  refine ⟨?_⟩
  go_simp
  exact HK.out _ _ rfl rfB
 ·intro ts W hb hB hp
  have h17:ts 17 = _:=hp 17 kR
  have h20:ts 20 = _:=hp 20 kR
  intro K hK
  simp only [fillT,zA,Nat.reduceAdd,sA,sB,sC,h17,h20] at hK ⊢
  have HK:=hid hK
  clear hK hp
  refine ⟨?_⟩
  go_simp
  exact HK.out _ _ rfl rfB
 ·intro ts W hb hB hp
  have h21:ts 21 = _:=hp 21 kR
  intro K hK
  simp only [fillT,zA,Nat.reduceAdd,sA,sB,sC,h21] at hK ⊢
  have HK:=hid hK
  clear hK hp
  refine ⟨?_⟩
  go_simp
  exact HK.out _ _ rfl rfB
 ·intro ts W hb hB hp
  have h22:ts 22 = _:=hp 22 kR
  refine Guarded.on h22 ?_
  clear h22
  intro K hK
  simp only [fillT,zA,Nat.reduceAdd,sA,sB,sC] at hK ⊢
  refine ⟨?_⟩
  refine wp_load_row _ _ rfl (g1) rfl _ _ (0,0) _ ((hb.block _ (z4)).trans X1) Tryz.underlying35 rfl kR ?_
  exact hK _ _ rfl rfB
 ·intro ts W hb hB hp
  have h23:ts 23 = _:=hp 23 kR
  have h22:ts 22 = _:=hp 22 kR
  refine Guarded.on h22 ?_
  clear h22
  intro K hK
  simp only [fillT,zA,Nat.reduceAdd,sA,sB,sC,h23] at hK ⊢
  have HK:=hid hK
  clear hK hp
  refine ⟨?_⟩
  go_simp
  refine (T5.out W hb).mono ?_
  rintro e W9 ⟨rfl,hb9⟩
  exact HK.out _ _ rfl hb9
 ·intro ts W hb hB hp
  have h24:ts 24 = _:=hp 24 kR
  have h22:ts 22 = _:=hp 22 kR
  refine Guarded.on h22 ?_
  clear h22
  intro K hK
  simp only [fillT,zA,Nat.reduceAdd,sA,sB,sC,h24] at hK ⊢
  have HK:=hid hK
  clear hK hp
  refine ⟨?_⟩
  go_simp
  exact HK.out _ _ rfl rfB
 ·intro ts W hb hB hp
  have h25:ts 25 = _:=hp 25 kR
  have h22:ts 22 = _:=hp 22 kR
  refine Guarded.on h22 ?_
  clear h22
  intro K hK
  simp only [fillT,zA,Nat.reduceAdd,sA,sB,sC,h25] at hK ⊢
  have HK:=hid hK
  clear hK hp
  have hfb1:=fun w=>hfb.out w 4591870180066957722
  refine ⟨?_⟩
  go_simp
  exact HK.out _ _ rfl rfB
 ·intro ts W hb hB hp
  have h22:ts 22 = _:=hp 22 kR
  refine Guarded.on h22 ?_
  clear h22
  intro K hK
  simp only [fillT,zA,Nat.reduceAdd,sA,sB,sC] at hK ⊢
  have HK:=hid hK
  clear hK hp
  have hfb1:=fun w=>hfb.out w 4591870180066957722
  refine ⟨?_⟩
  go_simp
  exact HK.out _ _ rfl rfB
 ·intro ts W hb hB hp
  have h26:ts 26 = _:=hp 26 kR
  have h27:ts 27 = _:=hp 27 kR
  have h22:ts 22 = _:=hp 22 kR
  refine Guarded.on h22 ?_
  clear h22
  intro K hK
  simp only [fillT,zA,Nat.reduceAdd,sA,sB,sC,h26,h27] at hK ⊢
  have HK:=hid hK
  clear hK hp
  refine ⟨?_⟩
  go_simp
  exact HK.out _ _ rfl rfB
 ·intro ts W hb hB hp
  have h22:ts 22 = _:=hp 22 kR
  have h28:ts 28 = _:=hp 28 kR
  intro K hK
  simp only [fillT,zA,Nat.reduceAdd,sA,sB,sC,h22,h28] at hK ⊢
  have HK:=hid hK
  clear hK hp
  refine ⟨?_⟩
  go_simp
  exact HK.out _ _ rfl rfB
 ·intro ts W hb hB hp
  have h29:ts 29 = _:=hp 29 kR
  intro K hK
  simp only [fillT,zA,Nat.reduceAdd,sA,sB,sC,h29] at hK ⊢
  have HK:=hid hK
  clear hK hp
  refine ⟨?_⟩
  go_simp
  exact HK.out _ _ rfl rfB
 intro ts W5 hb5 hh hap
 have e30:=held_is (hh 30 sP) rfl
 simp only [fillT,zA,Nat.reduceAdd,sA,sB,sC,e30]
 clear hh hap e30
 generalize ts 0 = u0_W5 at *
 generalize ts 1 = u1_W5 at *
 generalize ts 2 = u2_W5 at *
 generalize ts 3 = u3_W5 at *
 generalize ts 4 = u4_W5 at *
 generalize ts 5 = u5_W5 at *
 generalize ts 6 = u6_W5 at *
 generalize ts 7 = u7_W5 at *
 generalize ts 8 = u8_W5 at *
 generalize ts 9 = u9_W5 at *
 generalize ts 10 = u10_W5 at *
 generalize ts 11 = u11_W5 at *
 generalize ts 12 = u12_W5 at *
 generalize ts 13 = u13_W5 at *
 generalize ts 14 = u14_W5 at *
 generalize ts 15 = u15_W5 at *
 generalize ts 16 = u16_W5 at *
 generalize ts 17 = u17_W5 at *
 generalize ts 18 = u18_W5 at *
 generalize ts 19 = u19_W5 at *
 generalize ts 20 = u20_W5 at *
 generalize ts 21 = u21_W5 at *
 generalize ts 22 = u22_W5 at *
 generalize ts 23 = u23_W5 at *
 generalize ts 24 = u24_W5 at *
 generalize ts 25 = u25_W5 at *
 generalize ts 26 = u26_W5 at *
 generalize ts 27 = u27_W5 at *
 generalize ts 28 = u28_W5 at *
 generalize ts 29 = u29_W5 at *
 clear ts
 have B5:=bT B4 hb5
 clear hb5 T1 T2 T3 T4 T5 X1 X2 N4 N2
 go_wp2
 go_ret
 exact ⟨rfl,B5⟩
end Go.Proofs.YtffegeaflohfhaaGreatDoor
