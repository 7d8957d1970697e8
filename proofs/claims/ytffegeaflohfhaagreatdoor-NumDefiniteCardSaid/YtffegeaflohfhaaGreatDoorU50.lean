import Derived.Test.YtffegeaflohfhaaGreatDoorS30
import Derived.Test.YtffegeaflohfhaaGreatDoorU43
import Derived.Test.YtffegeaflohfhaaGreatDoorU49
import Derived.Test.YtffegeaflohfhaaGreatDoorU15
import Derived.Test.YtffegeaflohfhaaGreatDoorU27
import Derived.Test.YtffegeaflohfhaaGreatDoorU35
import Derived.Test.YtffegeaflohfhaaGreatDoorU36
import Derived.Test.YtffegeaflohfhaaGreatDoorS02
set_option linter.unusedVariables false
set_option linter.unusedSimpArgs false
set_option maxRecDepth 100000
set_option maxHeartbeats 8000000
/-
 What is proved: for every list of lists m and every list b of plain data,the law NumDefinite returns true (Definite and Form return what the reference returns,and the vector of Definite is one with a form below zero),and its arguments read afterwards as before.
 Conditions: those of the given card alone: the table math/bits.deBruijn32tab lies as the program's text lays it (the card ties it).
-/
namespace Go.Proofs.YtffegeaflohfhaaGreatDoor
open Go.RowKit
theorem RetDN.one {w w':World} {n:Nat} {F:Nat -> Nat -> Cx} {b:Bool} {k:Int} {e:Ending} (h:RetDN w n F b k e w'):∃ A N c,e = .returned (.tuple #[.bool b,.slice A N c,.int .i64 k]) /\ Below w.heap.size w w' /\ (¬ (b = false /\ k = 0) -> N = 0) /\
  (b = false /\ k = 0 -> n = N /\ n = c /\ ∃ g v,A = some ⟨g,0,none⟩ /\ NBlk w' g n v /\ (∀ j,j < n -> Sz (v j) 10000000) /\ (bf n 0 F v v).im = 0 /\ (bf n 0 F v v).re < 0):=by
 obtain ⟨hb,⟨h1,rfl⟩ | ⟨rfl,rfl,g,v,rfl,h2⟩⟩:=h
 ·exact ⟨none,0,0,rfl,hb,fun _=>rfl,fun h=>absurd h h1⟩
 ·exact ⟨_,n,n,rfl,hb,fun h=>absurd ⟨rfl,rfl⟩ h,fun _=>⟨rfl,rfl,g,v,rfl,h2⟩⟩
theorem bf_big {n:Nat} {F:Nat -> Nat -> Cx} {v:Nat -> Cx} (hn:n <= 5) (hF:∀ i k,Sz (F i k) 2) (hv:∀ j,j < n -> Sz (v j) 10000000):Sz (bf n 0 F v v) 400000000:=by
 unfold bf
 refine (sm_sz (p:=60000100) (n - 0) 0 fun i _ hi=>((hv i oM).conj.mul (sm_sz (p:=10000003) (n - 0) 0 fun j _ hj=>(hF i j).mul (hv j oM))).mono ?_).mono ?_
 ·have:=Nat.mul_le_mul_right (10000003 + 1) (show n - 0 <= 5 by omega)
  omega
 ·have:=Nat.mul_le_mul_right (60000100 + 1) (show n - 0 <= 5 by omega)
  omega
theorem psd_cmp {n:Nat} {F:Nat -> Nat -> Cx} (h:Psd n 0 F) (v:Nat -> Cx):0 <= cmpC (bf n 0 F v v) .zero:=by
 have h1:=h.pos v
 have h2:=congrArg Cx.im (bf_herm h v v)
 simp only [Cx.conj] at h2
 rcases cmpC_cases (bf n 0 F v v) .zero with ⟨h3,h4⟩ | ⟨h3,-⟩ | ⟨h3,-⟩
 ·exfalso
  simp only [Cx.zero] at h4
  rcases h4 with h4 | ⟨h4,h5⟩ <;> grind
 ·omega
 ·omega
theorem neg_cmp {x:Cx} (h:x.re < 0):cmpC x .zero = -1:=by
 rcases cmpC_cases x .zero with ⟨h3,-⟩ | ⟨-,h4,-⟩ | ⟨-,h4⟩
 ·exact h3
 ·simp only [Cx.zero] at h4; grind
 ·simp only [Cx.zero] at h4; rcases h4 with h4 | ⟨h4,-⟩ <;> grind
theorem numDefinite_walk (w:World) (A A':Option Addr) (n cap p cap':Nat) (ml:Nat -> Nat) (f:Nat -> Nat -> Int × Int × Int) (g:Nat -> Int × Int × Int) (hR:RatSS w A n ml f) (hR':RatS w A' p g) (h64:∀ i,Rat64 (f i)) (h64':Rat64 g)
  (hl:n <= 9223372036854775807) (hp:p <= 9223372036854775807) (hml:∀ i,i < n -> ml i <= 9223372036854775807) (hT:Tab w) :
  Calls Tryz.prog 5 #[.slice A n cap,.slice A' p cap'] w fun e w'=>e = .returned (.bool true) /\ Below w.heap.size w w':=by
 have HS1:=hid (fun W (hb:Below w.heap.size w W)=>small_any2 W A n cap ml f (hR.below hb) hl hml)
 have HAW:=hid (fun W (hb:Below w.heap.size w W)=>awake_any W (hT.below hb))
 have HT:=hid hT
 have HRR:=hid hR
 have HRR':=hid hR'
 have H64:=hid h64
 have H64':=hid h64'
 clear hR hR' h64 h64' hl hml hT
 go_enter Tryz.func5,Tryz.ntmps5
 go_wp2_with fail
 refine (HS1.out w rfB).mono ?_
 rintro e W1 ⟨b1,rfl,hs1,hb1⟩
 have X1:=hid hs1
 clear hs1
 cases b1
 ·go_wp2_with fail
  refine (HAW.out _ hb1).mono ?_
  rintro e W2 ⟨rfl,hb2⟩
  go_wp2
  go_ret
  exact ⟨rfl,bT hb1 hb2⟩
 by_cases hp40:40 < p
 ·have d1:(40:Int) < (p:Int):=oM
  have d2:decide ((40:Int) < (p:Int)) = true:=sO
  go_wp2_with fail
  refine (HAW.out _ hb1).mono ?_
  rintro e W2 ⟨rfl,hb2⟩
  go_wp2
  go_ret
  exact ⟨rfl,bT hb1 hb2⟩
 have d2:decide ((40:Int) < (p:Int)) = false:=sO
 have hp4:p <= 40:=oM
 have KB1:=hid hb1
 clear hb1 hp hp40
 obtain ⟨hn,hml,hV⟩:=X1.out (by trivial)
 have HF:∀ i k,Sz (ratF (f i) k) 2:=fun i k=>by
  obtain ⟨⟨a1,a2⟩,⟨a3,a4⟩,a5,a6⟩:=H64.out i k
  exact sz_of a1 a2 a3 a4 a5 a6
 have HG:∀ k,Sz (ratF g k) 2:=fun k=>by
  obtain ⟨⟨a1,a2⟩,⟨a3,a4⟩,a5,a6⟩:=H64'.out k
  exact sz_of a1 a2 a3 a4 a5 a6
 obtain ⟨b,k1,hk1,hP,hSq,hn1,hq1⟩:=definite_both (F:=fun i=>ratF (f i)) HF hn hml hV
 obtain ⟨k2,x1,hk2,hx1,hx2,hn2,hq2⟩:=form_both (p:=p) (F:=fun i=>ratF (f i)) (f:=ratF g) HF hn hml hV HG
 have IS:Hid (∀ W (_:Below w.heap.size w W) v u,IsNum W v x1 -> IsQ W u x1 -> Calls Tryz.prog 12 #[v,u] W fun e w'=>e = .returned (.bool true) /\ Below W.heap.size W w') :=
  hid (fun W hb v u h h'=>is_any v u x1 W h h' (HT.out.below hb) 2000 hx1 oM)
 have R1:=hid (fun W (hb:Below w.heap.size w W)=>rows_any W A n cap ml f (HRR.out.below hb) H64.out oM (fun i hi=>Nat.le_trans (hml i hi) oM) (HT.out.below hb))
 have T1:=hid (fun W (hb:Below w.heap.size w W)=>refrows_any W A n cap ml f (HRR.out.below hb) H64.out oM (fun i hi=>Nat.le_trans (hml i hi) oM))
 have LI:=hid (fun W (hb:Below w.heap.size w W)=>list_any W A' p cap' g (HRR'.out.below hb) H64'.out oM (HT.out.below hb))
 have RL:=hid (fun W (hb:Below w.heap.size w W)=>reflist_any W A' p cap' g (HRR'.out.below hb) H64'.out oM)
 obtain ⟨F,hFe⟩:∃ F:Nat -> Nat -> Cx,F = fun i=>ratF (f i):=⟨_,rfl⟩
 obtain ⟨fb,hbe⟩:∃ fb:Nat -> Cx,fb = ratF g:=⟨_,rfl⟩
 have HF0:=hid (show ∀ i k,Sz (F i k) 2 by rw [hFe]; exact HF)
 have HPS:=hid (show b = true -> Psd n 0 F by rw [hFe]; exact fun h=>(hP h).1)
 have HX2:=hid (show k2 = 0 -> x1 = bf n 0 F fb fb by rw [hFe,hbe]; exact hx2)
 have DN:=hid hn1
 have DQ:=hid hq1
 have FN:=hid hn2
 have FQ:=hid hq2
 have HSQ:=hid (fun h=>(show Sqr n ml /\ n <= 5 from ⟨hSq h,(hV (hSq h).1).1⟩))
 have HX1:=hid hx1
 have HK12:=hid hk1
 have HK2:=hid hk2
 rw [<- hFe] at R1 T1 DN DQ FN FQ
 rw [<- hbe] at LI RL FN FQ
 have HI0:=hid (fun W=>int_any 0 W oM oM)
 rw [Cx.int_zero'] at HI0
 clear hn hml hV HF HG hk1 hP hSq hn1 hq1 hk2 hx1 hx2 hn2 hq2 X1 HS1 HRR HRR' H64 H64' hFe hbe
 -- num.Definite(Rows(m))
 go_wp2_with fail
 refine (R1.out W1 KB1.out).mono ?_
 rintro e W2 ⟨g2,rfl,hr,-,hb⟩
 have KB2:=hid (bT KB1.out hb)
 have L2:=hid hr
 clear hr hb R1
 generalize W1.heap.size = a1 at *
 go_wp2_with fail
 refine (DN.out W2 _ _ (HT.out.below KB2.out) L2.out).mono ?_
 intro e W3 hr
 obtain ⟨A3,N3,c3,rfl,hb,hN0,hN1⟩:=hr.one
 have KB3:=hid (bT KB2.out hb)
 have L3:=hid (L2.out.below hb)
 have HN0:=hid hN0
 have HN1:=hid hN1
 clear hr hb hN0 hN1 DN L2
 -- ref.Definite(refRows(m))
 go_wp2_with fail
 refine (T1.out W3 KB3.out).mono ?_
 rintro e W4 ⟨g4,rfl,hr,-,hb⟩
 have K34:=hid hb
 have KB4:=hid (bT KB3.out hb)
 have L4:=hid (L3.out.below hb)
 have Q4:=hid hr
 clear hr hb L3
 go_wp2_with fail
 refine (DQ.out W4 _ _ Q4.out).mono ?_
 rintro e W5 ⟨rfl,hb⟩
 have K35:=hid (bT K34.out hb)
 have KB5:=hid (bT KB4.out hb)
 have L5:=hid (L4.out.below hb)
 clear hb DQ Q4 L4 K34
 -- num.Form(h,List(w))
 go_wp2_with fail
 refine (LI.out W5 KB5.out).mono ?_
 rintro e W6 ⟨rfl,hr,hb⟩
 have K36:=hid (K35.out.trans (hb.mono K35.out.size))
 have KB6:=hid (bT KB5.out hb)
 have L6:=hid (L5.out.below hb)
 have B6:=hid hr
 clear hr hb LI L5 K35
 generalize W5.heap.size = a5 at *
 go_wp2_with fail
 refine (FN.out W6 _ _ _ (HT.out.below KB6.out) L6.out B6.out).mono ?_
 rintro e W7 ⟨v7,rfl,hv,hb⟩
 obtain ⟨A1,n1,c1,p1,A2,n2,c2,p2,A4,n4,c4,ia,ib,id,rfl,-⟩:=hv.parts
 have K37:=hid (K36.out.trans (hb.mono K36.out.size))
 have KB7:=hid (bT KB6.out hb)
 have L7:=hid (L6.out.below hb)
 have V7:=hid hv
 clear hv hb FN L6 B6 K36
 go_wp2_with fail
 -- ref.Form(refRows(m),refList(w)),behind x's box
 obtain ⟨WA,hWA⟩:∃ WA:World,WA = W7.alloc (.cells #[.slice A1 n1 c1,.bool p1,.slice A2 n2 c2,.bool p2,.slice A4 n4 c4] 35):=⟨_,rfl⟩
 have D7:Below W7.heap.size W7 WA:=by rw [hWA]; exact below_alloc _ _
 have hXA:WA.heap[W7.heap.size]? = some (.cells #[.slice A1 n1 c1,.bool p1,.slice A2 n2 c2,.bool p2,.slice A4 n4 c4] 35 (0,0)):=by rw [hWA]; exact heap_alloc_new _ _
 rw [<- hWA]
 obtain ⟨gx,hgx⟩:∃ gx,gx = W7.heap.size:=⟨_,rfl⟩
 have hgx1:gx < WA.heap.size:=by rw [hgx,hWA]; simp
 have K3A:=hid (K37.out.trans (D7.mono K37.out.size))
 have KBA:=hid (bT KB7.out D7)
 have LA:=hid (L7.out.below D7)
 have VA:=hid (V7.out.below D7)
 rw [<- hgx] at hXA ⊢
 have XA:=hid hXA
 clear hWA D7 hXA hgx L7 V7 KB7 K37
 refine (T1.out WA KBA.out).mono ?_
 rintro e WB ⟨gB,rfl,hr,-,hb⟩
 have K3B:=hid (K3A.out.trans (hb.mono K3A.out.size))
 have KBB:=hid (bT KBA.out hb)
 have LB:=hid (LA.out.below hb)
 have VB:=hid (VA.out.below hb)
 have XB:=hid ((hb.block gx hgx1).trans XA.out)
 have QB:=hid hr
 have hgxB:gx < WB.heap.size:=lL hgx1 hb.size
 clear hr hb T1 LA VA XA K3A KBA hgx1
 generalize WA.heap.size = aA at *
 go_wp2_with fail
 refine (RL.out WB KBB.out).mono ?_
 rintro e WC ⟨rfl,hr,hb⟩
 have K3C:=hid (K3B.out.trans (hb.mono K3B.out.size))
 have KBC:=hid (bT KBB.out hb)
 have LC:=hid (LB.out.below hb)
 have VC:=hid (VB.out.below hb)
 have XC:=hid ((hb.block gx hgxB).trans XB.out)
 have QC:=hid (QB.out.below hb)
 have BC:=hid hr
 have hgxC:gx < WC.heap.size:=lL hgxB hb.size
 clear hr hb RL LB VB XB QB K3B KBB hgxB
 generalize WB.heap.size = aB at *
 go_wp2_with fail
 refine (FQ.out WC _ _ _ QC.out BC.out).mono ?_
 rintro e WD ⟨vD,rfl,hq,hb⟩
 obtain ⟨A5,n5,c5,p5,A6,n6,c6,p6,A7,n7,c7,ja,jb,jd,rfl,-⟩:=hq.parts
 go_upto_region 8 with fail
 obtain ⟨W8,hW8⟩:∃ W8:World,W8 = WD.alloc (.cells #[.bool p5,.slice A5 n5 c5,.bool p6,.slice A6 n6 c6,.slice A7 n7 c7] 42):=⟨_,rfl⟩
 rw [<- hW8]
 have D8:Below WD.heap.size WD W8:=by rw [hW8]; exact below_alloc _ _
 have e8:W8.heap[WD.heap.size]? = some (.cells #[.bool p5,.slice A5 n5 c5,.bool p6,.slice A6 n6 c6,.slice A7 n7 c7] 42 (0,0)):=by rw [hW8]; exact heap_alloc_new _ _
 have C8:=bT hb D8
 have X8:=(C8.block gx hgxC).trans XC.out
 have HX8:=hid (NBlk.one' X8 (VC.out.below C8))
 obtain ⟨b0,b1,b2,b3,b4,-,-,-,-,-⟩:=bx5 X8
 obtain ⟨d0,d1,d2,d3,d4,-,-,-,-,-⟩:=bx5 e8
 have K38:=hid (K3C.out.trans (C8.mono K3C.out.size))
 have KB8:=hid (bT KBC.out C8)
 have L8:=hid (LC.out.below C8)
 have V8:=hid (VC.out.below C8)
 have U8:=hid (hq.below D8)
 clear hq hb D8 e8 C8 X8 hW8 FQ LC VC XC QC BC K3C KBC hgxC
 generalize WD.heap.size = gy at *
 have hIs:=IS.out W8 KB8.out _ _ V8.out U8.out
 have HIS:=hid hIs
 clear hIs IS V8 U8
 have key:∀ W9:World,Below W8.heap.size W8 W9 -> True:=fun _ _=>trivial
 clear key
 cases b
 ·rcases HK12.out with h0 | ⟨hk14,-⟩
  ·-- not definite: a vector
   subst h0
   obtain ⟨hN,hC,gv,v,hA3,hv1,hv2,hv3,hv4⟩:=HN1.out ⟨rfl,rfl⟩
   subst hN hA3 hC
   obtain ⟨hsq,hn5⟩:=HSQ.out rfl
   have HV1:=hid (hv1.below K38.out)
   have HV2:=hid hv2
   have HV3:=hid hv3
   have HV4:=hid hv4
   have HALL:=hid hsq.all
   clear hv1 hv2 hv3 hv4 hsq HN0 HN1 HSQ HPS HX2
   go_wp2_with fail
   refine HIS.out.mono ?_
   rintro e W6 ⟨rfl,hb⟩
   have KB6:=hid (bT KB8.out hb)
   have L6:=hid (L8.out.below hb)
   have HV6:=hid (HV1.out.below hb)
   clear hb HIS L8 HX8 b0 b1 b2 b3 b4 d0 d1 d2 d3 d4 HV1 K38
   go_upto_region 10 with fail
   refine region_litA [.val (kIs (.bool false)),.val (kIs (.bool false)),.val (kIs (undef)),.val (kIs (undef)),.val (kIs (.bool false)),.val (kIs (.bool false)),.val (kIs (undef)),.val (kIs (undef)),.val (kIs (undef)),.val (kIs (undef)),.val (kIs (.bool false))]
    ?fl2 ?hfl2 kR kR kR kR kR ⟨Stab.b (stab_is _),Stab.b (stab_is _),Stab.b (stab_is _),Stab.b (stab_is _),Stab.b (stab_is _),Stab.b (stab_is _),Stab.b (stab_is _),Stab.b (stab_is _),Stab.b (stab_is _),Stab.b (stab_is _),Stab.b (stab_is _),trivial⟩ sP ⟨obN (uMf rfl .fr),obN (uMv 0),obZ 1,obZ 1,obN (uPf rfl (.is 1) .k),obN (uMv 4),obZ 5,obZ 5,obZ 5,obZ 5,obN (uPf rfl (.is 5) .k),trivial⟩ ?_
   case hfl2=>intro ts; simp only [fillT,zA,Nat.reduceAdd,sA,sB,sC]; rfl
   intro ts W7 hb7 hh hap
   have e1:=held_is (hh 10 sP) rfl
   simp only [e1]
   clear hh hap e1
   have KB7:=hid (bT KB6.out hb7)
   have L7:=hid (L6.out.below hb7)
   have HV7:=hid (HV6.out.below hb7)
   clear hb7 L6 HV6 KB6
   go_wp2_with fail
   refine (formN_ok W7 _ gv _ n 10000000 F v (L7.out.mat HALL.out) HV7.out hn5 (HT.out.below KB7.out) (fun i k _ _=>(HF0.out i k).mono oM) HV2.out oM).mono ?_
   rintro e W9 ⟨v9,rfl,hv,hb⟩
   obtain ⟨B1,o1,e1,q1,B2,o2,e2,q2,B4,o4,e4,ka,kb,kd,rfl,-⟩:=hv.parts
   go_upto_region 15 with fail
   obtain ⟨WZ,hWZ⟩:∃ WZ:World,WZ = W9.alloc (.cells #[.slice B1 o1 e1,.bool q1,.slice B2 o2 e2,.bool q2,.slice B4 o4 e4] 35):=⟨_,rfl⟩
   rw [<- hWZ]
   have D9:Below W9.heap.size W9 WZ:=by rw [hWZ]; exact below_alloc _ _
   have hXZ:WZ.heap[W9.heap.size]? = some (.cells #[.slice B1 o1 e1,.bool q1,.slice B2 o2 e2,.bool q2,.slice B4 o4 e4] 35 (0,0)):=by rw [hWZ]; exact heap_alloc_new _ _
   obtain ⟨z1,hz1⟩:∃ z1,z1 = bf n 0 F v v:=⟨_,rfl⟩
   rw [<- hz1] at hv
   have HZ9:=hid (NBlk.one' hXZ (hv.below D9))
   have KB9:=hid (bT (bT KB7.out hb) D9)
   have HRL:=hid (fun W v (h:IsNum W v z1)=>(show Calls Tryz.prog 36 #[v] W fun e w'=>e = .returned (.bool true) /\ Below W.heap.size W w' from by
    have:=real_any v z1 W h
    rwa [show decide (z1.im = 0) = true by rw [hz1]; simpa using HV3.out] at this))
   have HCM:=hid (fun W v u (h1:IsNum W v z1) (h2:IsNum W u .zero)=>cmpN_k v u z1 .zero W h1 h2 400000000 1 (by rw [hz1]; exact bf_big hn5 HF0.out HV2.out) (Sz.zero oM) oM (neg_cmp (by rw [hz1]; exact HV4.out)))
   clear hv hb hWZ D9 hXZ hz1 L7 HV7 KB7
   refine region_litA [.val (kIs (.int .i64 0)),.val (kIs (.bool true)),.val (kIs (.bool true)),.val (kNum (z1)),.val (kIs (.bool true)),.val (kIs (.bool true)),.val (kIs (.bool true)),.val (kNum (z1)),.val (kNum (.zero)),.val (kIs (.int .i64 (-1))),.val (kIs (.bool true)),.val (kIs (.bool true)),.val (kIs (.bool true)),.val (kIs (.bool true)),.val (kIs (.bool true)),.val (kIs (.bool true))]
    ?fl1 ?hfl1 kR kR kR kR kR ⟨Stab.b (stab_is _),Stab.b (stab_is _),Stab.b (stab_is _),Stab.b (stab_num _),Stab.b (stab_is _),Stab.b (stab_is _),Stab.b (stab_is _),Stab.b (stab_num _),Stab.b (stab_num _),Stab.b (stab_is _),Stab.b (stab_is _),Stab.b (stab_is _),Stab.b (stab_is _),Stab.b (stab_is _),Stab.b (stab_is _),Stab.b (stab_is _),trivial⟩ sP ⟨obN (uMf rfl .fr),obN (uBn rfl (.is 0) .k fun w=>sG),obN (uMv 1),obG 2 (nNe (k:=0) (f:=fun _=>z1) rfl .fr (fun W hb=>HZ9.out.below hb) (by omega:0 < 1)),obG 2 (uC1 rfl (.at 3) fun _ W hb h=>cIs (HRL.out W _ (pg 3 h))),obN (uPt rfl (.is 2) (.is 4)),obN (uMv 5),obG 6 (nNe (k:=0) (f:=fun _=>z1) rfl .fr (fun W hb=>HZ9.out.below hb) (by omega:0 < 1)),obG 6 (uC1 rfl .k fun _ W hb h=>HI0.out W),obG 6 (uC2 rfl (.at 7) (.at 8) fun _ W hb h=>cIs (HCM.out W _ _ (pg 7 h) (pg 8 h))),obG 6 (uBn rfl (.is 9) .k fun w=>sG),obN (uPt rfl (.is 6) (.is 10)),obN (uMv 11),obG 12 (uC0 rfl fun _ W hb _=>cIs (HAW.out W (bT KB9.out hb))),obN (uPt rfl (.is 12) (.is 13)),obN (uAs 14),trivial⟩ ?_
   case hfl1=>intro ts; simp only [fillT,zA,Nat.reduceAdd,sA,sB,sC]; rfl
   intro ts WE hbE hh hap
   have e1:=held_is (hh 15 sP) rfl
   simp only [e1]
   clear hh hap e1
   go_wp2
   go_ret
   exact ⟨rfl,bT KB9.out hbE⟩
  ·have hN:=HN0.out (fun h=>by rcases hk14 with e | e <;> (rw [e] at h; exact absurd h.2 dE))
   subst hN
   clear HN0 HN1 HSQ HPS HX2 HK12
   rcases hk14 with e | e
   ·subst e
    go_wp2_with fail
    refine HIS.out.mono ?_
    rintro e W6 ⟨rfl,hb⟩
    have KB6:=hid (bT KB8.out hb)
    clear hb HIS L8 HX8 b0 b1 b2 b3 b4 d0 d1 d2 d3 d4 K38
    go_upto_region 10 with fail
    refine region_litA [.val (kIs (.bool false)),.val (kIs (.bool false)),.val (kIs (undef)),.val (kIs (undef)),.val (kIs (.bool false)),.val (kIs (.bool false)),.val (kIs (undef)),.val (kIs (undef)),.val (kIs (undef)),.val (kIs (undef)),.val (kIs (.bool false))]
     ?fl3 ?hfl3 kR kR kR kR kR ⟨Stab.b (stab_is _),Stab.b (stab_is _),Stab.b (stab_is _),Stab.b (stab_is _),Stab.b (stab_is _),Stab.b (stab_is _),Stab.b (stab_is _),Stab.b (stab_is _),Stab.b (stab_is _),Stab.b (stab_is _),Stab.b (stab_is _),trivial⟩ sP ⟨obN (uMf rfl .fr),obN (uMv 0),obZ 1,obZ 1,obN (uPf rfl (.is 1) .k),obN (uMv 4),obZ 5,obZ 5,obZ 5,obZ 5,obN (uPf rfl (.is 5) .k),trivial⟩ ?_
    case hfl3=>intro ts; simp only [fillT,zA,Nat.reduceAdd,sA,sB,sC]; rfl
    intro ts W7 hb7 hh hap
    have e1:=held_is (hh 10 sP) rfl
    simp only [e1]
    clear hh hap e1
    go_wp2_with fail
    refine (HAW.out _ (bT KB6.out hb7)).mono ?_
    rintro e W9 ⟨rfl,hb⟩
    go_wp2
    go_ret
    exact ⟨rfl,bT (bT KB6.out hb7) hb⟩
   ·subst e
    go_wp2_with fail
    refine HIS.out.mono ?_
    rintro e W6 ⟨rfl,hb⟩
    have KB6:=hid (bT KB8.out hb)
    clear hb HIS L8 HX8 b0 b1 b2 b3 b4 d0 d1 d2 d3 d4 K38
    go_upto_region 10 with fail
    refine region_litA [.val (kIs (.bool false)),.val (kIs (.bool false)),.val (kIs (undef)),.val (kIs (undef)),.val (kIs (.bool false)),.val (kIs (.bool false)),.val (kIs (undef)),.val (kIs (undef)),.val (kIs (undef)),.val (kIs (undef)),.val (kIs (.bool false))]
     ?fl4 ?hfl4 kR kR kR kR kR ⟨Stab.b (stab_is _),Stab.b (stab_is _),Stab.b (stab_is _),Stab.b (stab_is _),Stab.b (stab_is _),Stab.b (stab_is _),Stab.b (stab_is _),Stab.b (stab_is _),Stab.b (stab_is _),Stab.b (stab_is _),Stab.b (stab_is _),trivial⟩ sP ⟨obN (uMf rfl .fr),obN (uMv 0),obZ 1,obZ 1,obN (uPf rfl (.is 1) .k),obN (uMv 4),obZ 5,obZ 5,obZ 5,obZ 5,obN (uPf rfl (.is 5) .k),trivial⟩ ?_
    case hfl4=>intro ts; simp only [fillT,zA,Nat.reduceAdd,sA,sB,sC]; rfl
    intro ts W7 hb7 hh hap
    have e1:=held_is (hh 10 sP) rfl
    simp only [e1]
    clear hh hap e1
    go_wp2_with fail
    refine (HAW.out _ (bT KB6.out hb7)).mono ?_
    rintro e W9 ⟨rfl,hb⟩
    go_wp2
    go_ret
    exact ⟨rfl,bT (bT KB6.out hb7) hb⟩
 ·have hk0:k1 = 0:=by
   rcases HK12.out with h | ⟨-,h⟩
   ·exact h
   ·exact absurd h dE
  subst hk0
  have hN:=HN0.out (fun h=>absurd h.1 dE)
  subst hN
  have hpsd:=HPS.out rfl
  have HPC:=hid (fun v=>psd_cmp hpsd v)
  clear HN0 HN1 HSQ HPS HK12 hpsd
  rcases HK2.out with h | h
  ·subst h
   have hx:=HX2.out rfl
   obtain ⟨K1,hK1⟩:∃ K1,cmpC x1 .zero = K1:=⟨_,rfl⟩
   have HK1:=hid (show 0 <= K1 by rw [<- hK1,hx]; exact HPC.out _)
   have HCM:=hid (fun W v u (h1:IsNum W v x1) (h2:IsNum W u .zero)=>cmpN_k v u x1 .zero W h1 h2 2000 1 HX1.out (Sz.zero oM) oM hK1)
   clear hx hK1 HX2 HPC
   go_wp2_with fail
   refine HIS.out.mono ?_
   rintro e W6 ⟨rfl,hb⟩
   have KB6:=hid (bT KB8.out hb)
   have HX6:=hid (HX8.out.below hb)
   clear hb HIS L8 HX8 b0 b1 b2 b3 b4 d0 d1 d2 d3 d4 K38
   go_upto_region 10 with fail
   refine region_litA [.val (kIs (.bool true)),.val (kIs (.bool true)),.val (kIs (.int .i64 0)),.val (kIs (.bool true)),.val (kIs (.bool true)),.val (kIs (.bool true)),.val (kNum (x1)),.val (kNum (.zero)),.val (kIs (.int .i64 K1)),.val (kIs (.bool false)),.val (kIs (.bool false))]
    ?fl5 ?hfl5 kR kR kR kR kR ⟨Stab.b (stab_is _),Stab.b (stab_is _),Stab.b (stab_is _),Stab.b (stab_is _),Stab.b (stab_is _),Stab.b (stab_is _),Stab.b (stab_num _),Stab.b (stab_num _),Stab.b (stab_is _),Stab.b (stab_is _),Stab.b (stab_is _),trivial⟩ sP ⟨obN (uMf rfl .fr),obN (uMv 0),obG 1 (uMf rfl .fr),obG 1 (uBn rfl (.is 2) .k fun w=>sG),obN (uPt rfl (.is 1) (.is 3)),obN (uMv 4),obG 5 (nNe (k:=0) (f:=fun _=>x1) rfl .fr (fun W hb=>HX6.out.below hb) (by omega:0 < 1)),obG 5 (uC1 rfl .k fun _ W hb h=>HI0.out W),obG 5 (uC2 rfl (.at 6) (.at 7) fun _ W hb h=>cIs (HCM.out W _ _ (pg 6 h) (pg 7 h))),obG 5 (uBn rfl (.is 8) .k fun w=>by simp [go_sem,HK1.out]),obN (uPt rfl (.is 5) (.is 9)),trivial⟩ ?_
   case hfl5=>intro ts; simp only [fillT,zA,Nat.reduceAdd,sA,sB,sC]; rfl
   intro ts W7 hb7 hh hap
   have e1:=held_is (hh 10 sP) rfl
   simp only [e1]
   clear hh hap e1
   go_wp2_with fail
   refine (HAW.out _ (bT KB6.out hb7)).mono ?_
   rintro e W9 ⟨rfl,hb⟩
   go_wp2
   go_ret
   exact ⟨rfl,bT (bT KB6.out hb7) hb⟩
  ·subst h
   clear HX2 HPC
   go_wp2_with fail
   refine HIS.out.mono ?_
   rintro e W6 ⟨rfl,hb⟩
   have KB6:=hid (bT KB8.out hb)
   clear hb HIS L8 HX8 b0 b1 b2 b3 b4 d0 d1 d2 d3 d4 K38
   go_upto_region 10 with fail
   refine region_litA [.val (kIs (.bool true)),.val (kIs (.bool true)),.val (kIs (.int .i64 4)),.val (kIs (.bool false)),.val (kIs (.bool false)),.val (kIs (.bool false)),.val (kIs (undef)),.val (kIs (undef)),.val (kIs (undef)),.val (kIs (undef)),.val (kIs (.bool false))]
    ?fl6 ?hfl6 kR kR kR kR kR ⟨Stab.b (stab_is _),Stab.b (stab_is _),Stab.b (stab_is _),Stab.b (stab_is _),Stab.b (stab_is _),Stab.b (stab_is _),Stab.b (stab_is _),Stab.b (stab_is _),Stab.b (stab_is _),Stab.b (stab_is _),Stab.b (stab_is _),trivial⟩ sP ⟨obN (uMf rfl .fr),obN (uMv 0),obG 1 (uMf rfl .fr),obG 1 (uBn rfl (.is 2) .k fun w=>sG),obN (uPt rfl (.is 1) (.is 3)),obN (uMv 4),obZ 5,obZ 5,obZ 5,obZ 5,obN (uPf rfl (.is 5) .k),trivial⟩ ?_
   case hfl6=>intro ts; simp only [fillT,zA,Nat.reduceAdd,sA,sB,sC]; rfl
   intro ts W7 hb7 hh hap
   have e1:=held_is (hh 10 sP) rfl
   simp only [e1]
   clear hh hap e1
   go_wp2_with fail
   refine (HAW.out _ (bT KB6.out hb7)).mono ?_
   rintro e W9 ⟨rfl,hb⟩
   go_wp2
   go_ret
   exact ⟨rfl,bT (bT KB6.out hb7) hb⟩
end Go.Proofs.YtffegeaflohfhaaGreatDoor
namespace Go.Proofs.YtffegeaflohfhaaGreatDoor
open Go Go.ChangeShapes Go.WideShapes Go.ChangeAt Go.WideMaps Go.WideElems Go.RowKit Go.Joins
theorem numDefinite_lifted (os:Os) (started:os.Started) (H:Type) (enc:TypeId × Value -> H) :
  ReturnsInHanded {} Tryz.checked os 5 .any (fun w args=>(Rows.numDefiniteSpec.pre enc Tryz.prog Tryz.f5 [] false w args /\ laidMetH Tryz.prog [("math/bits.deBruijn32tab",Rows.laid_math_bits_deBruijn32tab)] w) /\ sizedMet enc Tryz.prog Tryz.f5 (OpenSpec.ofChange Rows.numDefiniteSpec) false w args)
   (Rows.numDefiniteSpec.post enc Tryz.prog Tryz.f5 false true false false):=by
 refine returnsInHanded_of_change_and (C:=Tryz.checked) (X:=fun w _=>laidMetH Tryz.prog [("math/bits.deBruijn32tab",Rows.laid_math_bits_deBruijn32tab)] w) (fun _ _ _ hh h=>h.of_heap hh) own_knob started kR Tryz.func5
  (ChangeSpec.witness_shaped (enc:=enc) (C:=Tryz.checked) (os:=os) (X:=fun w _=>laidMetH Tryz.prog [("math/bits.deBruijn32tab",Rows.laid_math_bits_deBruijn32tab)] w) false (World.doorLaid Tryz.prog 400 os) #[.slice none 0 0,.slice none 0 0] 8 rfl (World.shaped_of_RefB kR kR) kR kR kR (door_met os _)) ?_
 intro W base args ds gs before hval0 hW _ _ hL _
 have hval:∀ (j:Nat) t v,Tryz.f5.params[j]? = some t -> args[j]? = some v -> Value.okWide Tryz.prog W .any base t v:=hval0
 have hWW:=hW
 obtain ⟨p,q,hA0,hV,rfl,hfz,hnd⟩:=hW
 have hA:DataW.TrodAll enc Tryz.prog W 0 (fun _=>true) true Tryz.f5.params.toList args.toList ds p:=hA0
 rw [Tryz.params5] at hA hval
 obtain ⟨v0,v1,d0,d1,q0,q1,rfl,rfl,rfl,h0,h1⟩:=trodAll_two hA
 obtain ⟨A,len,cap,ml,f,rfl,hl,hml,hR,h64⟩:=open_ratioss (hval 0 _ _ rfl rfl) h0
 obtain ⟨A',len',cap',g,rfl,hl',hR',h64'⟩:=open_ratios (hval 1 _ _ rfl rfl) h1
 have hT:=tab_of_laid hL
 obtain ⟨rfl,rfl⟩:=trodVars_none hV
 refine (numDefinite_walk W A A' len cap len' cap' ml f g hR hR' h64 h64' hl hl' hml hT).mono fun e W' ⟨he,hb⟩=>?_
 subst he
 exact ⟨_,rfl,law_post rfl rfl kR ⟨rfl,rfl,rfl⟩ hWW hb⟩
theorem numDefinite_said:Rows.NumDefiniteSaid :=
 OpenClaim.holds_of_wide 5 Tryz.f5 rfl rfl rfl rfl rfl rfl rfl ⟨rfl,rfl,rfl,rfl,rfl⟩ rfl rfl rfl rfl rfl kR Tryz.func5 kR
  (of_decide_eq_true kR) (by unfold Func.isWrapper; first | (rw [if_pos dK]; kernel_rfl) | (rw [if_neg dK]; exact ⟨rfl,rfl⟩))
  (fun os started H enc _=>numDefinite_lifted os started H enc)
theorem numDefinite_holds:Rows.NumDefiniteCardSaid :=
 Claim7.holds_tied_plain_at .later [] [.data] true Rows.numDefiniteCard.stood.harness false
  numDefinite_said (fun _ h=>by cases h) kR (fun _ h=>by cases h) numDefinite_row_tie rfl ⟨rfl,rfl⟩ kR rfl
  (fun f fn hf hfn=>by
   obtain rfl:f = 5:=Option.some.inj ((show Tryz.prog.funcNamed "waveport/waveportlaw01.NumDefinite" = some 5 by kernel_rfl).symm.trans hf) |>.symm
   obtain rfl:fn = Tryz.f5:=(Option.some.inj (Tryz.func5.symm.trans hfn)).symm
   exact ⟨kR,fun j t ht=>by
    rw [Tryz.params5] at ht
    have hm:t ∈ [22,23]:=by simpa using Array.mem_of_getElem? ht
    have hall:([22,23].all fun u=>!Tryz.prog.wantsStandIn u) = true:=kR
    exact (show Tryz.prog.wantsStandIn t = false by simpa using List.all_eq_true.1 hall t hm)⟩)
  kR
end Go.Proofs.YtffegeaflohfhaaGreatDoor
