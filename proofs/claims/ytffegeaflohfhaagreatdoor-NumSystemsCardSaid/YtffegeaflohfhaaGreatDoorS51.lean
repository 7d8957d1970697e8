/-
 What is proved: for every list of lists m and every list b of plain data,the law NumSystems returns true (Det,Solve,Inverse and Rank return the reference's results for matrices of the sizes of Small),and its arguments read afterwards as before.
 Conditions: those of the given card alone: the table math/bits.deBruijn32tab lies as the program's text lays it (the card ties it).
-/
import Derived.Test.YtffegeaflohfhaaGreatDoorS27
import Derived.Test.YtffegeaflohfhaaGreatDoorS30
import Derived.Test.YtffegeaflohfhaaGreatDoorS36
import Derived.Test.YtffegeaflohfhaaGreatDoorS40
import Derived.Test.YtffegeaflohfhaaGreatDoorS42
import Derived.Test.YtffegeaflohfhaaGreatDoorS50
import Derived.Test.YtffegeaflohfhaaGreatDoorS02
set_option linter.unusedVariables false
set_option linter.unusedSimpArgs false
set_option maxRecDepth 100000
set_option maxHeartbeats 8000000
namespace Go.Proofs.YtffegeaflohfhaaGreatDoor
open Go Go.ChangeShapes Go.WideShapes Go.ChangeAt Go.WideMaps Go.WideElems Go.RowKit Go.Joins
theorem list_size:Tryz.prog.cellsOf 23 = 1:=kR
section
variable {H:Type} {enc:TypeId × Value -> H} {W:World} {base b0:Nat} {v:Value} {d:DataW H} {p:List MemPlace}
theorem open_ratioss (hv:Value.okWide Tryz.prog W .any b0 22 v) (h:DataW.Trod enc Tryz.prog W base (fun _=>true) true 22 v d p) :
  ∃ A len cap ml f,v = .slice A len cap /\ len <= 9223372036854775807 /\ (∀ i,i < len -> ml i <= 9223372036854775807) /\ RatSS W A len ml f /\ ∀ i,Rat64 (f i):=by
 obtain ⟨A,len,cap,rfl⟩:=okWide_slice Tryz.underlying22 hv
 obtain ⟨fuel,hf⟩:=h
 rcases Go.Deep.open_slice Tryz.underlying22 hf with ⟨hcs,-⟩ | ⟨a,len',cap',m,n,D,Pl,hcs,-,hl,hm,hmm,-,hi⟩
 ·simp [Value.cells] at hcs
  obtain ⟨rfl,rfl,rfl⟩:=hcs
  exact ⟨none,0,0,fun _=>0,fun _ _=>(0,0,0),rfl,oM,fun i hi=>oM,fun h=>absurd h oM,fun _ _=>zero64⟩
 ·simp [Value.cells] at hcs
  obtain ⟨rfl,rfl,rfl⟩:=hcs
  have hmx:cap <= 9223372036854775807:=by
   have:maxLen = 9223372036854775807:=dE
   omega
  have hlm:len <= m:=by rw [hmm]; simp; exact hl
  have el:∀ j,j < len -> ∃ (l:Nat) (g:Nat -> Int × Int × Int),l <= 9223372036854775807 /\ Rat64 g /\ ∃ Ai ci,W.cell? (a.add j) = some (.slice Ai l ci) /\ RatS W Ai l g:=fun j hj=>by
   obtain ⟨cs,hc,ht⟩:=hi j oM
   rw [list_size] at hc
   obtain ⟨-,hlen,hat⟩:=World.cells?_some hc
   obtain ⟨Ai,l,ci,g,rfl,h1,h2,h3⟩:=open_ratioc ht
   have k0:=hat 0 oM
   rw [Go.Deep.add_add,Nat.mul_one,Nat.add_zero] at k0
   exact ⟨l,g,h1,h3,Ai,ci,by simpa using k0,h2⟩
  let ml:Nat -> Nat:=fun j=>if hj:j < len then Classical.choose (el j hj) else 0
  let f:Nat -> Nat -> Int × Int × Int:=fun j=>if hj:j < len then Classical.choose (Classical.choose_spec (el j hj)) else fun _=>(0,0,0)
  have hs:∀ j,j < len -> ml j <= 9223372036854775807 /\ Rat64 (f j) /\ ∃ Ai ci,W.cell? (a.add j) = some (.slice Ai (ml j) ci) /\ RatS W Ai (ml j) (f j):=fun j hj=>by
   have:=Classical.choose_spec (Classical.choose_spec (el j hj))
   simp only [ml,f,dif_pos hj]
   exact this
  refine ⟨some a,len,cap,ml,f,rfl,oM,fun i hi=>(hs i hi).1,fun h0=>?_,fun j=>?_⟩
  ·obtain ⟨b,off,spot⟩:=a
   obtain ⟨-,-,A0,c0,g0,-⟩:=hs 0 h0
   have hspot:spot = none:=by simpa [Addr.add] using World.cell?_spot g0
   subst hspot
   have hadd:∀ k,(⟨b,off,none⟩:Addr).add k = ⟨b,off + k,none⟩:=fun k=>by unfold Addr.add; split <;> simp_all
   refine ⟨b,off,rfl,?_,fun j hj=>?_⟩
   ·have:=World.block_lt_of_cell? W _ g0
    simpa [Addr.add] using this
   ·obtain ⟨-,-,Ai,ci,k0,k1⟩:=hs j hj
    rw [hadd] at k0
    exact ⟨Ai,ci,k0,k1⟩
  ·by_cases hj:j < len
   ·exact (hs j hj).2.1
   ·have e:f j = fun _=>(0,0,0):=by simp only [f,dif_neg hj]
    rw [e]
    exact fun _=>zero64
end
end Go.Proofs.YtffegeaflohfhaaGreatDoor
namespace Go.Proofs.YtffegeaflohfhaaGreatDoor
open Go.RowKit
theorem numSystems_walk (w:World) (A A':Option Addr) (n cap p cap':Nat) (ml:Nat -> Nat) (f:Nat -> Nat -> Int × Int × Int) (g:Nat -> Int × Int × Int) (hR:RatSS w A n ml f) (hR':RatS w A' p g) (h64:∀ i,Rat64 (f i)) (h64':Rat64 g)
  (hl:n <= 9223372036854775807) (hp:p <= 9223372036854775807) (hml:∀ i,i < n -> ml i <= 9223372036854775807) (hT:Tab w) :
  Calls Tryz.prog 3 #[.slice A n cap,.slice A' p cap'] w fun e w'=>e = .returned (.bool true) /\ Below w.heap.size w w':=by
 have HS1:=hid (fun W (hb:Below w.heap.size w W)=>small_any2 W A n cap ml f (hR.below hb) hl hml)
 have HAW:=hid (fun W (hb:Below w.heap.size w W)=>awake_any W (hT.below hb))
 have HT:=hid hT
 have HRR:=hid hR
 have HRR':=hid hR'
 have H64:=hid h64
 have H64':=hid h64'
 clear hR hR' h64 h64' hl hml hT
 go_enter Tryz.func3,Tryz.ntmps3
 go_wp2_with fail
 refine (HS1.out w rfB).mono ?_
 rintro e W1 ⟨b1,rfl,hs1,hb1⟩
 have X1:=hid hs1
 clear hs1
 cases b1
 ·go_wp2_with fail
  refine (HAW.out _ hb1).mono ?_
  rintro e W2 ⟨rfl,hb2⟩
  go_wp2
  go_ret
  exact ⟨rfl,bT hb1 hb2⟩
 by_cases hp40:40 < p
 ·have d1:(40:Int) < (p:Int):=oM
  have d2:decide ((40:Int) < (p:Int)) = true:=sO
  go_wp2_with fail
  refine (HAW.out _ hb1).mono ?_
  rintro e W2 ⟨rfl,hb2⟩
  go_wp2
  go_ret
  exact ⟨rfl,bT hb1 hb2⟩
 have d2:decide ((40:Int) < (p:Int)) = false:=sO
 have hp4:p <= 40:=oM
 have KB1:=hid hb1
 clear hb1 hp hp40
 obtain ⟨hn,hml,hV⟩:=X1.out (by trivial)
 have HF:∀ i k,Sz (ratF (f i) k) 2:=fun i k=>by
  obtain ⟨⟨a1,a2⟩,⟨a3,a4⟩,a5,a6⟩:=H64.out i k
  exact sz_of a1 a2 a3 a4 a5 a6
 have HG:∀ k,Sz (ratF g k) 2:=fun k=>by
  obtain ⟨⟨a1,a2⟩,⟨a3,a4⟩,a5,a6⟩:=H64'.out k
  exact sz_of a1 a2 a3 a4 a5 a6
 obtain ⟨k1,x1,S1,hf1,hf2,hn1,hq1⟩:=det_both (F:=fun i=>ratF (f i)) HF hn hml hV
 obtain ⟨k2,N2,H2,hg2,hn2,hq2⟩:=solve_both (F:=fun i=>ratF (f i)) HF hn hml hV (p:=p) (f:=ratF g) HG
 obtain ⟨k3,N3,M3,H3,hg3,hn3,hq3⟩:=inverse_both (F:=fun i=>ratF (f i)) HF hn hml hV
 obtain ⟨k4,r4,hn4,hq4⟩:=rank_both (F:=fun i=>ratF (f i)) HF hn hml hV
 have IS:Hid (∀ W (_:Below w.heap.size w W) v u,IsNum W v x1 -> IsQ W u x1 -> Calls Tryz.prog 12 #[v,u] W fun e w'=>e = .returned (.bool true) /\ Below W.heap.size W w') :=
  hid (fun W hb v u h h'=>is_any v u x1 W h h' (HT.out.below hb) S1 hf1 hf2)
 have AL:Hid (∀ W (_:Below w.heap.size w W) v u,NSl W v N2 H2 -> QSl W u N2 H2 -> Calls Tryz.prog 17 #[v,u] W fun e w'=>e = .returned (.bool true) /\ Below W.heap.size W w') :=
  hid (fun W hb v u h h'=>by
   obtain ⟨c1,S,c2,c3⟩:=hg2
   exact areAll_any W v u N2 H2 h h' (HT.out.below hb) S c3 c2 oM)
 have AR:Hid (∀ W (_:Below w.heap.size w W) v u,NSS W v N3 M3 H3 -> QSS W u N3 M3 H3 -> Calls Tryz.prog 20 #[v,u] W fun e w'=>e = .returned (.bool true) /\ Below W.heap.size W w') :=
  hid (fun W hb v u h h'=>by
   obtain ⟨c1,c2,S,c3,c4⟩:=hg3
   exact areRows_any W v u N3 M3 H3 h h' (HT.out.below hb) S c4 c3 oM (fun i hi=>Nat.le_trans (c2 i hi) oM))
 have DN:=hid hn1
 have DQ:=hid hq1
 have SN:=hid hn2
 have SQ:=hid hq2
 have IN:=hid hn3
 have IQ:=hid hq3
 have RN:=hid hn4
 have RQ:=hid hq4
 have R1:=hid (fun W (hb:Below w.heap.size w W)=>rows_any W A n cap ml f (HRR.out.below hb) H64.out oM (fun i hi=>Nat.le_trans (hml i hi) oM) (HT.out.below hb))
 have T1:=hid (fun W (hb:Below w.heap.size w W)=>refrows_any W A n cap ml f (HRR.out.below hb) H64.out oM (fun i hi=>Nat.le_trans (hml i hi) oM))
 have LI:=hid (fun W (hb:Below w.heap.size w W)=>list_any W A' p cap' g (HRR'.out.below hb) H64'.out oM (HT.out.below hb))
 have RL:=hid (fun W (hb:Below w.heap.size w W)=>reflist_any W A' p cap' g (HRR'.out.below hb) H64'.out oM)
 clear hn hml hV HF HG hf1 hf2 hg2 hg3 hn1 hq1 hn2 hq2 hn3 hq3 hn4 hq4 X1 HS1 HRR HRR' H64 H64'
 -- Rows(m),refRows(m)
 go_wp2_with fail
 refine (R1.out W1 KB1.out).mono ?_
 rintro e W2 ⟨g2,rfl,hr,-,hb⟩
 have KB2:=hid (bT KB1.out hb)
 have L2:=hid hr
 clear hr hb R1
 go_wp2_with fail
 refine (T1.out W2 KB2.out).mono ?_
 rintro e W3 ⟨g3,rfl,hr,-,hb⟩
 have KB3:=hid (bT KB2.out hb)
 have L3:=hid (L2.out.below hb)
 have K3:=hid hr
 clear hr hb T1 L2
 generalize W1.heap.size = a1 at *
 generalize W2.heap.size = a2 at *
 -- Det
 go_wp2_with fail
 refine (DN.out W3 _ _ (HT.out.below KB3.out) L3.out).mono ?_
 rintro e W4 ⟨v4,rfl,hv,hb⟩
 obtain ⟨A1,n1,c1,p1,A2,n2,c2,p2,A3,n3,c3,a,b,d,rfl,-⟩:=hv.parts
 have KB4:=hid (bT KB3.out hb)
 have L4:=hid (L3.out.below hb)
 have K4:=hid (K3.out.below hb)
 have V4:=hid hv
 clear hv hb DN L3 K3
 go_wp2_with fail
 refine (DQ.out _ _ _ (K4.out.below (below_alloc _ _))).mono ?_
 rintro e W5 ⟨v5,rfl,hq,hb⟩
 obtain ⟨hc3,hf3,hz3⟩:=bcells hb (W4.heap.size + 1) sP
 obtain ⟨A4,n4,c4,p4,A5,n5,c5,p5,A6,n6,c6,a',b',d',rfl,-⟩:=hq.parts
 have C5:=bT (below_alloc W4 _) hb
 go_upto_region 6 with fail
 obtain ⟨W6,hW6⟩:∃ W6:World,W6 = W5.alloc (.cells #[.bool p4,.slice A4 n4 c4,.bool p5,.slice A5 n5 c5,.slice A6 n6 c6] 42):=⟨_,rfl⟩
 rw [<- hW6]
 have D6:Below W5.heap.size W5 W6:=by rw [hW6]; exact below_alloc _ _
 have q6:=bcells D6 W5.heap.size lR
 have b0:W6.cell? ⟨W4.heap.size,0,none⟩ = some (.slice A1 n1 c1):=(q6.1 _ 0 oM).trans ((hc3 _ 0 oM).trans sG)
 have b1:W6.cell? ⟨W4.heap.size,1,none⟩ = some (.bool p1):=(q6.1 _ 1 oM).trans ((hc3 _ 1 oM).trans sG)
 have b2:W6.cell? ⟨W4.heap.size,2,none⟩ = some (.slice A2 n2 c2):=(q6.1 _ 2 oM).trans ((hc3 _ 2 oM).trans sG)
 have b3:W6.cell? ⟨W4.heap.size,3,none⟩ = some (.bool p2):=(q6.1 _ 3 oM).trans ((hc3 _ 3 oM).trans sG)
 have b4:W6.cell? ⟨W4.heap.size,4,none⟩ = some (.slice A3 n3 c3):=(q6.1 _ 4 oM).trans ((hc3 _ 4 oM).trans sG)
 have e0:W6.cell? ⟨W5.heap.size,0,none⟩ = some (.bool p4):=by rw [hW6]; simp [go_sem]
 have e1:W6.cell? ⟨W5.heap.size,1,none⟩ = some (.slice A4 n4 c4):=by rw [hW6]; simp [go_sem]
 have e2:W6.cell? ⟨W5.heap.size,2,none⟩ = some (.bool p5):=by rw [hW6]; simp [go_sem]
 have e3:W6.cell? ⟨W5.heap.size,3,none⟩ = some (.slice A5 n5 c5):=by rw [hW6]; simp [go_sem]
 have e4:W6.cell? ⟨W5.heap.size,4,none⟩ = some (.slice A6 n6 c6):=by rw [hW6]; simp [go_sem]
 have C6:=bT C5 D6
 have KB6:=hid (bT KB4.out C6)
 have L6:=hid (L4.out.below C6)
 have K6:=hid (K4.out.below C6)
 have V6:=hid (V4.out.below C6)
 have U6:=hid (hq.below D6)
 clear hq hb hc3 hf3 hz3 C5 C6 D6 q6 hW6 DQ L4 K4 V4 KB4
 go_wp2_with fail
 refine (IS.out W6 KB6.out _ _ V6.out U6.out).mono ?_
 rintro e W7 ⟨rfl,hb⟩
 have KB7:=hid (bT KB6.out hb)
 have L7:=hid (L6.out.below hb)
 have K7:=hid (K6.out.below hb)
 clear hb IS L6 K6 V6 U6 b0 b1 b2 b3 b4 e0 e1 e2 e3 e4 KB6
 -- Solve
 go_wp2_with fail
 refine (LI.out W7 KB7.out).mono ?_
 rintro e W8 ⟨rfl,hr,hb⟩
 have KB8:=hid (bT KB7.out hb)
 have L8:=hid (L7.out.below hb)
 have K8:=hid (K7.out.below hb)
 have B8:=hid hr
 clear hr hb LI L7 K7
 generalize W7.heap.size = a7 at *
 go_wp2_with fail
 refine (SN.out W8 _ _ _ (HT.out.below KB8.out) L8.out B8.out).mono ?_
 rintro e W9 ⟨A9,c9,rfl,hv,hb⟩
 have KB9:=hid (bT KB8.out hb)
 have L9:=hid (L8.out.below hb)
 have K9:=hid (K8.out.below hb)
 have V9:=hid hv
 clear hv hb SN L8 K8 B8
 go_wp2_with fail
 refine (RL.out W9 KB9.out).mono ?_
 rintro e W10 ⟨rfl,hr,hb⟩
 have KB10:=hid (bT KB9.out hb)
 have L10:=hid (L9.out.below hb)
 have K10:=hid (K9.out.below hb)
 have V10:=hid (V9.out.below hb)
 have B10:=hid hr
 clear hr hb RL L9 K9 V9
 generalize W9.heap.size = a9 at *
 go_wp2_with fail
 refine (SQ.out W10 _ _ _ K10.out B10.out).mono ?_
 rintro e W11 ⟨A11,c11,rfl,hv,hb⟩
 have KB11:=hid (bT KB10.out hb)
 have L11:=hid (L10.out.below hb)
 have K11:=hid (K10.out.below hb)
 have V11:=hid (V10.out.below hb)
 have U11:=hid hv
 clear hv hb SQ L10 K10 V10 B10
 go_wp2_with fail
 refine (AL.out W11 KB11.out _ _ V11.out U11.out).mono ?_
 rintro e W12 ⟨rfl,hb⟩
 have KB12:=hid (bT KB11.out hb)
 have L12:=hid (L11.out.below hb)
 have K12:=hid (K11.out.below hb)
 clear hb AL L11 K11 V11 U11
 -- Inverse
 go_wp2_with fail
 refine (IN.out W12 _ _ (HT.out.below KB12.out) L12.out).mono ?_
 rintro e W13 ⟨A13,c13,rfl,hv,hb⟩
 have KB13:=hid (bT KB12.out hb)
 have L13:=hid (L12.out.below hb)
 have K13:=hid (K12.out.below hb)
 have V13:=hid hv
 clear hv hb IN L12 K12
 go_wp2_with fail
 refine (IQ.out W13 _ _ K13.out).mono ?_
 rintro e W14 ⟨A14,c14,rfl,hv,hb⟩
 have KB14:=hid (bT KB13.out hb)
 have L14:=hid (L13.out.below hb)
 have K14:=hid (K13.out.below hb)
 have V14:=hid (V13.out.below hb)
 have U14:=hid hv
 clear hv hb IQ L13 K13 V13
 go_wp2_with fail
 refine (AR.out W14 KB14.out _ _ V14.out U14.out).mono ?_
 rintro e W15 ⟨rfl,hb⟩
 have KB15:=hid (bT KB14.out hb)
 have L15:=hid (L14.out.below hb)
 have K15:=hid (K14.out.below hb)
 clear hb AR L14 K14 V14 U14
 -- Rank
 go_wp2_with fail
 refine (RN.out W15 _ _ (HT.out.below KB15.out) L15.out).mono ?_
 rintro e W16 ⟨rfl,hb⟩
 have KB16:=hid (bT KB15.out hb)
 have K16:=hid (K15.out.below hb)
 clear hb RN L15 K15
 go_wp2_with fail
 refine (RQ.out W16 _ _ K16.out).mono ?_
 rintro e W17 ⟨rfl,hb⟩
 have KB17:=hid (bT KB16.out hb)
 clear hb RQ K16
 go_wp2_with fail
 refine (HAW.out _ KB17.out).mono ?_
 rintro e W18 ⟨rfl,hb⟩
 go_wp2
 go_ret
 exact ⟨rfl,bT KB17.out hb⟩
end Go.Proofs.YtffegeaflohfhaaGreatDoor
namespace Go.Proofs.YtffegeaflohfhaaGreatDoor
open Go Go.ChangeShapes Go.WideShapes Go.ChangeAt Go.WideMaps Go.WideElems Go.RowKit Go.Joins
theorem numSystems_lifted (os:Os) (started:os.Started) (H:Type) (enc:TypeId × Value -> H) :
  ReturnsInHanded {} Tryz.checked os 3 .any (fun w args=>(Rows.numSystemsSpec.pre enc Tryz.prog Tryz.f3 [] false w args /\ laidMetH Tryz.prog [("math/bits.deBruijn32tab",Rows.laid_math_bits_deBruijn32tab)] w) /\ sizedMet enc Tryz.prog Tryz.f3 (OpenSpec.ofChange Rows.numSystemsSpec) false w args)
   (Rows.numSystemsSpec.post enc Tryz.prog Tryz.f3 false true false false):=by
 refine returnsInHanded_of_change_and (C:=Tryz.checked) (X:=fun w _=>laidMetH Tryz.prog [("math/bits.deBruijn32tab",Rows.laid_math_bits_deBruijn32tab)] w) (fun _ _ _ hh h=>h.of_heap hh) own_knob started kR Tryz.func3
  (ChangeSpec.witness_shaped (enc:=enc) (C:=Tryz.checked) (os:=os) (X:=fun w _=>laidMetH Tryz.prog [("math/bits.deBruijn32tab",Rows.laid_math_bits_deBruijn32tab)] w) false (World.doorLaid Tryz.prog 400 os) #[.slice none 0 0,.slice none 0 0] 8 rfl (World.shaped_of_RefB kR kR) kR kR kR (door_met os _)) ?_
 intro W base args ds gs before hval0 hW _ _ hL _
 have hval:∀ (j:Nat) t v,Tryz.f3.params[j]? = some t -> args[j]? = some v -> Value.okWide Tryz.prog W .any base t v:=hval0
 have hWW:=hW
 obtain ⟨p,q,hA0,hV,rfl,hfz,hnd⟩:=hW
 have hA:DataW.TrodAll enc Tryz.prog W 0 (fun _=>true) true Tryz.f3.params.toList args.toList ds p:=hA0
 rw [Tryz.params3] at hA hval
 obtain ⟨v0,v1,d0,d1,q0,q1,rfl,rfl,rfl,h0,h1⟩:=trodAll_two hA
 obtain ⟨A,len,cap,ml,f,rfl,hl,hml,hR,h64⟩:=open_ratioss (hval 0 _ _ rfl rfl) h0
 obtain ⟨A',len',cap',g,rfl,hl',hR',h64'⟩:=open_ratios (hval 1 _ _ rfl rfl) h1
 have hT:=tab_of_laid hL
 obtain ⟨rfl,rfl⟩:=trodVars_none hV
 refine (numSystems_walk W A A' len cap len' cap' ml f g hR hR' h64 h64' hl hl' hml hT).mono fun e W' ⟨he,hb⟩=>?_
 subst he
 exact ⟨_,rfl,law_post rfl rfl kR ⟨rfl,rfl,rfl⟩ hWW hb⟩
theorem numSystems_said:Rows.NumSystemsSaid :=
 OpenClaim.holds_of_wide 3 Tryz.f3 rfl rfl rfl rfl rfl rfl rfl ⟨rfl,rfl,rfl,rfl,rfl⟩ rfl rfl rfl rfl rfl kR Tryz.func3 kR
  (of_decide_eq_true kR) (by unfold Func.isWrapper; first | (rw [if_pos dK]; kernel_rfl) | (rw [if_neg dK]; exact ⟨rfl,rfl⟩))
  (fun os started H enc _=>numSystems_lifted os started H enc)
theorem numSystems_holds:Rows.NumSystemsCardSaid :=
 Claim7.holds_tied_plain_at .later [] [.data] true Rows.numSystemsCard.stood.harness false
  numSystems_said (fun _ h=>by cases h) kR (fun _ h=>by cases h) numSystems_row_tie rfl ⟨rfl,rfl⟩ kR rfl
  (fun f fn hf hfn=>by
   obtain rfl:f = 3:=Option.some.inj ((show Tryz.prog.funcNamed "waveport/waveportlaw01.NumSystems" = some 3 by kernel_rfl).symm.trans hf) |>.symm
   obtain rfl:fn = Tryz.f3:=(Option.some.inj (Tryz.func3.symm.trans hfn)).symm
   exact ⟨kR,fun j t ht=>by
    rw [Tryz.params3] at ht
    have hm:t ∈ [22,23]:=by simpa using Array.mem_of_getElem? ht
    have hall:([22,23].all fun u=>!Tryz.prog.wantsStandIn u) = true:=kR
    exact (show Tryz.prog.wantsStandIn t = false by simpa using List.all_eq_true.1 hall t hm)⟩)
  kR
end Go.Proofs.YtffegeaflohfhaaGreatDoor
