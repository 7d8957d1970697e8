/-
 What is proved: for every list of lists m and every list b of plain data,the law NumLeast returns true (Least returns the reference's vector or error for matrices of the sizes of Small,and what is left is orthogonal to each column),and its arguments read afterwards as before.
 Conditions: those of the given card alone: the table math/bits.deBruijn32tab lies as the program's text lays it (the card ties it).
-/
import Derived.Test.YtffegeaflohfhaaGreatDoorS30
import Derived.Test.YtffegeaflohfhaaGreatDoorT51
import Derived.Test.YtffegeaflohfhaaGreatDoorT53
import Derived.Test.YtffegeaflohfhaaGreatDoorS02
set_option linter.unusedVariables false
set_option linter.unusedSimpArgs false
set_option maxRecDepth 100000
set_option maxHeartbeats 8000000
namespace Go.Proofs.YtffegeaflohfhaaGreatDoor
open Go.RowKit
theorem szXt:∀ m,m <= 5 -> szX (szE 31 m) m <= 100000000:=dK
theorem least_both {n p:Nat} {ml:Nat -> Nat} {F:Nat -> Nat -> Cx} {f:Nat -> Cx} (hF:∀ i k,Sz (F i k) 2) (hn:n <= 40) (hml:∀ i,i < n -> ml i <= 40) (hV:Vld n ml -> n <= 5 /\ colsOf n ml <= 5) (hf:∀ i,Sz (f i) 2) :
  ∃ (k:Int) (N:Nat) (H:Nat -> Cx),N <= 5 /\ (∀ i,i < N -> Sz (H i) 100000000) /\
  (0 < N -> n <= 5 /\ p = n /\ (∀ i,i < n -> ml i = N) /\ ∀ k,k < N -> sm (fun i=>(F i k).conj.mul (leftF N F f H i N)) 0 n = .zero) /\
  (∀ w ga gi gb,Tab w -> RagN w ga gi n ml F -> NBlk w gb p f -> Calls Tryz.prog 23 #[.slice (some ⟨ga,0,none⟩) n n,.slice (some ⟨gb,0,none⟩) p p] w (LinN w N H k)) /\
  (∀ w ga gi gb,RagQ w ga gi n ml F -> QBlk w gb p (fun _=>True) f -> Calls Tryz.prog 24 #[.slice (some ⟨ga,0,none⟩) n n,.slice (some ⟨gb,0,none⟩) p p] w (LinQ w N H k)):=by
 by_cases hs:Vld n ml /\ p = n
 ·obtain ⟨hv,rfl⟩:=hs
  obtain ⟨h5,c5⟩:=hV hv
  have hall:∀ i,i < p -> ml i = colsOf p ml:=fun i hi=>by
   unfold colsOf
   rw [if_neg oM]
   exact (hv.2 i hi).1
  rcases Nat.eq_zero_or_pos (colsOf p ml) with h0 | hm
  ·refine ⟨0,0,fun _=>.zero,oM,fun i hi=>absurd hi oM,fun h=>absurd h oM,fun w ga gi gb _ h hb=>?_,fun w ga gi gb h hb=>?_⟩
   ·exact (leastN_none w _ _ p ml F f (h.nss _) ⟨_,_,rfl,fun _=>⟨gb,rfl,hb⟩⟩ oM (fun i hi=>Nat.le_trans (hml i hi) oM) hv h0).mono fun _ _ h=>h.linN
   ·rcases Nat.eq_zero_or_pos p with hp | hp
    ·subst hp
     exact (rLeast_zero w _ _ _ _).mono fun _ _ h=>h.linQ
    ·refine (rLeast_none w ga gb gi p F f (h.mat fun i hi=>(hall i hi).trans h0) hb hp oM hf).mono ?_
     rintro e w' ⟨g,rfl,hb⟩
     exact ⟨_,_,rfl,⟨_,_,rfl,fun h=>absurd h oM⟩,hb⟩
  ·have hn0:0 < p:=by
    rcases Nat.eq_zero_or_pos p with h | h
    ·rw [h] at hm; exact absurd hm (by simp [colsOf])
    ·exact h
   generalize colsOf p ml = m at *
   have h31:∀ g:Nat -> Cx,(∀ i,Sz (g i) 5) -> Sz (sm g 0 p) 31:=fun g hg=>(sm_sz (p:=5) p 0 fun j _ _=>hg j).mono oM
   have cN:=fun w ga gi gb hT h hb=>leastN_ok w ga gb gi p m F f (RagN.mat h hall) hb hn0 hm h5 c5 hT hF hf
   have cQ:=fun w ga gi gb h hb=>rLeast_ok w ga gb gi p m F f (RagQ.mat h hall) hb hn0 hm h5 c5 hF hf
   obtain ⟨g1,g2⟩:=gj_is2 (F:=mulM p (adjM F) F) m lR (addC (mulM p (adjM F) F) m (mulV p (adjM F) f) m) (fun i j hj=>(if_pos hj).symm) (mulV p (adjM F) f) (fun i hi=>by unfold addC; rw [if_neg oM,if_pos hi])
   have hSG:∀ a b,a < m -> b < m + 1 -> Sz (addC (mulM p (adjM F) F) m (mulV p (adjM F) f) m a b) 31:=fun a b ha hb=>by
    unfold addC
    split
    ·exact h31 _ fun j=>(hF j a).conj.mul (hF j b)
    ·first | exact h31 _ fun j=>(hF j a).conj.mul (hf j) | (rw [if_pos ha]; exact h31 _ fun j=>(hF j a).conj.mul (hf j))
   have hsz:=elimS_sz m (m + 1) 31 oM m 0 _ 0 oM hSG
   by_cases ht:(elimS m m 0 (mulM p (adjM F) F) 0).1 = m
   ·have hs:=elim_solves (Nat.le_refl m) (addC (mulM p (adjM F) F) m (mulV p (adjM F) f) m) (by rw [<- (elimS_cols m m 0 _ _ 0 oM fun i j hj=>(show mulM p (adjM F) F i j = addC (mulM p (adjM F) F) m (mulV p (adjM F) f) m i j from (if_pos hj).symm)).1]; exact ht)
    refine ⟨0,m,solX (elimS m m 0 (addC (mulM p (adjM F) F) m (mulV p (adjM F) f) m) 0).2.2 m m,c5,fun i _=>(solT_sz hsz oM oM m oM i).mono (szXt m c5),fun _=>⟨h5,rfl,hall,least_orth (adjM F) F f _ fun i hi=>?_⟩,fun w ga gi gb hT h hb=>(cN w ga gi gb hT h hb).mono ?_,fun w ga gi gb h hb=>(cQ w ga gi gb h hb).mono ?_⟩
    ·have e1:addC (mulM p (adjM F) F) m (mulV p (adjM F) f) m i m = mulV p (adjM F) f i:=by unfold addC; rw [if_neg oM,if_pos hi]
     rw [<- e1]
     refine Eq.trans (sm_congr _ _ fun j _ hj=>?_) (hs i hi)
     rw [show addC (mulM p (adjM F) F) m (mulV p (adjM F) f) m i j = mulM p (adjM F) F i j from if_pos oM]
    ·rintro e w' ⟨hb,⟨-,g,rfl,hN,-⟩ | ⟨hno,-⟩⟩
     ·exact ⟨_,_,rfl,⟨_,_,rfl,fun _=>⟨g,rfl,hN⟩⟩,hb⟩
     ·exact absurd ht hno
    ·rintro e w' ⟨hb,⟨-,g,-,rfl,hN⟩ | ⟨hno,-⟩⟩
     ·exact ⟨_,_,rfl,⟨_,_,rfl,fun _=>⟨g,rfl,hN.to fun j hj _=>⟨trivial,g2 ht j hj⟩⟩⟩,hb⟩
     ·rw [g1.2 ht] at hno; cases hno
   ·refine ⟨6,0,fun _=>.zero,oM,fun i hi=>absurd hi oM,fun h=>absurd h oM,fun w ga gi gb hT h hb=>(cN w ga gi gb hT h hb).mono ?_,fun w ga gi gb h hb=>(cQ w ga gi gb h hb).mono ?_⟩
    ·rintro e w' ⟨hb,⟨hy,-⟩ | ⟨-,he⟩⟩
     ·exact absurd hy ht
     ·exact RetNo.linN ⟨he,hb⟩
    ·rintro e w' ⟨hb,⟨hy,-⟩ | ⟨-,he⟩⟩
     ·exact absurd (g1.1 hy) ht
     ·exact RetNo.linQ ⟨he,hb⟩
 ·refine ⟨4,0,fun _=>.zero,oM,fun i hi=>absurd hi oM,fun h=>absurd h oM,fun w ga gi gb _ h hb=>?_,fun w ga gi gb h hb=>?_⟩
  ·exact (leastN_bad w _ _ n p ml F f (h.nss _) ⟨_,_,rfl,fun _=>⟨gb,rfl,hb⟩⟩ oM (fun i hi=>Nat.le_trans (hml i hi) oM) hs).mono fun _ _ h=>h.linN
  ·exact (rLeast_bad w _ _ n p ml F f (h.qss _) ⟨_,_,rfl,fun _=>⟨gb,rfl,hb⟩⟩ oM (fun i hi=>Nat.le_trans (hml i hi) oM) hs).mono fun _ _ h=>h.linQ
theorem leftF_sz {m i:Nat} {F:Nat -> Nat -> Cx} {f H:Nat -> Cx} (hF:∀ i k,Sz (F i k) 2) (hf:∀ i,Sz (f i) 2) (hH:∀ j,j < m -> Sz (H j) 100000000) (h5:m <= 5):∀ t,t <= m -> Sz (leftF m F f H i t) 500000024:=fun t ht=>by
 refine ((hf i).neg.add (sm_sz (p:=100000003) t 0 fun j _ hj=>((hF i j).mul (hH j oM)).mono oM)).mono ?_
 have:=Nat.mul_le_mul_right (100000003 + 1) (show t <= 5 by omega)
 omega
theorem leftF_next (m:Nat) (F:Nat -> Nat -> Cx) (f H:Nat -> Cx) (i t:Nat):leftF m F f H i (t + 1) = (leftF m F f H i t).add ((F i t).mul (H t)):=by
 unfold leftF
 rw [sm_last,Nat.zero_add]
 apply Cx.ext <;> simp only [Cx.add] <;> grind
theorem numLeast_walk (w:World) (A A':Option Addr) (n cap p cap':Nat) (ml:Nat -> Nat) (f:Nat -> Nat -> Int × Int × Int) (g:Nat -> Int × Int × Int) (hR:RatSS w A n ml f) (hR':RatS w A' p g) (h64:∀ i,Rat64 (f i)) (h64':Rat64 g)
  (hl:n <= 9223372036854775807) (hp:p <= 9223372036854775807) (hml:∀ i,i < n -> ml i <= 9223372036854775807) (hT:Tab w) :
  Calls Tryz.prog 4 #[.slice A n cap,.slice A' p cap'] w fun e w'=>e = .returned (.bool true) /\ Below w.heap.size w w':=by
 have HS1:=hid (fun W (hb:Below w.heap.size w W)=>small_any2 W A n cap ml f (hR.below hb) hl hml)
 have HAW:=hid (fun W (hb:Below w.heap.size w W)=>awake_any W (hT.below hb))
 have HT:=hid hT
 have HRR:=hid hR
 have HRR':=hid hR'
 have H64:=hid h64
 have H64':=hid h64'
 clear hR hR' h64 h64' hl hml hT
 go_enter Tryz.func4,Tryz.ntmps4
 go_wp2_with fail
 refine (HS1.out w rfB).mono ?_
 rintro e W1 ⟨b1,rfl,hs1,hb1⟩
 have X1:=hid hs1
 clear hs1
 cases b1
 ·go_wp2_with fail
  refine (HAW.out _ hb1).mono ?_
  rintro e W2 ⟨rfl,hb2⟩
  go_wp2
  go_ret
  exact ⟨rfl,bT hb1 hb2⟩
 by_cases hp40:40 < p
 ·have d1:(40:Int) < (p:Int):=oM
  have d2:decide ((40:Int) < (p:Int)) = true:=sO
  go_wp2_with fail
  refine (HAW.out _ hb1).mono ?_
  rintro e W2 ⟨rfl,hb2⟩
  go_wp2
  go_ret
  exact ⟨rfl,bT hb1 hb2⟩
 have d2:decide ((40:Int) < (p:Int)) = false:=sO
 have hp4:p <= 40:=oM
 have KB1:=hid hb1
 clear hb1 hp hp40
 obtain ⟨hn,hml,hV⟩:=X1.out (by trivial)
 have HF:∀ i k,Sz (ratF (f i) k) 2:=fun i k=>by
  obtain ⟨⟨a1,a2⟩,⟨a3,a4⟩,a5,a6⟩:=H64.out i k
  exact sz_of a1 a2 a3 a4 a5 a6
 have HG:∀ k,Sz (ratF g k) 2:=fun k=>by
  obtain ⟨⟨a1,a2⟩,⟨a3,a4⟩,a5,a6⟩:=H64'.out k
  exact sz_of a1 a2 a3 a4 a5 a6
 obtain ⟨k1,m,H,h5,hHs,hor,hn1,hq1⟩:=least_both (p:=p) (F:=fun i=>ratF (f i)) (f:=ratF g) HF hn hml hV HG
 have AL:Hid (∀ W (_:Below w.heap.size w W) v u,NSl W v m H -> QSl W u m H -> Calls Tryz.prog 17 #[v,u] W fun e w'=>e = .returned (.bool true) /\ Below W.heap.size W w') :=
  hid (fun W hb v u h h'=>areAll_any W v u m H h h' (HT.out.below hb) 100000000 hHs oM oM)
 have LN:=hid hn1
 have LQ:=hid hq1
 have R1:=hid (fun W (hb:Below w.heap.size w W)=>rows_any W A n cap ml f (HRR.out.below hb) H64.out oM (fun i hi=>Nat.le_trans (hml i hi) oM) (HT.out.below hb))
 have T1:=hid (fun W (hb:Below w.heap.size w W)=>refrows_any W A n cap ml f (HRR.out.below hb) H64.out oM (fun i hi=>Nat.le_trans (hml i hi) oM))
 have LI:=hid (fun W (hb:Below w.heap.size w W)=>list_any W A' p cap' g (HRR'.out.below hb) H64'.out oM (HT.out.below hb))
 have RL:=hid (fun W (hb:Below w.heap.size w W)=>reflist_any W A' p cap' g (HRR'.out.below hb) H64'.out oM)
 have HHS:=hid hHs
 obtain ⟨F,hFe⟩:∃ F:Nat -> Nat -> Cx,F = fun i=>ratF (f i):=⟨_,rfl⟩
 obtain ⟨b,hbe⟩:∃ b:Nat -> Cx,b = ratF g:=⟨_,rfl⟩
 have HF0:=hid (show ∀ i k,Sz (F i k) 2 by rw [hFe]; exact HF)
 have HG0:=hid (show ∀ i,Sz (b i) 2 by rw [hbe]; exact HG)
 have HOR:=hid (show 0 < m -> n <= 5 /\ p = n /\ (∀ i,i < n -> ml i = m) /\ ∀ k,k < m -> sm (fun i=>(F i k).conj.mul (leftF m F b H i m)) 0 n = .zero by rw [hFe,hbe]; exact hor)
 rw [<- hFe] at R1 T1 LN LQ
 rw [<- hbe] at LI RL LN LQ
 clear hFe hbe
 clear hn hml hV HF HG hHs hor hn1 hq1 X1 HS1 HRR HRR' H64 H64'
 go_wp2_with fail
 refine (R1.out W1 KB1.out).mono ?_
 rintro e W2 ⟨g2,rfl,hr,-,hb⟩
 have KB2:=hid (bT KB1.out hb)
 have L2:=hid hr
 clear hr hb R1
 go_wp2_with fail
 refine (LI.out W2 KB2.out).mono ?_
 rintro e W3 ⟨rfl,hr,hb⟩
 have KB3:=hid (bT KB2.out hb)
 have L3:=hid (L2.out.below hb)
 have B3:=hid hr
 clear hr hb LI L2
 generalize W1.heap.size = ga at *
 generalize W2.heap.size = gr at *
 go_wp2_with fail
 refine (LN.out W3 _ _ _ (HT.out.below KB3.out) L3.out B3.out).mono ?_
 rintro e W4 ⟨A4,cx,rfl,hv,hb⟩
 have KB4:=hid (bT KB3.out hb)
 have L4:=hid (L3.out.below hb)
 have B4:=hid (B3.out.below hb)
 have V4:=hid hv
 clear hv hb LN L3 B3
 go_wp2_with fail
 refine (T1.out W4 KB4.out).mono ?_
 rintro e W5 ⟨g5,rfl,hr,-,hb⟩
 have KB5:=hid (bT KB4.out hb)
 have L5:=hid (L4.out.below hb)
 have B5:=hid (B4.out.below hb)
 have V5:=hid (V4.out.below hb)
 have K5:=hid hr
 clear hr hb T1 L4 B4 V4
 go_wp2_with fail
 refine (RL.out W5 KB5.out).mono ?_
 rintro e W6 ⟨rfl,hr,hb⟩
 have KB6:=hid (bT KB5.out hb)
 have L6:=hid (L5.out.below hb)
 have B6:=hid (B5.out.below hb)
 have V6:=hid (V5.out.below hb)
 have K6:=hid (K5.out.below hb)
 have C6:=hid hr
 clear hr hb RL L5 B5 V5 K5
 generalize W4.heap.size = a4 at *
 generalize W5.heap.size = a5 at *
 go_wp2_with fail
 refine (LQ.out W6 _ _ _ K6.out C6.out).mono ?_
 rintro e W7 ⟨A7,c7,rfl,hv,hb⟩
 have KB7:=hid (bT KB6.out hb)
 have L7:=hid (L6.out.below hb)
 have B7:=hid (B6.out.below hb)
 have V7:=hid (V6.out.below hb)
 have U7:=hid hv
 clear hv hb LQ K6 C6 L6 B6 V6
 go_wp2_with fail
 refine (AL.out W7 KB7.out _ _ V7.out U7.out).mono ?_
 rintro e W8 ⟨rfl,hb⟩
 have KB8:=hid (bT KB7.out hb)
 have L8:=hid (L7.out.below hb)
 have B8:=hid (B7.out.below hb)
 have V8:=hid (V7.out.below hb)
 clear hb AL L7 B7 V7 U7
 go_wp2_with fail
 rcases Nat.eq_zero_or_pos m with hm0 | hm
 ·subst hm0
  go_loopw [54] (fun kv wx=>kv = .int .i64 0 /\ wx = W8) (fun _ _=>0)
  case atStart=>exact ⟨by trivial,by trivial⟩
  case round =>
   obtain ⟨rfl,rfl⟩:=hrel
   go_wp2_with fail
   refine (HAW.out _ KB8.out).mono ?_
   rintro e W9 ⟨rfl,hb⟩
   go_wp2
   go_ret
   exact ⟨rfl,bT KB8.out hb⟩
 obtain ⟨hn5,hpn,hall,hor⟩:=HOR.out hm
 have HA:=hid (L8.out.mat hall)
 have HR:=hid hor
 obtain ⟨A9,c9,he,hx⟩:=V8.out
 obtain ⟨gx,hgx,hN⟩:=hx hm
 cases he
 subst hgx
 have HX:=hid hN
 have HI0:=hid (fun W=>int_any 0 W oM oM)
 rw [Cx.int_zero'] at HI0
 have HNG:=hid (fun W v {x} (h:IsNum W v x)=>negN_any v x W h)
 have HCJ:=hid (fun W v {x} (h:IsNum W v x)=>conjN_any v x W h)
 have HCZ:=hid (fun W v (h:IsNum W v .zero)=>show Calls Tryz.prog 30 #[v] W fun e w'=>e = .returned (.bool false) /\ Below W.heap.size W w' from by
  have:=clear_any v .zero W h
  simpa using this)
 have HLS:=hid (fun i t (ht:t <= m)=>leftF_sz (i:=i) HF0.out HG0.out HHS.out h5 t ht)
 clear hall hor hx hN L8 V8 HOR
 have HKZ:=hid (Below.refl W8.heap.size W8)
 go_loopw [54] (fun kv wx=>∃ k:Nat,kv = .int .i64 (k:Int) /\ k <= m /\ Below W8.heap.size W8 wx) (fun kv _=>m - (intOf kv).toNat)
 case atStart=>exact ⟨0,rfl,oM,HKZ.out⟩
 case round =>
  clear HKZ
  obtain ⟨k,rfl,hkm,hB⟩:=hrel
  have KB:=hid hB
  clear hB
  by_cases hk:k < m
  ·obtain ⟨S,hS⟩:∃ S:Nat -> Cx,S = sm (fun i=>(F i k).conj.mul (leftF m F b H i m)) 0:=⟨_,rfl⟩
   have HS0:=hid (show S 0 = .zero by rw [hS]; rfl)
   have HSN:=hid (fun i=>show S (i + 1) = (S i).add ((F i k).conj.mul (leftF m F b H i m)) by rw [hS,sm_last,Nat.zero_add])
   have HSZ:=hid (show S n = .zero by rw [hS]; exact HR.out k hk)
   have HSS:=hid (fun i (hi:i < n)=>show Sz (S i) 2500000141 by
    rw [hS]
    refine (sm_sz (p:=500000027) i 0 fun j _ hj=>((HF0.out j k).conj.mul (HLS.out j m lR)).mono oM).mono ?_
    have:=Nat.mul_le_mul_right (500000027 + 1) (show i <= 5 by omega)
    omega)
   clear hS
   go_upto_region 11 with fail
   refine region_litA [.val (kNum (.zero)),.box 35 zNum,.put 1 0]
    ?fl1 ?hfl1 kR kR kR kR kR ⟨stab_num _,trivial⟩ sP ⟨obN (uC1 rfl .k fun _ W hb h=>HI0.out W),alloc_num,store_num _,trivial⟩ ?_
   case hfl1=>intro ts; simp only [fillT,zA,Nat.reduceAdd,sA,sB,sC]; rfl
   intro ts W2x hb2 hh hap
   obtain ⟨gs,A7,n7,c7,p7,A7b,n7b,c7b,p7b,A7c,n7c,c7c,e7,lo7,z7,X7,N7⟩:=held_box (x:=.zero) (hh 1 sP) rfl (hh 2 sP) rfl (hh 0 sP) rfl
   simp only [e7]
   clear hh hap e7
   have HS2:=hid (show NBlk W2x gs 1 (fun _=>S 0) by rw [HS0.out]; exact NBlk.one' X7 N7)
   have KB2:=hid (KB.out.trans (hb2.mono KB.out.size))
   have hgs:W8.heap.size <= gs:=Nat.le_trans KB.out.size lo7
   clear hb2 X7 N7 z7 lo7 KB HS0
   go_wp2_with fail
   go_loopw [60] (fun iv wx=>∃ i:Nat,iv = .int .i64 (i:Int) /\ i <= n /\ NBlk wx gs 1 (fun _=>S i) /\ Below W8.heap.size W8 wx) (fun iv _=>n - (intOf iv).toNat)
   case atStart=>exact ⟨0,rfl,oM,HS2.out,KB2.out⟩
   case round =>
    clear HS2 KB2
    obtain ⟨i,rfl,hin,hS,hB⟩:=hrel
    have HS3:=hid hS
    have KB:=hid hB
    clear hS hB
    by_cases hi:i < n
    ·have hip:i < p:=oM
     have HR1:=hid (B8.out.below KB.out)
     go_upto_region 15 with fail
     refine region_litA [.val (kIs (.slice (some ⟨gr,0,none⟩) p p)),.val (kIs (.int .i64 (i:Int))),.val (kIs (.pointer (some ⟨gr,5 * i,none⟩))),.val (kNum (b i)),.val (kNum ((b i).neg)),.box 35 zNum,.put 5 4]
      ?fl2 ?hfl2 kR kR kR kR kR ⟨stab_is _,stab_is _,stab_is _,stab_num _,stab_num _,trivial⟩ sP ⟨obN (uMf rfl .fr),obN (uMf rfl .fr),obN (nIq rfl (.is 0) (.is 1) hip),obN (nNe rfl (.is 2) (fun W hb=>HR1.out.below hb) hip),obN (uC1 rfl (.at 3) fun _ W hb h=>HNG.out W _ (pg 3 h)),alloc_num,store_num _,trivial⟩ ?_
     case hfl2=>intro ts; simp only [fillT,zA,Nat.reduceAdd,sA,sB,sC]; rfl
     intro ts W4 hb4 hh hap
     obtain ⟨gl,A8,n8,c8,p8,A8b,n8b,c8b,p8b,A8c,n8c,c8c,e8,lo8,z8,X8,N8⟩:=held_box (x:=(b i).neg) (hh 5 sP) rfl (hh 6 sP) rfl (hh 4 sP) rfl
     simp only [e8]
     clear hh hap e8
     have HL5:=hid (show NBlk W4 gl 1 (fun _=>leftF m F b H i 0) by rw [show leftF m F b H i 0 = (b i).neg from Cx.add_zero _]; exact NBlk.one' X8 N8)
     have HS5:=hid (HS3.out.below hb4)
     have KB5:=hid (KB.out.trans (hb4.mono KB.out.size))
     have hgl:W8.heap.size <= gl:=Nat.le_trans KB.out.size lo8
     have hsl:gs ≠ gl:=by have:=HS3.out.lt; omega
     clear hb4 X8 N8 z8 lo8 KB HS3 HR1
     go_wp2_with fail
     go_loopw [70] (fun jv wy=>∃ j:Nat,jv = .int .i64 (j:Int) /\ j <= m /\ NBlk wy gl 1 (fun _=>leftF m F b H i j) /\ NBlk wy gs 1 (fun _=>S i) /\ Below W8.heap.size W8 wy) (fun jv _=>m - (intOf jv).toNat)
     case atStart=>exact ⟨0,rfl,oM,HL5.out,HS5.out,KB5.out⟩
     case round =>
      clear HL5 HS5 KB5
      obtain ⟨j,rfl,hjm,hL,hS,hB⟩:=hrel
      have HL4:=hid hL
      have HS4:=hid hS
      have KC:=hid hB
      have KB4:=hid (bT KB8.out hB)
      have HA4:=hid (HA.out.below hB)
      have HX4:=hid (HX.out.below hB)
      clear hL hS hB
      by_cases hj:j < m
      ·have HMU:=hid (fun W (hb:Below w.heap.size w W) v u (k1:IsNum W v (F i j)) (k2:IsNum W u (H j))=>mulN_any v u _ _ W k1 k2 _ _ (HF0.out i j) (HHS.out j hj) oM (HT.out.below hb))
       have HAD:=hid (fun W (hb:Below w.heap.size w W) v u (k1:IsNum W v (leftF m F b H i j)) (k2:IsNum W u ((F i j).mul (H j)))=>addN_any v u _ _ W k1 k2 _ _ (HLS.out i j hjm) ((HF0.out i j).mul (HHS.out j hj)) oM (HT.out.below hb))
       go_upto_region 19 with fail
       refine region_lastA [.val (kNum (leftF m F b H i j)),.val (kIs (.slice (some ⟨ga,0,none⟩) n n)),.val (kIs (.int .i64 (i:Int))),.val (kIs (.pointer (some ⟨ga,i,none⟩))),.val (kIs (.slice (some ⟨g2 i,0,none⟩) m m)),.val (kIs (.int .i64 (j:Int))),.val (kIs (.pointer (some ⟨(g2 i),5 * j,none⟩))),.val (kNum (F i j)),.val (kIs (.slice (some ⟨gx,0,none⟩) m cx)),.val (kIs (.int .i64 (j:Int))),.val (kIs (.pointer (some ⟨gx,5 * j,none⟩))),.val (kNum (H j)),.val (kNum ((F i j).mul (H j))),.val (kNum ((leftF m F b H i j).add ((F i j).mul (H j))))]
        ?fl3 ?hfl3 kR kR kR kR kR ⟨Stab.b (stab_num _),Stab.b (stab_is _),Stab.b (stab_is _),Stab.b (stab_is _),Stab.b (stab_is _),Stab.b (stab_is _),Stab.b (stab_is _),Stab.b (stab_num _),Stab.b (stab_is _),Stab.b (stab_is _),Stab.b (stab_is _),Stab.b (stab_num _),Stab.b (stab_num _),Stab.b (stab_num _),trivial⟩ sP (ol:=_) rfl kR ⟨obN (nNe (k:=0) (f:=fun _=>leftF m F b H i j) rfl .fr (fun W hb=>HL4.out.below hb) (by omega:0 < 1)),obN (uMf rfl .fr),obN (uMf rfl .fr),obN (nIr rfl (.is 1) (.is 2) hi),obN (nLr rfl (.is 3) fun W hb=>(HA4.out.below hb).cell hi),obN (uMf rfl .fr),obN (nIq rfl (.is 4) (.is 5) hj),obN (nNe rfl (.is 6) (fun W hb=>(HA4.out.below hb).row hi) hj),obN (uMf rfl .fr),obN (uMf rfl .fr),obN (nIq rfl (.is 8) (.is 9) hj),obN (nNe rfl (.is 10) (fun W hb=>HX4.out.below hb) hj),obN (uC2 rfl (.at 7) (.at 11) fun _ W hb h=>HMU.out W (bT KB4.out hb) _ _ (pg 7 h) (pg 11 h)),obN (uC2 rfl (.at 0) (.at 12) fun _ W hb h=>HAD.out W (bT KB4.out hb) _ _ (pg 0 h) (pg 12 h)),trivial⟩ ?_
       case hfl3=>intro ts; simp only [fillT,zA,Nat.reduceAdd,sA,sB,sC]; rfl
       intro ts W9 a9 ha9 hb9 hh K hK
       have hz:IsNum W9 (ts 13) ((leftF m F b H i j).add ((F i j).mul (H j))):=hh 13 sP
       have ex:=(ha9 14).trans (show _ = Value.pointer (some ⟨gl,5 * 0,none⟩) by kernel_rfl)
       have ez:=(ha9 86).trans (by kernel_rfl:_ = ts 13)
       have HK:=hid hK
       clear hK hh
       refine ⟨wp_store_elem rfl (k:=0) ex ez (HL4.out.below hb9) oM hz fun W5 hbut hext hrow=>⟨rfl,HK.out _ ?_⟩⟩
       have HL5:=hid (show NBlk W5 gl 1 (fun _=>leftF m F b H i (j + 1)) from hrow.congr fun q hq=>by
        obtain rfl:q = 0:=oM
        rw [upf_same,leftF_next])
       have HS5:=hid ((HS4.out.below hb9).but hbut hext hsl)
       have KB5:=hid (hbut.below (KC.out.trans (hb9.mono KC.out.size)) hgl)
       clear HK hz ex ez hbut hext hrow HL4 HS4 KC KB4 HA4 HX4 hb9 ha9 HMU HAD
       go_wp2
       go_roundw
       case rel=>exact ⟨j + 1,by go_num,oM,HL5.out,HS5.out,KB5.out⟩
       case measure=>exact mS
      ·obtain rfl:m = j:=oM
       have HMU:=hid (fun W (hb:Below w.heap.size w W) v u (k1:IsNum W v (F i k).conj) (k2:IsNum W u (leftF m F b H i m))=>mulN_any v u _ _ W k1 k2 _ _ (HF0.out i k).conj (HLS.out i m lR) oM (HT.out.below hb))
       have HAD:=hid (fun W (hb:Below w.heap.size w W) v u (k1:IsNum W v (S i)) (k2:IsNum W u ((F i k).conj.mul (leftF m F b H i m)))=>addN_any v u _ _ W k1 k2 _ _ (HSS.out i hi) ((HF0.out i k).conj.mul (HLS.out i m lR)) oM (HT.out.below hb))
       go_upto_region 21 with fail
       refine region_lastA [.val (kNum (S i)),.val (kIs (.slice (some ⟨ga,0,none⟩) n n)),.val (kIs (.int .i64 (i:Int))),.val (kIs (.pointer (some ⟨ga,i,none⟩))),.val (kIs (.slice (some ⟨g2 i,0,none⟩) m m)),.val (kIs (.int .i64 (k:Int))),.val (kIs (.pointer (some ⟨(g2 i),5 * k,none⟩))),.val (kNum (F i k)),.val (kNum ((F i k).conj)),.val (kNum (leftF m F b H i m)),.val (kNum ((F i k).conj.mul (leftF m F b H i m))),.val (kNum ((S i).add ((F i k).conj.mul (leftF m F b H i m))))]
        ?fl4 ?hfl4 kR kR kR kR kR ⟨Stab.b (stab_num _),Stab.b (stab_is _),Stab.b (stab_is _),Stab.b (stab_is _),Stab.b (stab_is _),Stab.b (stab_is _),Stab.b (stab_is _),Stab.b (stab_num _),Stab.b (stab_num _),Stab.b (stab_num _),Stab.b (stab_num _),Stab.b (stab_num _),trivial⟩ sP (ol:=_) rfl kR ⟨obN (nNe (k:=0) (f:=fun _=>S i) rfl .fr (fun W hb=>HS4.out.below hb) (by omega:0 < 1)),obN (uMf rfl .fr),obN (uMf rfl .fr),obN (nIr rfl (.is 1) (.is 2) hi),obN (nLr rfl (.is 3) fun W hb=>(HA4.out.below hb).cell hi),obN (uMf rfl .fr),obN (nIq rfl (.is 4) (.is 5) hk),obN (nNe rfl (.is 6) (fun W hb=>(HA4.out.below hb).row hi) hk),obN (uC1 rfl (.at 7) fun _ W hb h=>HCJ.out W _ (pg 7 h)),obN (nNe (k:=0) (f:=fun _=>leftF m F b H i m) rfl .fr (fun W hb=>HL4.out.below hb) (by omega:0 < 1)),obN (uC2 rfl (.at 8) (.at 9) fun _ W hb h=>HMU.out W (bT KB4.out hb) _ _ (pg 8 h) (pg 9 h)),obN (uC2 rfl (.at 0) (.at 10) fun _ W hb h=>HAD.out W (bT KB4.out hb) _ _ (pg 0 h) (pg 10 h)),trivial⟩ ?_
       case hfl4=>intro ts; simp only [fillT,zA,Nat.reduceAdd,sA,sB,sC]; rfl
       intro ts W9 a9 ha9 hb9 hh K hK
       have hz:IsNum W9 (ts 11) ((S i).add ((F i k).conj.mul (leftF m F b H i m))):=hh 11 sP
       have ex:=(ha9 12).trans (show _ = Value.pointer (some ⟨gs,5 * 0,none⟩) by kernel_rfl)
       have ez:=(ha9 99).trans (by kernel_rfl:_ = ts 11)
       have HK:=hid hK
       clear hK hh
       refine ⟨wp_store_elem rfl (k:=0) ex ez (HS4.out.below hb9) oM hz fun W5 hbut hext hrow=>⟨rfl,HK.out _ ?_⟩⟩
       have HS5:=hid (show NBlk W5 gs 1 (fun _=>S (i + 1)) from hrow.congr fun q hq=>by
        obtain rfl:q = 0:=oM
        rw [upf_same,HSN.out])
       have KB5:=hid (hbut.below (KC.out.trans (hb9.mono KC.out.size)) hgs)
       clear HK hz ex ez hbut hext hrow HL4 HS4 KC KB4 HA4 HX4 hb9 ha9 HMU HAD
       go_wp2
       go_roundw
       case rel=>exact ⟨i + 1,by go_num,oM,HS5.out,KB5.out⟩
       case measure=>exact mS
    ·obtain rfl:n = i:=oM
     rw [HSZ.out] at HS3
     have HS4:=hid HS3.out
     go_upto_region 23 with fail
     refine region_litA [.val (kNum (.zero)),.val (kIs (.bool false))]
      ?fl5 ?hfl5 kR kR kR kR kR ⟨Stab.b (stab_num _),Stab.b (stab_is _),trivial⟩ sP ⟨obN (nNe (k:=0) (f:=fun _=>.zero) rfl .fr (fun W hb=>HS4.out.below hb) (by omega:0 < 1)),obN (uC1 rfl (.at 0) fun _ W hb h=>cIs (HCZ.out W _ (pg 0 h))),trivial⟩ ?_
     case hfl5=>intro ts; simp only [fillT,zA,Nat.reduceAdd,sA,sB,sC]; rfl
     intro ts W4 hb4 hh hap
     have e1:=held_is (hh 1 sP) rfl
     simp only [e1]
     clear hh hap e1
     have KB5:=hid (KB.out.trans (hb4.mono KB.out.size))
     clear hb4 HS3 HS4 KB
     go_wp2
     go_roundw
     case rel=>exact ⟨k + 1,by go_num,oM,KB5.out⟩
     case measure=>exact mS
  ·obtain rfl:m = k:=oM
   have KB5:=hid (bT KB8.out KB.out)
   go_wp2_with fail
   refine (HAW.out _ KB5.out).mono ?_
   rintro e W9 ⟨rfl,hb⟩
   go_wp2
   go_ret
   exact ⟨rfl,bT KB5.out hb⟩
end Go.Proofs.YtffegeaflohfhaaGreatDoor
namespace Go.Proofs.YtffegeaflohfhaaGreatDoor
open Go Go.ChangeShapes Go.WideShapes Go.ChangeAt Go.WideMaps Go.WideElems Go.RowKit Go.Joins
theorem numLeast_lifted (os:Os) (started:os.Started) (H:Type) (enc:TypeId × Value -> H) :
  ReturnsInHanded {} Tryz.checked os 4 .any (fun w args=>(Rows.numLeastSpec.pre enc Tryz.prog Tryz.f4 [] false w args /\ laidMetH Tryz.prog [("math/bits.deBruijn32tab",Rows.laid_math_bits_deBruijn32tab)] w) /\ sizedMet enc Tryz.prog Tryz.f4 (OpenSpec.ofChange Rows.numLeastSpec) false w args)
   (Rows.numLeastSpec.post enc Tryz.prog Tryz.f4 false true false false):=by
 refine returnsInHanded_of_change_and (C:=Tryz.checked) (X:=fun w _=>laidMetH Tryz.prog [("math/bits.deBruijn32tab",Rows.laid_math_bits_deBruijn32tab)] w) (fun _ _ _ hh h=>h.of_heap hh) own_knob started kR Tryz.func4
  (ChangeSpec.witness_shaped (enc:=enc) (C:=Tryz.checked) (os:=os) (X:=fun w _=>laidMetH Tryz.prog [("math/bits.deBruijn32tab",Rows.laid_math_bits_deBruijn32tab)] w) false (World.doorLaid Tryz.prog 400 os) #[.slice none 0 0,.slice none 0 0] 8 rfl (World.shaped_of_RefB kR kR) kR kR kR (door_met os _)) ?_
 intro W base args ds gs before hval0 hW _ _ hL _
 have hval:∀ (j:Nat) t v,Tryz.f4.params[j]? = some t -> args[j]? = some v -> Value.okWide Tryz.prog W .any base t v:=hval0
 have hWW:=hW
 obtain ⟨p,q,hA0,hV,rfl,hfz,hnd⟩:=hW
 have hA:DataW.TrodAll enc Tryz.prog W 0 (fun _=>true) true Tryz.f4.params.toList args.toList ds p:=hA0
 rw [Tryz.params4] at hA hval
 obtain ⟨v0,v1,d0,d1,q0,q1,rfl,rfl,rfl,h0,h1⟩:=trodAll_two hA
 obtain ⟨A,len,cap,ml,f,rfl,hl,hml,hR,h64⟩:=open_ratioss (hval 0 _ _ rfl rfl) h0
 obtain ⟨A',len',cap',g,rfl,hl',hR',h64'⟩:=open_ratios (hval 1 _ _ rfl rfl) h1
 have hT:=tab_of_laid hL
 obtain ⟨rfl,rfl⟩:=trodVars_none hV
 refine (numLeast_walk W A A' len cap len' cap' ml f g hR hR' h64 h64' hl hl' hml hT).mono fun e W' ⟨he,hb⟩=>?_
 subst he
 exact ⟨_,rfl,law_post rfl rfl kR ⟨rfl,rfl,rfl⟩ hWW hb⟩
theorem numLeast_said:Rows.NumLeastSaid :=
 OpenClaim.holds_of_wide 4 Tryz.f4 rfl rfl rfl rfl rfl rfl rfl ⟨rfl,rfl,rfl,rfl,rfl⟩ rfl rfl rfl rfl rfl kR Tryz.func4 kR
  (of_decide_eq_true kR) (by unfold Func.isWrapper; first | (rw [if_pos dK]; kernel_rfl) | (rw [if_neg dK]; exact ⟨rfl,rfl⟩))
  (fun os started H enc _=>numLeast_lifted os started H enc)
theorem numLeast_holds:Rows.NumLeastCardSaid :=
 Claim7.holds_tied_plain_at .later [] [.data] true Rows.numLeastCard.stood.harness false
  numLeast_said (fun _ h=>by cases h) kR (fun _ h=>by cases h) numLeast_row_tie rfl ⟨rfl,rfl⟩ kR rfl
  (fun f fn hf hfn=>by
   obtain rfl:f = 4:=Option.some.inj ((show Tryz.prog.funcNamed "waveport/waveportlaw01.NumLeast" = some 4 by kernel_rfl).symm.trans hf) |>.symm
   obtain rfl:fn = Tryz.f4:=(Option.some.inj (Tryz.func4.symm.trans hfn)).symm
   exact ⟨kR,fun j t ht=>by
    rw [Tryz.params4] at ht
    have hm:t ∈ [22,23]:=by simpa using Array.mem_of_getElem? ht
    have hall:([22,23].all fun u=>!Tryz.prog.wantsStandIn u) = true:=kR
    exact (show Tryz.prog.wantsStandIn t = false by simpa using List.all_eq_true.1 hall t hm)⟩)
  kR
end Go.Proofs.YtffegeaflohfhaaGreatDoor
