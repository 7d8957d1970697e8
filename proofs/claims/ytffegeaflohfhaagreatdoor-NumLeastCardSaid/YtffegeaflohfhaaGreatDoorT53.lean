import Derived.Test.YtffegeaflohfhaaGreatDoorS38
import Derived.Test.YtffegeaflohfhaaGreatDoorS39
import Derived.Test.YtffegeaflohfhaaGreatDoorT44
import Derived.Test.YtffegeaflohfhaaGreatDoorT50
import Derived.Test.YtffegeaflohfhaaGreatDoorT52
import Derived.Test.YtffegeaflohfhaaGreatDoorS02
set_option linter.unusedVariables false
set_option linter.unusedSimpArgs false
set_option maxRecDepth 100000
set_option maxHeartbeats 8000000
namespace Go.Proofs.YtffegeaflohfhaaGreatDoor
open Go.RowKit
theorem upf_back' {α:Type} (f:Nat -> α) (i:Nat):upf f i (f i) = f:=funext fun j=>by
 by_cases e:j = i
 ·rw [e,upf_same]
 ·rw [upf_other _ _ e]
theorem rApply_any (w:World) (ga gb:Nat) (gi:Nat -> Nat) (n m cap cb p:Nat) (F:Nat -> Nat -> Cx) (b:Nat -> Cx) (hA:MatQ w ga gi n m F) (hB:QBlk w gb m (fun _=>True) b) (hn:n <= 1024) (hm:m <= 1024)
  (hF:∀ i k,i < n -> k < m -> Sz (F i k) p) (hb:∀ k,k < m -> Sz (b k) p) (h5:1 + 1026 * (2 * p + 3) < 549755813888) :
  Calls Tryz.prog 73 #[.slice (some ⟨ga,0,none⟩) n cap,.slice (some ⟨gb,0,none⟩) m cb] w fun e w'=>∃ go,e = .returned (.slice (some ⟨go,0,none⟩) n n) /\ QBlk w' go n (fun _=>True) (mulV m F b) /\ Below w.heap.size w w' /\ w.heap.size <= go:=by
 obtain ⟨W1,hr1,hb1,hs1,hN1⟩:=make_q' n oM w
 obtain ⟨V,hV⟩:∃ V,V = mulV m F b:=⟨_,rfl⟩
 obtain ⟨S,hS⟩:∃ S:Nat -> Nat -> Cx,S = fun i=>sm (fun k=>(F i k).mul (b k)) 0:=⟨_,rfl⟩
 rw [<- hV]
 have HS0:=hid (fun i=>show S i 0 = .zero by rw [hS]; rfl)
 have HSM:=hid (fun i=>show S i m = V i by rw [hS,hV]; rfl)
 have HSN:=hid (fun i k=>show S i (k + 1) = (S i k).add ((F i k).mul (b k)) by rw [hS]; simp only [sm_last,Nat.zero_add])
 have HSS:=hid (fun i k (hi:i < n) (hk:k < m)=>show Sz (S i k) (1 + 1024 * (2 * p + 2)) by
  rw [hS]
  refine (sm_sz (p:=p + p + 1) k 0 fun j _ hj=>(hF i j hi oM).mul (hb j oM)).mono ?_
  have:=Nat.mul_le_mul_right (2 * p + 2) (show k <= 1024 by omega)
  rw [show p + p + 1 + 1 = 2 * p + 2 by omega]
  omega)
 have HAD0:=hid (fun i k (hi:i < n) (hk:k < m) W v u (k1:IsQ W v (S i k)) (k2:IsQ W u ((F i k).mul (b k)))=>rAdd_any v u (S i k) _ W k1 k2 _ _ (HSS.out i k hi hk) ((hF i k hi hk).mul (hb k hk)) oM)
 have HMU0:=hid (fun i k (hi:i < n) (hk:k < m) W v u (k1:IsQ W v (F i k)) (k2:IsQ W u (b k))=>rMul_any v u _ _ W k1 k2 p p (hF i k hi hk) (hb k hk) oM)
 have HW:=hid (fun W=>rWhole_any 0 W oM oM)
 rw [Cx.int_zero'] at HW
 have HA0:=hid hA
 have HB0:=hid hB
 have HO0:=hid (show QBlk W1 w.heap.size n (fun j=>j < 0) V from hN1.to fun j _ h=>absurd h oM)
 have KB0:=hid hb1
 have hga:=hA.lt
 have hgb:=hB.lt
 have hgi:∀ i,i < n -> gi i < w.heap.size:=fun i hi=>(hA.row hi).lt
 clear hA hB hF hb h5 hS hV HSS hN1 hb1
 go_enter Tryz.func73,Tryz.ntmps73
 go_wp2
 clear hr1
 go_loopw [6] (fun iv wx=>∃ i:Nat,iv = .int .i64 (i:Int) /\ i <= n /\ QBlk wx w.heap.size n (fun j=>j < i) V /\ Below w.heap.size w wx) (fun iv _=>n - (intOf iv).toNat)
 case atStart=>exact ⟨0,rfl,oM,HO0.out,KB0.out⟩
 case round =>
  clear HO0 KB0
  obtain ⟨i,rfl,hin,hO,hB⟩:=hrel
  have HO1:=hid hO
  have KB:=hid hB
  clear hO hB
  by_cases hi:i < n
  ·go_upto_region 5 with fail
   refine region_lastA [.val (kIs (.slice (some ⟨w.heap.size,0,none⟩) n n)),.val (kIs (.int .i64 (i:Int))),.val (kQ (.zero)),.val (kIs (.pointer (some ⟨w.heap.size,5 * i,none⟩)))]
    ?fl1 ?hfl1 kR kR kR kR kR ⟨Stab.b (stab_is _),Stab.b (stab_is _),Stab.b (stab_q _),Stab.b (stab_is _),trivial⟩ sP (ol:=_) rfl kR ⟨obN (uMf rfl .fr),obN (uMf rfl .fr),obN (uC1 rfl .k fun _ W hb h=>HW.out W),obN (uIq rfl (.is 0) (.is 1) hi),trivial⟩ ?_
   case hfl1=>intro ts; simp only [fillT,zA,Nat.reduceAdd,sA,sB,sC]; rfl
   intro ts W9 a9 ha9 hb9 hh K hK
   have hz:IsQ W9 (ts 2) .zero:=hh 2 sP
   have hx:ts 3 = _:=hh 3 sP
   have ex:=(ha9 20).trans (by kernel_rfl:_ = ts 3)
   have ez:=(ha9 19).trans (by kernel_rfl:_ = ts 2)
   have HK:=hid hK
   clear hK hh
   refine ⟨wp_store_qe rfl (k:=i) (ex.trans hx) ez (HO1.out.below hb9) hi hz fun W5 hbut hext hrow=>⟨rfl,HK.out _ ?_⟩⟩
   have HO5:=hid (show QBlk W5 w.heap.size n (fun j=>j < i + 1) (upf V i (S i 0)) from hrow.to fun j hj hv=>⟨by (show j < i ∨ j = i); omega,by rw [HS0.out]⟩)
   have KB5:=hid (hbut.below (bT KB.out hb9) lR)
   clear HK hz hx ex ez hbut hext hrow HO1 KB hb9 ha9
   go_wp2_with fail
   go_loopw [7] (fun kv wx=>∃ k:Nat,kv = .int .i64 (k:Int) /\ k <= m /\ QBlk wx w.heap.size n (fun j=>j < i + 1) (upf V i (S i k)) /\ Below w.heap.size w wx) (fun kv _=>m - (intOf kv).toNat)
   case atStart=>exact ⟨0,rfl,oM,HO5.out,KB5.out⟩
   case round =>
    clear HO5 KB5
    obtain ⟨k,rfl,hkm,hO,hB⟩:=hrel
    obtain ⟨P,hP⟩:∃ P,P = upf V i (S i k):=⟨_,rfl⟩
    rw [<- hP] at hO
    have HP:=hid (show P i = S i k by rw [hP,upf_same])
    have HPe:=hid hP
    have HO:=hid hO
    have KB:=hid hB
    have HA:=hid (HA0.out.below hB)
    have HB:=hid (HB0.out.below hB)
    clear hO hB hP
    have hcell:=HA.out.cell hi
    by_cases hk:k < m
    ·have HMU:=hid (HMU0.out i k hi hk)
     have HAD:=hid (HAD0.out i k hi hk)
     rw [<- HP.out] at HAD
     go_upto_region 9 with fail
     clear hcell
     refine region_lastA [.val (kIs (.slice (some ⟨w.heap.size,0,none⟩) n n)),.val (kIs (.int .i64 (i:Int))),.val (kIs (.slice (some ⟨w.heap.size,0,none⟩) n n)),.val (kIs (.int .i64 (i:Int))),.val (kIs (.pointer (some ⟨w.heap.size,5 * i,none⟩))),.val (kQ (P i)),.val (kIs (.slice (some ⟨ga,0,none⟩) n cap)),.val (kIs (.int .i64 (i:Int))),.val (kIs (.pointer (some ⟨ga,i,none⟩))),.val (kIs (.slice (some ⟨gi i,0,none⟩) m m)),.val (kIs (.int .i64 (k:Int))),.val (kIs (.pointer (some ⟨(gi i),5 * k,none⟩))),.val (kQ (F i k)),.val (kIs (.slice (some ⟨gb,0,none⟩) m cb)),.val (kIs (.int .i64 (k:Int))),.val (kIs (.pointer (some ⟨gb,5 * k,none⟩))),.val (kQ (b k)),.val (kQ ((F i k).mul (b k))),.val (kQ ((P i).add ((F i k).mul (b k)))),.val (kIs (.pointer (some ⟨w.heap.size,5 * i,none⟩)))]
      ?fl2 ?hfl2 kR kR kR kR kR ⟨Stab.b (stab_is _),Stab.b (stab_is _),Stab.b (stab_is _),Stab.b (stab_is _),Stab.b (stab_is _),Stab.b (stab_q _),Stab.b (stab_is _),Stab.b (stab_is _),Stab.b (stab_is _),Stab.b (stab_is _),Stab.b (stab_is _),Stab.b (stab_is _),Stab.b (stab_q _),Stab.b (stab_is _),Stab.b (stab_is _),Stab.b (stab_is _),Stab.b (stab_q _),Stab.b (stab_q _),Stab.b (stab_q _),Stab.b (stab_is _),trivial⟩ sP (ol:=_) rfl kR ⟨obN (uMf rfl .fr),obN (uMf rfl .fr),obN (uMf rfl .fr),obN (uMf rfl .fr),obN (uIq rfl (.is 2) (.is 3) hi),obN (uQe rfl (.is 4) (fun W hb=>HO.out.below hb) hi (by (show i < i + 1); omega)),obN (uMf rfl .fr),obN (uMf rfl .fr),obN (uIr rfl (.is 6) (.is 7) hi),obN (uLr' rfl (.is 8) fun W hb=>(HA.out.below hb).cell hi),obN (uMf rfl .fr),obN (uIq rfl (.is 9) (.is 10) hk),obN (uQe rfl (.is 11) (fun W hb=>(HA.out.below hb).row hi) hk trivial),obN (uMf rfl .fr),obN (uMf rfl .fr),obN (uIq rfl (.is 13) (.is 14) hk),obN (uQe rfl (.is 15) (fun W hb=>HB.out.below hb) hk trivial),obN (uC2 rfl (.at 12) (.at 16) fun _ W hb h=>HMU.out W _ _ (pg 12 h) (pg 16 h)),obN (uC2 rfl (.at 5) (.at 17) fun _ W hb h=>HAD.out W _ _ (pg 5 h) (pg 17 h)),obN (uIq rfl (.is 0) (.is 1) hi),trivial⟩ ?_
     case hfl2=>intro ts; simp only [fillT,zA,Nat.reduceAdd,sA,sB,sC]; rfl
     intro ts W9 a9 ha9 hb9 hh K hK
     have hz:IsQ W9 (ts 18) ((P i).add ((F i k).mul (b k))):=hh 18 sP
     have hx:ts 19 = _:=hh 19 sP
     have ex:=(ha9 49).trans (by kernel_rfl:_ = ts 19)
     have ez:=(ha9 48).trans (by kernel_rfl:_ = ts 18)
     have HK:=hid hK
     clear hK hh
     refine ⟨wp_store_qe rfl (k:=i) (ex.trans hx) ez (HO.out.below hb9) hi hz fun W5 hbut hext hrow=>⟨rfl,HK.out _ ?_⟩⟩
     have HO5:=hid (show QBlk W5 w.heap.size n (fun j=>j < i + 1) (upf V i (S i (k + 1))) from hrow.to fun j hj hv=>⟨.inl hv,by
      rw [HP.out,HSN.out,HPe.out]
      by_cases e:j = i
      ·rw [e,upf_same,upf_same]
      ·rw [upf_other _ _ e,upf_other _ _ e,upf_other _ _ e]⟩)
     have KB5:=hid (hbut.below (bT KB.out hb9) lR)
     clear HK hz hx ex ez hbut hext hrow HO KB hb9 ha9 HMU HAD HA HB HP HPe
     go_wp2
     go_roundw
     case rel=>exact ⟨k + 1,by go_num,oM,HO5.out,KB5.out⟩
     case measure=>exact mS
    ·obtain rfl:m = k:=oM
     have HO5:=hid (show QBlk wr w.heap.size n (fun j=>j < i + 1) V from HO.out.to fun j _ hv=>⟨hv,by rw [HPe.out,HSM.out,upf_back']⟩)
     clear HO HA HB HP HPe
     go_wp2
     go_roundw
     case rel=>exact ⟨i + 1,by go_num,oM,HO5.out,KB.out⟩
     case measure=>exact mS
  ·obtain rfl:n = i:=oM
   have HO5:=hid (HO1.out.to (V':=fun _=>True) (f':=V) fun j hj _=>⟨hj,rfl⟩)
   go_wp2
   go_ret
   exact ⟨_,rfl,HO5.out,KB.out,Nat.le_refl _⟩
theorem h5t:∀ n,n <= 5 -> szE 31 n + n * (szE 31 n + szX (szE 31 n) n + 2) + 5 * szE 31 n + szX (szE 31 n) n + 10 < 549755813888:=dK
theorem h5u:∀ n,n <= 5 -> szE 31 (n + 1) < 549755813888:=dK
theorem dot0_any (w:World) (ga gb n p:Nat) (f g:Nat -> Cx) (hA:NBlk w ga n f) (hB:NBlk w gb n g) (h4:n <= 1024) (hT:Tab w) (hf:∀ i,i < n -> Sz (f i) p) (hg:∀ i,i < n -> Sz (g i) p) (h5:1 + 1026 * (2 * p + 3) < 549755813888) :
  Calls Tryz.prog 70 #[.slice (some ⟨ga,0,none⟩) n n,.slice (some ⟨gb,0,none⟩) n n] w (RetNum w (sm (fun i=>(f i).mul (g i)) 0 n)):=by
 have h:=dot_any w ga gb 0 0 n n n n n n p f g hA hB oM oM lR h4 hT (fun i hi=>by rw [Nat.zero_add]; exact hf i hi) (fun i hi=>by rw [Nat.zero_add]; exact hg i hi) h5
 simp only [Nat.zero_add,Nat.mul_zero] at h
 exact h
theorem leastN_ok (w:World) (ga gb:Nat) (gi:Nat -> Nat) (n m:Nat) (F:Nat -> Nat -> Cx) (b:Nat -> Cx) (hA:MatAt w ga gi n m F) (hB:NBlk w gb n b) (hn:0 < n) (hm:0 < m) (hn1:n <= 5) (hm1:m <= 5) (hT:Tab w) (hF:∀ i k,Sz (F i k) 2) (hb:∀ i,Sz (b i) 2) :
  Calls Tryz.prog 23 #[.slice (some ⟨ga,0,none⟩) n n,.slice (some ⟨gb,0,none⟩) n n] w (RetSolN w m ((elimS m m 0 (mulM n (adjM F) F) 0).1 = m) (solX (elimS m m 0 (addC (mulM n (adjM F) F) m (mulV n (adjM F) b) m) 0).2.2 m m)):=by
 have e5:=h5t m hm1
 have h31:∀ f:Nat -> Cx,(∀ i,Sz (f i) 5) -> Sz (sm f 0 n) 31:=fun f hf=>(sm_sz (p:=5) n 0 fun j _ _=>hf j).mono oM
 have HDT:=hid (fun W (hb':Below w.heap.size w W) i {g} (h:NBlk W g n (adjM F i))=>show Calls Tryz.prog 70 #[.slice (some ⟨g,0,none⟩) n n,.slice (some ⟨gb,0,none⟩) n n] W (RetNum W (mulV n (adjM F) b i)) from dot0_any W g gb n 2 _ _ h (hB.below hb') oM (hT.below hb') (fun k _=>(hF k i).conj) (fun k _=>hb k) oM)
 have hP:∀ a c,a < m -> c < m -> Sz (mulM n (adjM F) F a c) 31:=fun a c _ _=>h31 _ fun j=>(hF j a).conj.mul (hF j c)
 have hR:∀ a,a < m -> Sz (mulV n (adjM F) b a) 31:=fun a _=>h31 _ fun j=>(hF j a).conj.mul (hb j)
 have HSO:=hid (fun W (hb':Below w.heap.size w W) g g' gi (h:MatAt W g gi m m (mulM n (adjM F) F)) (h':NBlk W g' m (mulV n (adjM F) b))=>solveN_any W g g' gi m 31 _ _ h h' oM (hT.below hb') hP hR e5)
 have HPR:=hid (fun W (hb':Below w.heap.size w W) g gj (h:MatAt W g gj m n (adjM F))=>productN_any W g ga gj gi m n m 2 2 (adjM F) F h (hA.below hb') hm hn oM oM oM (hT.below hb') (fun a c _ _=>(hF c a).conj) (fun a c _ _=>hF a c) oM)
 have HAD:=hid (fun W (hb':Below w.heap.size w W)=>adjointN_any W ga gi n m F (hA.below hb') hn oM oM)
 have HSD:=hid (sidesN_rect w ga gi n m F hA hn oM oM)
 obtain ⟨R,hRe⟩:∃ R,R = mulV n (adjM F) b:=⟨_,rfl⟩
 obtain ⟨P,hPe⟩:∃ P,P = mulM n (adjM F) F:=⟨_,rfl⟩
 obtain ⟨G,hGe⟩:∃ G,G = adjM F:=⟨_,rfl⟩
 rw [<- hRe,<- hPe] at HSO ⊢
 rw [<- hPe] at HPR
 rw [<- hRe] at HDT
 rw [<- hGe] at HDT HAD HPR
 clear hA hB hT hF hb e5 h31 hP hR hRe hPe hGe
 have hne0:((n:Int) != (n:Int)) = false:=sP
 have hm0:((m:Int) == 0) = false:=sO
 go_enter Tryz.func23,Tryz.ntmps23
 go_wp2_with fail
 refine HSD.out.mono ?_
 rintro e W1 ⟨rfl,hb1⟩
 have KB1:=hid hb1
 clear hb1 HSD
 go_wp2_with fail
 refine (HAD.out W1 KB1.out).mono ?_
 rintro e W2 ⟨g1,g2,rfl,hM,-,hb⟩
 have KB2:=hid (bT KB1.out hb)
 have HM2:=hid hM
 clear hM hb HAD KB1
 go_wp2_with fail
 refine (HPR.out W2 KB2.out g1 g2 HM2.out).mono ?_
 rintro e W3 ⟨g3,g4,rfl,hM,-,hb⟩
 have KB3:=hid (bT KB2.out hb)
 have HM3:=hid (HM2.out.below hb)
 have HP3:=hid hM
 clear hM hb HPR KB2 HM2
 obtain ⟨W4,hr4,hb4,hs4,hN4⟩:=make_row m oM W3
 obtain ⟨gr,hgr⟩:∃ gr,gr = W3.heap.size:=⟨_,rfl⟩
 rw [<- hgr] at hr4 hN4
 have hgw:W3.heap.size <= gr:=oM
 have hg3:=HP3.out.lt
 have hg1:=HM3.out.lt
 have HM4:=hid (HM3.out.below hb4)
 have HP4:=hid (HP3.out.below hb4)
 have KB4:=hid (bT KB3.out hb4)
 have HN4:=hid (show NBlk W4 gr m (uptoL R 0) from hN4.congr fun j _=>by unfold uptoL; rw [if_neg oM])
 have HNE:=hid (show (∀ a,a < m -> gr ≠ g2 a /\ gr ≠ g4 a) /\ gr ≠ g1 /\ gr ≠ g3 from ⟨fun a ha=>⟨by have:=(HM3.out.row ha).lt; omega,by have:=(HP3.out.row ha).lt; omega⟩,oM,oM⟩)
 have hwg:w.heap.size <= gr:=by have:=KB3.out.size; omega
 clear hb4 hN4 HM3 HP3 KB3 hgr
 go_wp2_with fail
 clear hr4
 go_loopw [47] (fun jv wx=>∃ i:Nat,jv = .int .i64 (i:Int) /\ i <= m /\ MatAt wx g1 g2 m n G /\ MatAt wx g3 g4 m m P /\ NBlk wx gr m (uptoL R i) /\ Below w.heap.size w wx) (fun jv _=>m - (intOf jv).toNat)
 case atStart=>exact ⟨0,rfl,oM,HM4.out,HP4.out,HN4.out,KB4.out⟩
 case round =>
  clear HM4 HP4 HN4 KB4
  obtain ⟨i,rfl,him,hM,hP,hN,hB⟩:=hrel
  have HM:=hid hM
  have HP:=hid hP
  have HN:=hid hN
  have KB:=hid hB
  clear hM hP hN hB
  by_cases hi:i < m
  ·have hcell:=HM.out.cell hi
   go_upto_region 12 with fail
   clear hcell
   have HDT:=hid (fun W (hb:Below w.heap.size w W) g (h:NBlk W g n (G i))=>HDT.out W hb i h)
   refine region_lastA [.val (kIs (.slice (some ⟨gr,0,none⟩) m m)),.val (kIs (.int .i64 (i:Int))),.val (kIs (.slice (some ⟨g2 i,0,none⟩) n n)),.val (kIs (.slice (some ⟨gb,0,none⟩) n n)),.val (kNum (R i)),.val (kIs (.pointer (some ⟨gr,5 * i,none⟩)))]
    ?fl1 ?hfl1 kR kR kR kR kR ⟨Stab.b (stab_is _),Stab.b (stab_is _),Stab.b (stab_is _),Stab.b (stab_is _),Stab.b (stab_num _),Stab.b (stab_is _),trivial⟩ sP (ol:=_) rfl kR ⟨obN (uMf rfl .fr),obN (uMf rfl .fr),obN (uMf rfl .fr),obN (uMf rfl .fr),obN (uC2 rfl (.is 2) (.is 3) fun _ W hb h=>HDT.out W (bT KB.out hb) _ ((HM.out.below hb).row hi)),obN (nIq rfl (.is 0) (.is 1) hi),trivial⟩ ?_
   case hfl1=>intro ts; simp only [fillT,zA,Nat.reduceAdd,sA,sB,sC]; rfl
   intro ts W9 a9 ha9 hb9 hh K hK
   have hz:IsNum W9 (ts 4) (R i):=hh 4 sP
   have hx:ts 5 = _:=hh 5 sP
   have ex:=(ha9 57).trans (by kernel_rfl:_ = ts 5)
   have ez:=(ha9 56).trans (by kernel_rfl:_ = ts 4)
   have HK:=hid hK
   clear hK hh
   refine ⟨wp_store_elem rfl (k:=i) (ex.trans hx) ez (HN.out.below hb9) hi hz fun W5 hbut hext hrow=>⟨rfl,HK.out _ ?_⟩⟩
   rw [uptoL_next] at hrow
   have HN5:=hid hrow
   have HM5:=hid ((HM.out.below hb9).butBox hbut hext (Ne.symm HNE.out.2.1) fun a ha=>Ne.symm (HNE.out.1 a ha).1)
   have HP5:=hid ((HP.out.below hb9).butBox hbut hext (Ne.symm HNE.out.2.2) fun a ha=>Ne.symm (HNE.out.1 a ha).2)
   have KB5:=hid (hbut.below (bT KB.out hb9) hwg)
   clear HK hz hx ex ez hbut hext hrow HM HP HN KB hb9 ha9 HDT
   go_wp2
   go_roundw
   case rel=>exact ⟨i + 1,by go_num,oM,HM5.out,HP5.out,HN5.out,KB5.out⟩
   case measure=>exact mS
  ·obtain rfl:m = i:=oM
   have HR5:=hid (show NBlk wr gr m R from HN.out.congr fun j hj=>by unfold uptoL; rw [if_pos hj])
   clear HN HM
   go_wp2_with fail
   refine (HSO.out wr KB.out g3 gr g4 HP.out HR5.out).mono ?_
   rintro e W6 ⟨hb,⟨hok,g,rfl,hN,hg⟩ | ⟨hno,rfl⟩⟩
   ·have KB6:=hid (bT KB.out hb)
    have HN6:=hid hN
    have HOK:=hid hok
    have hgl:w.heap.size <= g:=Nat.le_trans KB.out.size hg
    clear hb hN hok hg
    go_wp2
    go_ret2
    exact ⟨KB6.out,.inl ⟨HOK.out,g,rfl,HN6.out,hgl⟩⟩
   ·have KB6:=hid (bT KB.out hb)
    have HOK:=hid hno
    clear hb hno
    go_wp2
    go_ret2
    exact ⟨KB6.out,.inr ⟨HOK.out,rfl⟩⟩
theorem leastN_bad (w:World) (v u:Value) (n p:Nat) (ml:Nat -> Nat) (F:Nat -> Nat -> Cx) (f:Nat -> Cx) (h:NSS w v n ml F) (h':NSl w u p f) (hn:n <= 1099511627776) (hml:∀ i,i < n -> ml i <= 1099511627776) (hbad:¬ (Vld n ml /\ p = n)) :
  Calls Tryz.prog 23 #[v,u] w (RetNo w 4):=by
 have HV:=hid (sidesN_all w v n ml F h hn hml)
 have HX:=hid hbad
 obtain ⟨A,c,rfl,-⟩:=h
 obtain ⟨A',c',rfl,-⟩:=h'
 clear hml hbad
 go_enter Tryz.func23,Tryz.ntmps23
 go_wp2_with fail
 refine HV.out.mono ?_
 rintro e W2 ⟨r,cc,b,rfl,hb1,hb2,hb⟩
 have X1:=hid hb1
 have X2:=hid hb2
 have B2:=hid hb
 clear hb hb1 hb2 HV
 cases b
 ·go_wp2
  go_ret2
  exact ⟨rfl,B2.out⟩
 ·have hne:((p:Int) != (r:Int)) = true:=by
   have h1:=(X2.out (by trivial)).1
   have:p ≠ n:=fun e=>HX.out ⟨X1.out.1 (by trivial),e⟩
   simp; omega
  go_wp2
  go_ret2
  exact ⟨rfl,B2.out⟩
theorem leastN_none (w:World) (v u:Value) (n:Nat) (ml:Nat -> Nat) (F:Nat -> Nat -> Cx) (f:Nat -> Cx) (h:NSS w v n ml F) (h':NSl w u n f) (hn:n <= 1099511627776) (hml:∀ i,i < n -> ml i <= 1099511627776) (hv:Vld n ml) (h0:colsOf n ml = 0) :
  Calls Tryz.prog 23 #[v,u] w (RetNo w 0):=by
 have HV:=hid (sidesN_all w v n ml F h hn hml)
 have HX:=hid hv
 obtain ⟨A,c,rfl,-⟩:=h
 obtain ⟨A',c',rfl,-⟩:=h'
 rw [show RetSides w n ml = fun e w'=>RetSides w n ml e w' from rfl] at HV
 clear hml hv
 go_enter Tryz.func23,Tryz.ntmps23
 go_wp2_with fail
 refine HV.out.mono ?_
 rintro e W2 ⟨r,cc,b,rfl,hb1,hb2,hb⟩
 obtain rfl:b = true:=hb1.2 HX.out
 obtain ⟨rfl,e2⟩:=hb2 rfl
 obtain rfl:cc = 0:=oM
 have B2:=hid hb
 have hne:((r:Int) != (r:Int)) = false:=sP
 clear hb hb1 hb2 HV e2 h0
 go_wp2
 go_ret2
 exact ⟨rfl,B2.out⟩
theorem rLeast_ok (w:World) (ga gb:Nat) (gi:Nat -> Nat) (n m:Nat) (F:Nat -> Nat -> Cx) (b:Nat -> Cx) (hA:MatQ w ga gi n m F) (hB:QBlk w gb n (fun _=>True) b) (hn:0 < n) (hm:0 < m) (hn1:n <= 5) (hm1:m <= 5) (hF:∀ i k,Sz (F i k) 2) (hb:∀ i,Sz (b i) 2) :
  Calls Tryz.prog 24 #[.slice (some ⟨ga,0,none⟩) n n,.slice (some ⟨gb,0,none⟩) n n] w (RetSol w m (gjS m m 0 (augQ m (mulM n (adjM F) F) (mulV n (adjM F) b)))):=by
 have h31:∀ f:Nat -> Cx,(∀ i,Sz (f i) 5) -> Sz (sm f 0 n) 31:=fun f hf=>(sm_sz (p:=5) n 0 fun j _ _=>hf j).mono oM
 have HVA:=hid (rValid_any w _ n _ F (hA.qss n) oM fun _ _=>oM)
 have HV:=hid (show Vld n (fun _=>m) from ⟨oM,fun _ _=>⟨rfl,show m <= 32 by omega⟩⟩)
 have HAD:=hid (fun W (hb':Below w.heap.size w W)=>rAdjoint_ok W ga gi n m n F (hA.below hb') hn oM oM)
 have HPR:=hid (fun W (hb':Below w.heap.size w W) g gj (h:MatQ W g gj m n (adjM F))=>rProduct_ok W g ga gj gi m n m m n 2 2 (adjM F) F h (hA.below hb') hm hn oM oM oM (fun a c _ _=>(hF c a).conj) (fun a c _ _=>hF a c) oM)
 have HAP:=hid (fun W (hb':Below w.heap.size w W) g gj (h:MatQ W g gj m n (adjM F))=>rApply_any W g gb gj m n m n 2 (adjM F) b h (hB.below hb') oM oM (fun a c _ _=>(hF c a).conj) (fun a _=>hb a) oM)
 have HSO:=hid (fun W g g' gj (h:MatQ W g gj m m (mulM n (adjM F) F)) (h':QBlk W g' m (fun _=>True) (mulV n (adjM F) b))=>rSolve_any W g g' gj m m m 31 _ _ h h' oM (fun x y _ _=>by
  unfold augQ
  split
  ·exact h31 _ fun j=>(hF j x).conj.mul (hF j y)
  ·exact h31 _ fun j=>(hF j x).conj.mul (hb j)) (h5u m hm1))
 obtain ⟨E,hE⟩:∃ E,E = gjS m m 0 (augQ m (mulM n (adjM F) F) (mulV n (adjM F) b)):=⟨_,rfl⟩
 rw [<- hE] at HSO ⊢
 clear hA hB hF hb h31 hE
 have hne0:((n:Int) != (n:Int)) = false:=sP
 have hn0:((n:Int) == 0) = false:=sO
 go_enter Tryz.func24,Tryz.ntmps24
 go_wp2_with fail
 refine HVA.out.mono ?_
 rintro e W1 ⟨bb,rfl,hb,hB⟩
 obtain rfl:bb = true:=hb.2 HV.out
 have KB1:=hid hB
 clear hb hB HVA
 go_wp2_with fail
 refine (HAD.out W1 KB1.out).mono ?_
 rintro e W2 ⟨g1,g2,rfl,hM,hb⟩
 have KB2:=hid (bT KB1.out hb)
 have HM2:=hid hM
 clear hM hb HAD KB1
 go_wp2_with fail
 refine (HPR.out W2 KB2.out g1 g2 HM2.out).mono ?_
 rintro e W3 ⟨g3,g4,rfl,hM,hb⟩
 have KB3:=hid (bT KB2.out hb)
 have HM3:=hid (HM2.out.below hb)
 have HP3:=hid hM
 clear hM hb HPR KB2 HM2
 go_wp2_with fail
 refine (HAP.out W3 KB3.out g1 g2 HM3.out).mono ?_
 rintro e W4 ⟨g5,rfl,hM,hb,-⟩
 have KB4:=hid (bT KB3.out hb)
 have HP4:=hid (HP3.out.below hb)
 have HR4:=hid hM
 clear hM hb HAP KB3 HM3 HP3
 go_wp2_with fail
 refine (HSO.out W4 g3 g5 g4 HP4.out HR4.out).mono ?_
 rintro e W6 ⟨hb,⟨hok,g,hg,rfl,hN⟩ | ⟨hno,rfl⟩⟩
 ·have KB6:=hid (bT KB4.out hb)
  have HN6:=hid hN
  have HOK:=hid hok
  have hgl:w.heap.size <= g:=Nat.le_trans KB4.out.size hg
  clear hb hN hok hg
  go_wp2
  go_ret2
  exact ⟨KB6.out,.inl ⟨HOK.out,g,hgl,rfl,HN6.out⟩⟩
 ·have KB6:=hid (bT KB4.out hb)
  have HOK:=hid hno
  clear hb hno
  go_wp2
  go_ret2
  exact ⟨KB6.out,.inr ⟨HOK.out,rfl⟩⟩
theorem rLeast_bad (w:World) (v u:Value) (n p:Nat) (ml:Nat -> Nat) (F:Nat -> Nat -> Cx) (f:Nat -> Cx) (h:QSS w v n ml F) (h':QSl w u p f) (hn:n <= 1099511627776) (hml:∀ i,i < n -> ml i <= 1099511627776) (hbad:¬ (Vld n ml /\ p = n)) :
  Calls Tryz.prog 24 #[v,u] w (RetNo w 4):=by
 have HQ:=hid (rValid_any w v n ml F h hn hml)
 have HX:=hid hbad
 obtain ⟨A,c,rfl,-⟩:=h
 obtain ⟨A',c',rfl,-⟩:=h'
 clear hml hbad
 go_enter Tryz.func24,Tryz.ntmps24
 go_wp2_with fail
 refine HQ.out.mono ?_
 rintro e W2 ⟨b,rfl,hb1,hb⟩
 have X1:=hid hb1
 have B2:=hid hb
 clear hb hb1 HQ
 cases b
 ·go_wp2
  go_ret2
  exact ⟨rfl,B2.out⟩
 ·have hne:((p:Int) != (n:Int)) = true:=by
   have:p ≠ n:=fun e=>HX.out ⟨X1.out.1 (by trivial),e⟩
   simp; omega
  go_wp2
  go_ret2
  exact ⟨rfl,B2.out⟩
theorem rCopy_none (w:World) (A:Option Addr) (c:Nat) :
  Calls Tryz.prog 55 #[.slice A 0 c] w fun e w'=>∃ go,e = .returned (.slice (some ⟨go,0,none⟩) 0 0) /\ Below w.heap.size w w':=by
 obtain ⟨W1,hr1,hb1,hs1,-⟩:=make_matq 0 0 oM w (fun _ _=>.zero) (fun _=>0)
 simp only [Int.cast_ofNat_Int] at hr1
 have HB1:=hid hb1
 clear hb1
 go_enter Tryz.func55,Tryz.ntmps55
 go_wp2
 clear hr1
 go_loopw [4] (fun iv wr=>iv = .int .i64 0 /\ wr = W1) (fun _ _=>0)
 case atStart=>exact ⟨by trivial,by trivial⟩
 case round =>
  obtain ⟨rfl,rfl⟩:=hrel
  go_wp2
  go_ret
  exact ⟨_,rfl,HB1.out⟩
theorem rSolve_none (w:World) (A A':Option Addr) (c c':Nat) :
  Calls Tryz.prog 15 #[.slice A 0 c,.slice A' 0 c'] w fun e w'=>∃ g,e = .returned (.tuple #[.slice (some ⟨g,0,none⟩) 0 0,.int .i64 0]) /\ Below w.heap.size w w':=by
 have HSQ:=hid (rSquare_any w (.slice A 0 c) 0 (fun _=>0) (fun _ _=>.zero) (QSS.nil _ _ _ _ _) oM fun _ h=>absurd h oM)
 have HV:=hid (show Vld 0 (fun _=>0) from ⟨oM,fun i hi=>absurd hi oM⟩)
 go_enter Tryz.func15,Tryz.ntmps15
 go_wp2_with fail
 refine HSQ.out.mono ?_
 rintro e W1 ⟨b,rfl,hb,hB⟩
 obtain rfl:b = true:=hb.2 ⟨HV.out,sP⟩
 have KB1:=hid hB
 clear hb hB HSQ
 go_wp2_with fail
 refine (rCopy_none W1 A c).mono ?_
 rintro e W2 ⟨go,rfl,hB⟩
 have KB2:=hid (bT KB1.out hB)
 clear hB KB1
 go_wp2_with fail
 go_loopw [8] (fun iv wr=>iv = .int .i64 0 /\ wr = W2) (fun _ _=>0)
 case atStart=>exact ⟨by trivial,by trivial⟩
 case round =>
  obtain ⟨rfl,rfl⟩:=hrel
  go_wp2_with fail
  go_loopw [9] (fun iv wx=>iv = .int .i64 0 /\ wx = wr) (fun _ _=>0)
  case atStart=>exact ⟨by trivial,by trivial⟩
  case round =>
   obtain ⟨rfl,rfl⟩:=hrel
   obtain ⟨W3,hr3,hb3,hs3,-⟩:=make_q' 0 oM wr
   simp only [Int.cast_ofNat_Int] at hr3
   have KB3:=hid (bT KB2.out hb3)
   clear hb3
   go_wp2_with fail
   clear hr3
   go_loopw [16] (fun iv wy=>iv = .int .i64 0 /\ wy = W3) (fun _ _=>0)
   case atStart=>exact ⟨by trivial,by trivial⟩
   case round =>
    obtain ⟨rfl,rfl⟩:=hrel
    go_wp2
    go_ret2
    exact ⟨_,rfl,KB3.out⟩
theorem rLeast_zero (w:World) (A A':Option Addr) (c c':Nat) :
  Calls Tryz.prog 24 #[.slice A 0 c,.slice A' 0 c'] w (RetNo w 0):=by
 have HVA:=hid (rValid_any w (.slice A 0 c) 0 (fun _=>0) (fun _ _=>.zero) (QSS.nil _ _ _ _ _) oM fun _ h=>absurd h oM)
 have HV:=hid (show Vld 0 (fun _=>0) from ⟨oM,fun i hi=>absurd hi oM⟩)
 go_enter Tryz.func24,Tryz.ntmps24
 go_wp2_with fail
 refine HVA.out.mono ?_
 rintro e W1 ⟨b,rfl,hb,hB⟩
 obtain rfl:b = true:=hb.2 HV.out
 have KB1:=hid hB
 clear hb hB HVA
 go_wp2_with fail
 refine (rAdjoint_nil W1 A c).mono ?_
 rintro e W2 ⟨go,rfl,hB⟩
 have KB2:=hid (bT KB1.out hB)
 clear hB KB1
 go_wp2_with fail
 refine (rProduct_p0 W2 _ _ 0 (fun _=>0) (fun _=>0) (fun _ _=>.zero) (fun _ _=>.zero) (QSS.nil _ _ _ _ _) (QSS.nil _ _ _ _ _) oM (fun i hi=>absurd hi oM)).mono ?_
 rintro e W3 ⟨g1,g2,rfl,-,hB⟩
 have KB3:=hid (bT KB2.out hB)
 clear hB KB2
 go_wp2
 go_ret2
 exact ⟨rfl,KB3.out⟩
theorem rLeast_none (w:World) (ga gb:Nat) (gi:Nat -> Nat) (n:Nat) (F:Nat -> Nat -> Cx) (b:Nat -> Cx) (hA:MatQ w ga gi n 0 F) (hB:QBlk w gb n (fun _=>True) b) (hn:0 < n) (hn1:n <= 32) (hb:∀ i,Sz (b i) 2) :
  Calls Tryz.prog 24 #[.slice (some ⟨ga,0,none⟩) n n,.slice (some ⟨gb,0,none⟩) n n] w fun e w'=>∃ g,e = .returned (.tuple #[.slice (some ⟨g,0,none⟩) 0 0,.int .i64 0]) /\ Below w.heap.size w w':=by
 have HVA:=hid (rValid_any w _ n _ F (hA.qss n) oM fun _ _=>oM)
 have HV:=hid (show Vld n (fun _=>0) from ⟨oM,fun _ _=>⟨rfl,show 0 <= 32 by omega⟩⟩)
 have HAD:=hid (fun W (hb':Below w.heap.size w W)=>rAdjoint_ok W ga gi n 0 n F (hA.below hb') hn oM oM)
 have HPR:=hid (fun W (hb':Below w.heap.size w W) g gj (h:MatQ W g gj 0 n (adjM F))=>rProduct_bad W (.slice (some ⟨g,0,none⟩) 0 0) (.slice (some ⟨ga,0,none⟩) n n) 0 n (fun _=>n) (fun _=>0) (adjM F) F (h.qss 0) ((hA.below hb').qss n) oM oM (fun _ _=>oM) (fun _ _=>oM) fun h=>by
  have h3:(0:Nat) = n:=h.2.2
  omega)
 have HAP:=hid (fun W (hb':Below w.heap.size w W) g gj (h:MatQ W g gj 0 n (adjM F))=>rApply_any W g gb gj 0 n 0 n 2 (adjM F) b h (hB.below hb') oM oM (fun a c ha _=>absurd ha oM) (fun a _=>hb a) oM)
 have hne0:((n:Int) != (n:Int)) = false:=sP
 have hn0:((n:Int) == 0) = false:=sO
 clear hA hB hb
 go_enter Tryz.func24,Tryz.ntmps24
 go_wp2_with fail
 refine HVA.out.mono ?_
 rintro e W1 ⟨bb,rfl,hb,hB⟩
 obtain rfl:bb = true:=hb.2 HV.out
 have KB1:=hid hB
 clear hb hB HVA
 go_wp2_with fail
 refine (HAD.out W1 KB1.out).mono ?_
 rintro e W2 ⟨g1,g2,rfl,hM,hb⟩
 have KB2:=hid (bT KB1.out hb)
 have HM2:=hid hM
 clear hM hb HAD KB1
 go_wp2_with fail
 refine (HPR.out W2 KB2.out g1 g2 HM2.out).mono ?_
 rintro e W3 ⟨rfl,hb⟩
 have KB3:=hid (bT KB2.out hb)
 have HM3:=hid (HM2.out.below hb)
 clear hb HPR KB2 HM2
 go_wp2_with fail
 refine (HAP.out W3 KB3.out g1 g2 HM3.out).mono ?_
 rintro e W4 ⟨g5,rfl,hM,hb,-⟩
 have KB4:=hid (bT KB3.out hb)
 clear hM hb HAP KB3 HM3
 go_wp2_with fail
 refine (rSolve_none W4 none _ 0 _).mono ?_
 rintro e W6 ⟨g,rfl,hb⟩
 have KB6:=hid (bT KB4.out hb)
 clear hb
 go_wp2
 go_ret2
 exact ⟨_,rfl,KB6.out⟩
end Go.Proofs.YtffegeaflohfhaaGreatDoor
