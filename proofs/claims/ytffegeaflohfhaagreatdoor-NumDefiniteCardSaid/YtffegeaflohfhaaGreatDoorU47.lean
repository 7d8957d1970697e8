import Derived.Test.YtffegeaflohfhaaGreatDoorU39
import Derived.Test.YtffegeaflohfhaaGreatDoorU46
import Derived.Test.YtffegeaflohfhaaGreatDoorU15
import Derived.Test.YtffegeaflohfhaaGreatDoorU27
import Derived.Test.YtffegeaflohfhaaGreatDoorU35
import Derived.Test.YtffegeaflohfhaaGreatDoorU36
import Derived.Test.YtffegeaflohfhaaGreatDoorS02
set_option linter.unusedVariables false
set_option linter.unusedSimpArgs false
set_option maxRecDepth 100000
set_option maxHeartbeats 8000000
namespace Go.Proofs.YtffegeaflohfhaaGreatDoor
open Go.RowKit
section
variable {ops:Array Oper} {kl:List RK} {B:Nat} {w0:World} {a0:Act} {o:Oper} {i:Nat}
theorem nZe (ho:o.op = .build nQ #[]):ObU Tryz.prog ops kl B w0 a0 o i (kNum .zero) :=
 fun ts W a ha hb hB hp K hK=>⟨by
  unfold Oper.wp execOp
  simp only [ho]
  go_simp
  exact hK _ _ (IsNum.zero _) rfB⟩
end
theorem h5v:∀ c,c <= 4 -> szE 2 c <= 2000:=dK
def RetDef (w:World) (n:Nat) (F:Nat -> Nat -> Cx) (e:Ending) (w':World):Prop :=
 Below w.heap.size w w' /\ ((Psd n 0 F /\ e = .returned (.tuple #[.bool true,.slice none 0 0,.int .i64 0])) ∨
  (¬ Psd n 0 F /\ ∃ g v,e = .returned (.tuple #[.bool false,.slice (some ⟨g,0,none⟩) n n,.int .i64 0]) /\ NBlk w' g n v /\ (∀ j,j < n -> Sz (v j) 10000000) /\ (bf n 0 F v v).im = 0 /\ (bf n 0 F v v).re < 0))
theorem tiltV_sz {n c k:Nat} {H:Nat -> Nat -> Cx} (hS:∀ a b,a < n -> b < n -> Sz (H a b) 2000) (hc:c < n) (hk:k < n):∀ j,j < n -> Sz (tiltV c k (tilt (H c k) (H k k)) j) 30000:=fun j _=>by
 have s1:Sz (Cx.int 1) 1:=Sz.int (by rw [show (1:Int).natAbs = 1 from rfl,wl_one]; omega) oM
 unfold tiltV
 split
 ·exact s1.mono oM
 ·split
  ·exact (((s1.add ((hS k k hk hk).mul (hS k k hk hk))).div (hS c k hc hk).norm).mul (hS c k hc hk)).neg.mono oM
  ·exact Sz.zero oM
theorem unitV_sz (c:Nat):∀ j,Sz (unitV c j) 30000:=fun j=>by
 unfold unitV
 split
 ·exact Sz.int (by rw [show (1:Int).natAbs = 1 from rfl,wl_one]; omega) oM
 ·exact Sz.zero oM
theorem first_in (f:Nat -> Cx) (n:Nat):∀ d c,c + d = n -> (∀ k,c <= k -> k < n -> f k = .zero) ∨ ∃ k,c <= k /\ k < n /\ f k ≠ .zero /\ ∀ j,c <= j -> j < k -> f j = .zero:=by
 intro d
 induction d with
 | zero=>intro c h; exact .inl fun k a b=>oM
 | succ d ih =>
  intro c h
  by_cases h0:f c = .zero
  ·rcases ih (c + 1) oM with h1 | ⟨k,a,b,e,z⟩
   ·exact .inl fun k a b=>by
     by_cases e:k = c
     ·rw [e]; exact h0
     ·exact h1 k oM b
   ·exact .inr ⟨k,oM,b,e,fun j a b=>by
     by_cases e:j = c
     ·rw [e]; exact h0
     ·exact z j oM b⟩
  ·exact .inr ⟨c,Nat.le_refl _,oM,h0,fun j a b=>oM⟩
theorem definiteN_any (w:World) (ga:Nat) (gi:Nat -> Nat) (n:Nat) (F:Nat -> Nat -> Cx) (hA:MatAt w ga gi n n F) (hn:n <= 5) (hT:Tab w) (hS:∀ a b,Sz (F a b) 2) (hH:Hm n 0 F) :
  Calls Tryz.prog 31 #[.slice (some ⟨ga,0,none⟩) n n] w (RetDef w n F):=by
 have hsq:=squareN_sq w ga gi n F hA oM
 have HHE:=hid (fun W (hb:Below w.heap.size w W)=>hermitianN_all W ga gi n 2 F (hA.below hb) oM (fun a b _ _=>hS a b) oM)
 have HA0:=hid hA
 have HT:=hid hT
 have HS0:=hid hS
 have HH:=hid hH
 have HQ:=hid hsq
 have HI1:=hid (fun W=>int_any 1 W oM oM)
 clear hA hT hS hH hsq
 go_enter Tryz.func31,Tryz.ntmps31
 go_wp2_with fail
 refine HQ.out.mono ?_
 rintro e W1 ⟨rfl,hb1⟩
 have KB1:=hid hb1
 clear hb1 HQ
 go_wp2_with fail
 refine (HHE.out W1 KB1.out).mono ?_
 rintro e W2 ⟨bb,rfl,hbb,hb2⟩
 obtain rfl:bb = true:=hbb.2 HH.out
 have KB2:=hid (bT KB1.out hb2)
 clear hb2 KB1 HHE hbb
 go_wp2_with fail
 refine (widenedN_any W2 ga gi n n 0 F (HA0.out.below KB2.out) oM oM).mono ?_
 rintro e W3 ⟨go,g2,rfl,hM,hP,hb3⟩
 have KB3:=hid (bT KB2.out hb3)
 have HM3:=hid (show MatAt W3 go g2 n n (sch n F 0) from hM.congr fun a b _ hb=>if_pos ⟨Nat.zero_le _,oM⟩)
 have HP:=hid (show MatSep w.heap.size go g2 n from ⟨Nat.le_trans KB2.out.size hP.lo,fun i hi=>Nat.le_trans KB2.out.size (hP.los i hi),hP.ne,hP.inj⟩)
 have hTB:1 < w.heap.size:=HT.out.1
 clear hM hP hb3 KB2 HA0
 go_wp2
 go_loopw [18] (fun j wr=>∃ c:Nat,j = .int .i64 c /\ c <= n /\ MatAt wr go g2 n n (sch n F c) /\ Came n c F /\ (∀ a b,a < n -> b < n -> Sz (sch n F c a b) (szE 2 c)) /\ Below w.heap.size w wr) (fun j _=>n - (intOf j).toNat)
 case atStart=>exact ⟨0,rfl,oM,HM3.out,fun i hi=>absurd hi oM,fun a b _ _=>HS0.out a b,KB3.out⟩
 case round =>
  clear HM3 KB3 HS0
  obtain ⟨c,rfl,hcn,hM,hC,hS1,hB⟩:=hrel
  have HM0:=hid hM
  have HC:=hid hC
  have HS:=hid hS1
  have KB0:=hid hB
  clear hM hC hS1 hB
  by_cases hc:c < n
  ·have hsz:szE 2 c <= 2000:=h5v c oM
   have hszc:szE 2 c <= szE 2 (c + 1):=szE_mono 2 oM
   have HS2:=hid (fun a b (ha:a < n) (hb:b < n)=>(HS.out a b ha hb).mono hsz)
   have HCM:=hid (fun v=>cmp_all HH.out hcn HC.out v)
   have HHM:=hid (sch_hm HH.out c hcn)
   have HNX:=hid (show sch n F (c + 1) = nxt n c (sch n F c) from rfl)
   have HCS:=hid (fun hg:Go1 n c (sch n F c)=>show Came n (c + 1) F from fun i hi=>by
    by_cases e:i = c
    ·rw [e]; exact hg
    ·exact HC.out i oM)
   obtain ⟨H,hHe⟩:∃ H,H = sch n F c:=⟨_,rfl⟩
   rw [<- hHe] at HM0 HS HS2 HCM HHM HNX HCS
   obtain ⟨W4,hr4,hb4,hs4,hN4⟩:=make_row n oM wr
   obtain ⟨gw,hgw⟩:∃ gw,gw = wr.heap.size:=⟨_,rfl⟩
   rw [<- hgw] at hr4 hN4
   have hgw1:w.heap.size <= gw:=by have:=KB0.out.size; omega
   have HNE:=hid (show go ≠ gw /\ ∀ i,i < n -> g2 i ≠ gw from ⟨by have:=HM0.out.lt; omega,fun i hi=>by have:=(HM0.out.row hi).lt; omega⟩)
   have HM:=hid (HM0.out.below hb4)
   have HW:=hid hN4
   have KB:=hid (bT KB0.out hb4)
   clear hb4 hs4 hN4 HM0 KB0 hHe hgw HC
   obtain ⟨K1,hK1⟩:∃ K1,cmpC (H c c) .zero = K1:=⟨_,rfl⟩
   have HCP:=hid (fun W v u (k1:IsNum W v (H c c)) (k2:IsNum W u .zero)=>cmpN_k v u (H c c) .zero W k1 k2 2000 1 (HS2.out c c hc hc) (Sz.zero oM) oM hK1)
   have him:=HHM.out.real (Nat.le_refl c) hc
   go_upto_region 10 with fail
   clear hr4
   refine region_litA [.val (kIs (.slice (some ⟨go,0,none⟩) n n)),.val (kIs (.int .i64 (c:Int))),.val (kIs (.pointer (some ⟨go,c,none⟩))),.val (kIs (.slice (some ⟨g2 c,0,none⟩) n n)),.val (kIs (.int .i64 (c:Int))),.val (kIs (.pointer (some ⟨(g2 c),5 * c,none⟩))),.val (kNum (H c c)),.val (kNum (Cx.zero)),.val (kIs (.int .i64 K1))]
    ?fl1 ?hfl1 kR kR kR kR kR ⟨Stab.b (stab_is _),Stab.b (stab_is _),Stab.b (stab_is _),Stab.b (stab_is _),Stab.b (stab_is _),Stab.b (stab_is _),Stab.b (stab_num _),Stab.b (stab_num _),Stab.b (stab_is _),trivial⟩ sP ⟨obN (uMf rfl .fr),obN (uMf rfl .fr),obN (nIr rfl (.is 0) (.is 1) hc),obN (nLr rfl (.is 2) fun W hb=>(HM.out.below hb).cell hc),obN (uMf rfl .fr),obN (nIq rfl (.is 3) (.is 4) hc),obN (nNe rfl (.is 5) (fun W hb=>(HM.out.below hb).row hc) hc),obN (nZe rfl),obN (uC2 rfl (.at 6) (.at 7) fun _ W hb h=>cIs (HCP.out W _ _ (pg 6 h) (pg 7 h))),trivial⟩ ?_
   case hfl1=>intro ts; simp only [fillT,zA,Nat.reduceAdd,sA,sB,sC]; rfl
   intro ts W5 hb5 hh hap
   have e1:=held_is (hh 8 sP) rfl
   simp only [e1]
   clear hh hap e1
   have HM5:=hid (HM.out.below hb5)
   have HW5:=hid (HW.out.below hb5)
   have KB5:=hid (bT KB.out hb5)
   clear hb5 HM HW KB HCP
   have HCO:=hid (fun W (v:Nat -> Cx) (hb:Below w.heap.size w W) (h1:MatAt W go g2 n n H) (h2:NBlk W gw n v) (hv:∀ j,j < n -> Sz (v j) 30000)=>completed_any w.heap.size W go gw g2 n c H v h1 h2 hgw1 HNE.out hn hc hb.size hTB (HT.out.below hb) HS2.out hv)
   have HZS:=hid (fun (v:Nat -> Cx) (hv:∀ j,j < n -> Sz (v j) 30000)=>show ∀ j,j < n -> Sz (cmpV n c H v c j) 10000000 from fun j hj=>(cmpV_sz hn hc HS2.out hv c lR j hj).mono (Nat.le_trans (zX_mono (show c <= 4 by omega)) (show zX 4 <= 10000000 by decide)))
   have HNO:=hid (fun (v:Nat -> Cx) (h:(bf n c H v v).re < 0)=>show ¬ Psd n 0 F from fun hp=>by
    have:=hp.pos (cmpV n c H v c)
    rw [HCM.out] at this
    exact absurd this (Rat.not_le.2 h))
   rcases cmpC_cases (H c c) .zero with ⟨h1,h2⟩ | ⟨h1,h2,h3⟩ | ⟨h1,h2⟩
   ·obtain rfl:K1 = -1:=by rw [<- hK1]; exact h1
    have hneg:(H c c).re < 0:=by
     simp only [Cx.zero] at h2
     rcases h2 with h2 | ⟨h2,h3⟩ <;> grind
    have HBU:=hid (bf_unit hc H)
    have HN:=hid (HNO.out (unitV c) (by rw [HBU.out]; exact hneg))
    have HIM:=hid him
    have HRE:=hid hneg
    clear h1 h2 hK1 him hneg HNO
    go_upto_region 12 with fail
    refine region_lastA [.val (kIs (.slice (some ⟨gw,0,none⟩) n n)),.val (kIs (.int .i64 (c:Int))),.val (kNum (.int 1)),.val (kIs (.pointer (some ⟨gw,5 * c,none⟩)))]
     ?fl2 ?hfl2 kR kR kR kR kR ⟨Stab.b (stab_is _),Stab.b (stab_is _),Stab.b (stab_num _),Stab.b (stab_is _),trivial⟩ sP (ol:=_) rfl kR ⟨obN (uMf rfl .fr),obN (uMf rfl .fr),obN (uC1 rfl .k fun _ W hb h=>HI1.out W),obN (nIq rfl (.is 0) (.is 1) hc),trivial⟩ ?_
    case hfl2=>intro ts; simp only [fillT,zA,Nat.reduceAdd,sA,sB,sC]; rfl
    intro ts W9 a9 ha9 hb9 hh K hK
    have hz:IsNum W9 (ts 2) (.int 1):=hh 2 sP
    have hx:ts 3 = _:=hh 3 sP
    have ex:=(ha9 38).trans (by kernel_rfl:_ = ts 3)
    have ez:=(ha9 37).trans (by kernel_rfl:_ = ts 2)
    have HK:=hid hK
    clear hK hh
    refine ⟨wp_store_elem rfl (k:=c) (ex.trans hx) ez (HW5.out.below hb9) hc hz fun W6 hbut hext hrow=>⟨rfl,HK.out _ ?_⟩⟩
    have HW6:=hid (show NBlk W6 gw n (unitV c) from hrow.congr fun j _=>by
     unfold unitV
     by_cases e:j = c
     ·rw [e,upf_same,if_pos rfl]
     ·rw [upf_other _ _ e,if_neg e])
    have HM6:=hid ((HM5.out.below hb9).butBox hbut hext HNE.out.1 HNE.out.2)
    have KB6:=hid (hbut.below (bT KB5.out hb9) hgw1)
    clear HK hz hx ex ez hbut hext hrow HM5 HW5 KB5 hb9 ha9
    go_wp2_with fail
    refine (HCO.out W6 _ KB6.out HM6.out HW6.out fun j _=>unitV_sz c j).mono ?_
    rintro e W7 ⟨rfl,hN,hb⟩
    have HN7:=hid hN
    have KB7:=hid (KB6.out.trans hb)
    clear hN hb HCO HM6 HW6
    go_wp2
    go_ret3
    exact ⟨KB7.out,.inr ⟨HN.out,gw,_,rfl,HN7.out,HZS.out _ fun j _=>unitV_sz c j,by rw [HCM.out,HBU.out]; exact HIM.out,by rw [HCM.out,HBU.out]; exact HRE.out⟩⟩
   ·obtain rfl:K1 = 0:=by rw [<- hK1]; exact h1
    have hz0:H c c = .zero:=Cx.ext h2 h3
    have hcell:=HM5.out.cell hc
    rcases first_in (H c) n (n - c) c oM with hall | ⟨k,hck,hkn,hknz,hkz⟩
    ·have HCL:=hid (firstClearN_none W5 (g2 c) n c (H c) (HM5.out.row hc) oM oM hall)
     have HC2:=hid (HCS.out (.inl hall))
     have HN2:=hid (show sch n F (c + 1) = H by rw [HNX.out,nxt,if_pos hz0])
     clear hz0 h1 h2 h3 hK1 him hall HCO HZS HNO HCM HW5
     go_wp2_with fail
     clear hcell
     refine HCL.out.mono ?_
     rintro e W6 ⟨rfl,hb⟩
     have HM6:=hid (HM5.out.below hb)
     have KB6:=hid (bT KB5.out hb)
     clear hb HM5 KB5 HCL
     go_wp2
     go_roundw
     case rel=>exact ⟨c + 1,by go_num,oM,by rw [HN2.out]; exact HM6.out,HC2.out,by rw [HN2.out]; exact fun a b ha hb=>(HS.out a b ha hb).mono hszc,KB6.out⟩
     case measure=>exact mS
    ·have hck':c < k:=by
      rcases Nat.eq_or_lt_of_le hck with e | e
      ·rw [<- e] at hknz; exact absurd hz0 hknz
      ·exact e
     have HCL:=hid (firstClearN_at W5 (g2 c) n c k (H c) (HM5.out.row hc) oM hck hkn hkz hknz)
     have HBT:=hid (bf_tilt HHM.out hc hz0 hck' hkn hknz)
     have HKZ:=hid hknz
     have HN:=hid (HNO.out _ HBT.out.2)
     clear hz0 h1 h2 h3 hK1 him hkz hknz HNO
     have hk0:(0:Int) <= (k:Int):=oM
     go_wp2_with fail
     clear hcell
     refine HCL.out.mono ?_
     rintro e W6 ⟨rfl,hb⟩
     have HM6:=hid (HM5.out.below hb)
     have HW6:=hid (HW5.out.below hb)
     have KB6:=hid (bT KB5.out hb)
     clear hb HM5 KB5 HCL HW5
     have HM:=HM6
     obtain ⟨X,hXe⟩:∃ X,X = tilt (H c k) (H k k):=⟨_,rfl⟩
     have HTI:=hid (fun W (hb:Below w.heap.size w W) v u (k1:IsNum W v (H c k)) (k2:IsNum W u (H k k))=>(show Calls Tryz.prog 90 #[v,u] W (RetNum W X) from by
      rw [hXe]
      exact tilted_any W v u (H c k) (H k k) 2000 k1 k2 (HS2.out c k hc hkn) (HS2.out k k hkn hkn) HKZ.out oM (HT.out.below hb)))
     have HTZ:=hid (tiltV_sz HS2.out hc hkn)
     rw [<- hXe] at HTZ HBT
     clear hXe HM6
     go_upto_region 17 with fail
     refine region_st2 [.val (kIs (.slice (some ⟨gw,0,none⟩) n n)),.val (kIs (.int .i64 (c:Int))),.val (kIs (.slice (some ⟨gw,0,none⟩) n n)),.val (kIs (.int .i64 (k:Int))),.val (kIs (.slice (some ⟨go,0,none⟩) n n)),.val (kIs (.int .i64 (c:Int))),.val (kIs (.pointer (some ⟨go,c,none⟩))),.val (kIs (.slice (some ⟨g2 c,0,none⟩) n n)),.val (kIs (.int .i64 (k:Int))),.val (kIs (.pointer (some ⟨(g2 c),5 * k,none⟩))),.val (kNum (H c k)),.val (kIs (.slice (some ⟨go,0,none⟩) n n)),.val (kIs (.int .i64 (k:Int))),.val (kIs (.pointer (some ⟨go,k,none⟩))),.val (kIs (.slice (some ⟨g2 k,0,none⟩) n n)),.val (kIs (.int .i64 (k:Int))),.val (kIs (.pointer (some ⟨(g2 k),5 * k,none⟩))),.val (kNum (H k k)),.val (kNum (X)),.val (kNum (.int 1)),.val (kIs (.pointer (some ⟨gw,5 * c,none⟩)))] 2 3 (fun W=>MatAt W go g2 n n H /\ NBlk W gw n (upf (fun _=>.zero) c X) /\ Below w.heap.size w W) (fun W=>MatAt W go g2 n n H /\ NBlk W gw n (tiltV c k X) /\ Below w.heap.size w W) (kIs (.pointer (some ⟨gw,5 * k,none⟩)))
      ?fl17 ?hfl17 kR kR kR kR kR ⟨stab_is _,stab_is _,stab_is _,stab_is _,stab_is _,stab_is _,stab_is _,stab_is _,stab_is _,stab_is _,stab_num _,stab_is _,stab_is _,stab_is _,stab_is _,stab_is _,stab_is _,stab_num _,stab_num _,stab_num _,stab_is _,trivial⟩ (stab_is _) (by rfl) sP (oa:=_) (ob:=_) (oc:=_) rfl rfl rfl kR kR ⟨obN (uMf rfl .fr),obN (uMf rfl .fr),obN (uMf rfl .fr),obN (uMf rfl .fr),obN (uMf rfl .fr),obN (uMf rfl .fr),obN (nIr rfl (.is 4) (.is 5) hc),obN (nLr rfl (.is 6) fun W hb=>(HM.out.below hb).cell hc),obN (uMf rfl .fr),obN (nIq rfl (.is 7) (.is 8) hkn),obN (nNe rfl (.is 9) (fun W hb=>(HM.out.below hb).row hc) hkn),obN (uMf rfl .fr),obN (uMf rfl .fr),obN (nIr rfl (.is 11) (.is 12) hkn),obN (nLr rfl (.is 13) fun W hb=>(HM.out.below hb).cell hkn),obN (uMf rfl .fr),obN (nIq rfl (.is 14) (.is 15) hkn),obN (nNe rfl (.is 16) (fun W hb=>(HM.out.below hb).row hkn) hkn),obN (uC2 rfl (.at 10) (.at 17) fun _ W hb h=>HTI.out W (bT KB6.out hb) _ _ (pg 10 h) (pg 17 h)),obN (uC1 rfl .k fun _ W hb h=>HI1.out W),obN (nIq rfl (.is 0) (.is 1) hc),trivial⟩ sP sP (o1:=_) (o2:=_) rfl rfl (fun B w0=>obN (uMf rfl .fr)) (fun B w0=>obN (uMf rfl .fr)) (fun B w0=>obN (nIq rfl (.is 2) (.is 3) hkn)) (fun _ _ hb ⟨h1,h2,h3⟩=>⟨h1.below hb,h2.below hb,bT h3 hb⟩) (fun _ _ hb ⟨h1,h2,h3⟩=>⟨h1.below hb,h2.below hb,bT h3 hb⟩) ?sta17 ?stb17 ?fin17
     case hfl17=>intro ts; simp only [fillT,zA,Nat.reduceAdd,sA,sB,sC]; rfl
     case sta17 =>
      intro ts W9 a9 ha9 hb9 hp K hK
      have hz:IsNum W9 (ts 18) X:=pg (q:=kNum X) 18 hp
      have hx:ts 20 = _:=pg (q:=kIs (.pointer (some ⟨gw,5 * c,none⟩))) 20 hp
      have ex:=(ha9 73).trans (by kernel_rfl:_ = ts 20)
      have ez:=(ha9 71).trans (by kernel_rfl:_ = ts 18)
      exact ⟨wp_store_elem rfl (k:=c) (ex.trans hx) ez (HW6.out.below hb9) hc hz fun W7 hbut hext hrow=>hK _ ⟨(HM.out.below hb9).butBox hbut hext HNE.out.1 HNE.out.2,hrow,hbut.below (bT KB6.out hb9) hgw1⟩ hext⟩
     case stb17 =>
      intro ts W9 a9 ha9 hor hx hp K hK
      have hz:IsNum W9 (ts 19) (.int 1):=pg (q:=kNum (.int 1)) 19 hp
      have ex:=(ha9 74).trans (by kernel_rfl:_ = ts 22)
      have ez:=(ha9 72).trans (by kernel_rfl:_ = ts 19)
      rcases hor with ⟨h1,h2,h3⟩ | ⟨h1,h2,h3⟩
      ·refine ⟨wp_store_elem rfl (k:=k) (ex.trans hx) ez h2 hkn hz fun W7 hbut hext hrow=>hK _ ⟨h1.butBox hbut hext HNE.out.1 HNE.out.2,hrow.congr fun j _=>?_,hbut.below h3 hgw1⟩ hext⟩
       unfold tiltV
       by_cases e:j = k
       ·rw [e,upf_same,if_pos rfl]
       ·rw [upf_other _ _ e,if_neg e]
        by_cases e2:j = c
        ·rw [e2,upf_same,if_pos rfl]
        ·rw [upf_other _ _ e2,if_neg e2]
      ·refine ⟨wp_store_elem rfl (k:=k) (ex.trans hx) ez h2 hkn hz fun W7 hbut hext hrow=>hK _ ⟨h1.butBox hbut hext HNE.out.1 HNE.out.2,hrow.congr fun j _=>?_,hbut.below h3 hgw1⟩ hext⟩
       by_cases e:j = k
       ·rw [e,upf_same]
        unfold tiltV
        rw [if_pos rfl]
       ·rw [upf_other _ _ e]
     case fin17 =>
      rintro ts W7 ⟨hM,hW,hB7⟩
      have HM7:=hid hM
      have HW7:=hid hW
      have KB7:=hid hB7
      clear hM hW hB7 HM HW6 KB6 HTI
      go_wp2_with fail
      refine (HCO.out W7 _ KB7.out HM7.out HW7.out HTZ.out).mono ?_
      rintro e W8 ⟨rfl,hN,hb⟩
      have HN8:=hid hN
      have KB8:=hid (KB7.out.trans hb)
      clear hN hb HCO HM7 HW7
      go_wp2
      go_ret3
      exact ⟨KB8.out,.inr ⟨HN.out,gw,_,rfl,HN8.out,HZS.out _ HTZ.out,by rw [HCM.out]; exact HBT.out.1,by rw [HCM.out]; exact HBT.out.2⟩⟩
   ·obtain rfl:K1 = 1:=by rw [<- hK1]; exact h1
    have hpos:0 < (H c c).re:=by
     simp only [Cx.zero] at h2
     rcases h2 with h2 | ⟨h2,h3⟩ <;> grind
    have HC2:=hid (HCS.out (.inr hpos))
    have HN2:=hid (show sch n F (c + 1) = clearF H c c n by rw [HNX.out,nxt,if_neg (pos_ne hpos)])
    clear h1 h2 hK1 him hpos HCO HZS HNO HCM HW5
    go_wp2_with fail
    refine (clearBelowN_any w.heap.size W5 go g2 n n c c (szE 2 c) H HM5.out HP.out hTB (HT.out.belowB hTB KB5.out) hc hc oM oM HS.out oM).mono ?_
    rintro e W6 ⟨rfl,hm6,hb⟩
    have HM6:=hid hm6
    have KB6:=hid (KB5.out.trans hb)
    clear hm6 hb HM5 KB5
    go_wp2
    go_roundw
    case rel=>exact ⟨c + 1,by go_num,oM,by rw [HN2.out]; exact HM6.out,HC2.out,by rw [HN2.out]; exact Sz.clearF HS.out hc hc,KB6.out⟩
    case measure=>exact mS
  ·obtain rfl:n = c:=oM
   have HPS:=hid (show Psd n 0 F from (sch_psd HH.out n lR HC.out).2 (psd_last n _))
   clear HM0 HC HS
   go_wp2
   go_ret3
   exact ⟨KB0.out,.inl ⟨HPS.out,rfl⟩⟩
end Go.Proofs.YtffegeaflohfhaaGreatDoor
