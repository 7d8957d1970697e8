import Derived.Test.YtffegeaflohfhaaGreatDoorS27
import Derived.Test.YtffegeaflohfhaaGreatDoorU27
import Derived.Test.YtffegeaflohfhaaGreatDoorU46
import Derived.Test.YtffegeaflohfhaaGreatDoorU15
import Derived.Test.YtffegeaflohfhaaGreatDoorU35
import Derived.Test.YtffegeaflohfhaaGreatDoorU36
import Derived.Test.YtffegeaflohfhaaGreatDoorS02
set_option linter.unusedVariables false
set_option linter.unusedSimpArgs false
set_option maxRecDepth 100000
set_option maxHeartbeats 8000000
namespace Go.Proofs.YtffegeaflohfhaaGreatDoor
open Go.RowKit
theorem sgn_neg {x:Rat} (h:x < 0):sgnR x = -1:=by
 rcases sgnR_cases x with ⟨h1,h2⟩ | ⟨h1,h2⟩ | ⟨h1,h2⟩
 ·exact h1
 ·rw [h2] at h; exact absurd h dE
 ·grind
theorem sgn_pos {x:Rat} (h:0 < x):sgnR x = 1:=by
 rcases sgnR_cases x with ⟨h1,h2⟩ | ⟨h1,h2⟩ | ⟨h1,h2⟩
 ·grind
 ·rw [h2] at h; exact absurd h dE
 ·exact h1
theorem h5w:∀ c,c <= 5 -> szE 2 c <= 10000:=dK
def RetYes (w:World) (p:Prop) (e:Ending) (w':World):Prop:=∃ b:Bool,e = .returned (.tuple #[.bool b,.int .i64 0]) /\ (b = true ↔ p) /\ Below w.heap.size w w'
theorem rDefinite_any (w:World) (ga:Nat) (gi:Nat -> Nat) (n cap:Nat) (F:Nat -> Nat -> Cx) (hA:MatQ w ga gi n n F) (hn:n <= 5) (hS:∀ a b,Sz (F a b) 2) (hH:Hm n 0 F) :
  Calls Tryz.prog 32 #[.slice (some ⟨ga,0,none⟩) n cap] w (RetYes w (Psd n 0 F)):=by
 have HSQ:=hid (rSquare_any w _ n _ F (hA.qss cap) oM fun _ _=>oM)
 have HV:=hid (show Vld n (fun _=>n) /\ n = (if n = 0 then 0 else (fun _=>n) 0) from ⟨⟨oM,fun _ _=>⟨rfl,show n <= 32 by omega⟩⟩,by split <;> first | assumption | rfl⟩)
 have HHE:=hid (fun W (hb:Below w.heap.size w W)=>rHermitian_all W ga gi n cap 2 F (hA.below hb) oM (fun a b _ _=>hS a b) oM)
 have HCP:=hid (fun W (hb:Below w.heap.size w W)=>rCopy_any W ga gi n n cap F (hA.below hb) oM oM)
 have HH:=hid hH
 have HS0:=hid hS
 clear hA hS hH
 go_enter Tryz.func32,Tryz.ntmps32
 go_wp2_with fail
 refine HSQ.out.mono ?_
 rintro e W1 ⟨bb,rfl,hb,hB⟩
 obtain rfl:bb = true:=hb.2 HV.out
 have KB1:=hid hB
 clear hb hB HSQ HV
 go_wp2_with fail
 refine (HHE.out W1 KB1.out).mono ?_
 rintro e W2 ⟨bb,rfl,hbb,hb2⟩
 obtain rfl:bb = true:=hbb.2 HH.out
 have KB2:=hid (bT KB1.out hb2)
 clear hb2 KB1 HHE hbb
 go_wp2_with fail
 refine (HCP.out W2 KB2.out).mono ?_
 rintro e W3 ⟨go,gk,ck,rfl,hL,hC,hB⟩
 have HL0:=hid (show RowsQ W2.heap.size W3 go gk (fun _=>n) ck n n (fun _ j=>j < n) (sch n F 0) from hL)
 have HC:=hid hC
 have KB3:=hid (bT KB2.out hB)
 have hw2:=KB2.out.size
 clear hL hC hB HCP KB2
 go_wp2_with fail
 go_loopw [5] (fun cv wx=>∃ c:Nat,cv = .int .i64 (c:Int) /\ c <= n /\ RowsQ W2.heap.size wx go gk (fun _=>n) ck n n (fun _ j=>j < n) (sch n F c) /\ Came n c F /\ (∀ a b,a < n -> b < n -> Sz (sch n F c a b) (szE 2 c)) /\ Below w.heap.size w wx) (fun cv _=>n - (intOf cv).toNat)
 case atStart=>exact ⟨0,rfl,oM,HL0.out,fun i hi=>absurd hi oM,fun a b _ _=>HS0.out a b,KB3.out⟩
 case round =>
  clear HL0 KB3 HS0
  obtain ⟨c,rfl,hcn,hL,hCa,hS1,hB⟩:=hrel
  have HL:=hid hL
  have HCa:=hid hCa
  have HS:=hid hS1
  have KB:=hid hB
  clear hL hCa hS1 hB
  by_cases hc:c < n
  ·have hsz:szE 2 c <= 10000:=h5w c oM
   have hszc:szE 2 c <= szE 2 (c + 1):=szE_mono 2 oM
   have HHM:=hid (sch_hm HH.out c hcn)
   have HPS:=hid (sch_psd HH.out c hcn HCa.out)
   have HNX:=hid (show sch n F (c + 1) = nxt n c (sch n F c) from rfl)
   have HCS:=hid (fun hg:Go1 n c (sch n F c)=>show Came n (c + 1) F from fun i hi=>by
    by_cases e:i = c
    ·rw [e]; exact hg
    ·exact HCa.out i oM)
   obtain ⟨H,hHe⟩:∃ H,H = sch n F c:=⟨_,rfl⟩
   rw [<- hHe] at HL HS HHM HNX HCS HPS
   clear hHe HCa
   have hcc:H c c = ⟨(H c c).re,0⟩:=Cx.ext rfl (HHM.out.real (Nat.le_refl c) hc)
   have HCC:=hid hcc
   have HSG:=hid (fun W v (h:IsQ W v (H c c))=>rSign_any v (H c c) W h)
   obtain ⟨s0,hs0⟩:∃ s0,s0 = sgnR (H c c).re:=⟨_,rfl⟩
   rw [<- hs0] at HSG
   have HSS:=hid hs0
   clear hs0 hcc
   go_upto_region 9 with fail
   refine region_litA [.val (kIs (.slice (some ⟨go,0,none⟩) n n)),.val (kIs (.int .i64 (c:Int))),.val (kIs (.pointer (some ⟨go,c,none⟩))),.val (kIs (.slice (some ⟨gk c,0,none⟩) n (ck c))),.val (kIs (.int .i64 (c:Int))),.val (kIs (.pointer (some ⟨(gk c),5 * c,none⟩))),.val (kQ (H c c)),.val (kIs (.int .i64 s0)),.val (kIs (.int .i64 s0))]
    ?fl1 ?hfl1 kR kR kR kR kR ⟨Stab.b (stab_is _),Stab.b (stab_is _),Stab.b (stab_is _),Stab.b (stab_is _),Stab.b (stab_is _),Stab.b (stab_is _),Stab.b (stab_q _),Stab.b (stab_is _),Stab.b (stab_is _),trivial⟩ sP ⟨obN (uMf rfl .fr),obN (uMf rfl .fr),obN (uIr rfl (.is 0) (.is 1) hc),obN (uLr' rfl (.is 2) fun W hb=>(HL.out.below hb).cell hc),obN (uMf rfl .fr),obN (uIq rfl (.is 3) (.is 4) hc),obN (uQe rfl (.is 5) (fun W hb=>(HL.out.below hb).rows _ hc) (lL hc (HC.out _ hc)) hc),obN (uC1 rfl (.at 6) fun _ W hb h=>cIs (HSG.out W _ (pg 6 h))),obN (uAs 7),trivial⟩ ?_
   case hfl1=>intro ts; simp only [fillT,zA,Nat.reduceAdd,sA,sB,sC]; rfl
   intro ts W4 hb4 hh hap
   have e1:=held_is (hh 8 sP) rfl
   simp only [e1]
   clear hh hap e1
   have HL4:=hid (HL.out.below hb4)
   have KB4:=hid (bT KB.out hb4)
   clear hb4 HL KB HSG
   have htri:(H c c).re < 0 ∨ (H c c).re = 0 ∨ 0 < (H c c).re:=by grind
   rcases htri with hneg | hz | hpos
   ·obtain rfl:s0 = -1:=by rw [HSS.out]; exact sgn_neg hneg
    have HN:=hid (show ¬ Psd n 0 F from fun hp=>by
     have:=(HPS.out.1 hp).diag hc
     exact absurd this (Rat.not_le.2 hneg))
    clear HSS hneg
    go_wp2
    go_ret2
    exact ⟨false,rfl,⟨fun h=>absurd h sP,fun h=>absurd h HN.out⟩,KB4.out⟩
   ·obtain rfl:s0 = 0:=by rw [HSS.out,hz]; rfl
    have HZ0:=hid (show H c c = .zero by rw [HCC.out,hz]; rfl)
    clear HSS hz HCC
    go_wp2_with fail
    go_loopw [7] (fun av wx=>∃ a:Nat,av = .int .i64 (a:Int) /\ c + 1 <= a /\ a <= n /\ (∀ x,c < x -> x < a -> H x c = .zero) /\ RowsQ W2.heap.size wx go gk (fun _=>n) ck n n (fun _ j=>j < n) H /\ Below w.heap.size w wx) (fun av _=>n - (intOf av).toNat)
    case atStart=>exact ⟨c + 1,by go_num,oM,oM,fun x h1 h2=>oM,HL4.out,KB4.out⟩
    case round =>
     clear HL4 KB4
     obtain ⟨a,rfl,hca,han,hzs,hL,hB⟩:=hrel
     have HZS:=hid hzs
     have HLa:=hid hL
     have KBa:=hid hB
     clear hzs hL hB
     by_cases ha:a < n
     ·have HZ:=hid (fun W v (hv:IsQ W v (H a c))=>rZero_any v (H a c) W hv)
      obtain ⟨zb,hzb⟩:∃ zb,zb = decide (H a c = .zero):=⟨_,rfl⟩
      rw [<- hzb] at HZ
      have HZB:=hid hzb
      clear hzb
      go_upto_region 16 with fail
      refine region_litA [.val (kIs (.slice (some ⟨go,0,none⟩) n n)),.val (kIs (.int .i64 (a:Int))),.val (kIs (.pointer (some ⟨go,a,none⟩))),.val (kIs (.slice (some ⟨gk a,0,none⟩) n (ck a))),.val (kIs (.int .i64 (c:Int))),.val (kIs (.pointer (some ⟨(gk a),5 * c,none⟩))),.val (kQ (H a c)),.val (kIs (.bool zb)),.val (kIs (.bool (!zb)))]
       ?fl2 ?hfl2 kR kR kR kR kR ⟨Stab.b (stab_is _),Stab.b (stab_is _),Stab.b (stab_is _),Stab.b (stab_is _),Stab.b (stab_is _),Stab.b (stab_is _),Stab.b (stab_q _),Stab.b (stab_is _),Stab.b (stab_is _),trivial⟩ sP ⟨obN (uMf rfl .fr),obN (uMf rfl .fr),obN (uIr rfl (.is 0) (.is 1) ha),obN (uLr' rfl (.is 2) fun W hb=>(HLa.out.below hb).cell ha),obN (uMf rfl .fr),obN (uIq rfl (.is 3) (.is 4) hc),obN (uQe rfl (.is 5) (fun W hb=>(HLa.out.below hb).rows _ ha) (lL hc (HC.out _ ha)) hc),obN (uC1 rfl (.at 6) fun _ W hb h=>cIs (HZ.out W _ (pg 6 h))),obN (uNt rfl (.is 7)),trivial⟩ ?_
      case hfl2=>intro ts; simp only [fillT,zA,Nat.reduceAdd,sA,sB,sC]; rfl
      intro ts W5 hb5 hh hap
      have e1:=held_is (hh 8 sP) rfl
      simp only [e1]
      clear hh hap e1
      have HL5:=hid (HLa.out.below hb5)
      have KB5:=hid (bT KBa.out hb5)
      clear hb5 HLa KBa HZ
      cases zb
      ·have HN:=hid (show ¬ Psd n 0 F from fun hp=>by
        have hnz:H a c ≠ .zero:=of_decide_eq_false HZB.out.symm
        have h1:=(HPS.out.1 hp).row hc HZ0.out (show c < a by omega) ha
        have h2:=HHM.out a c oM ha lR hc
        rw [h1,Cx.conj_zero] at h2
        exact hnz h2)
       clear HZB
       go_wp2
       go_ret2
       exact ⟨false,rfl,⟨fun h=>absurd h sP,fun h=>absurd h HN.out⟩,KB5.out⟩
      ·have HZS2:=hid (show ∀ x,c < x -> x < a + 1 -> H x c = .zero from fun x h1 h2=>by
        by_cases e:x = a
        ·rw [e]; exact of_decide_eq_true HZB.out.symm
        ·exact HZS.out x h1 oM)
       clear HZB HZS
       go_wp2
       go_roundw
       case rel=>exact ⟨a + 1,by go_num,oM,oM,HZS2.out,HL5.out,KB5.out⟩
       case measure=>exact mS
     ·obtain rfl:n = a:=oM
      have HG:=hid (show Came n (c + 1) F from HCS.out (.inl fun x h1 h2=>by
       rcases Nat.eq_or_lt_of_le h1 with e | e
       ·rw [<- e]; exact HZ0.out
       ·rw [HHM.out c x lR hc h1 h2,HZS.out x e h2,Cx.conj_zero]))
      have HN2:=hid (show sch n F (c + 1) = H by rw [HNX.out,nxt,if_pos HZ0.out])
      clear HZS
      go_wp2
      go_roundw
      case rel=>exact ⟨c + 1,by go_num,oM,by rw [HN2.out]; exact HLa.out,HG.out,by rw [HN2.out]; exact fun a b ha hb=>(HS.out a b ha hb).mono hszc,KBa.out⟩
      case measure=>exact mS
   ·obtain rfl:s0 = 1:=by rw [HSS.out]; exact sgn_pos hpos
    have HNZ:=hid (pos_ne hpos)
    have HG:=hid (HCS.out (.inr hpos))
    have HN2:=hid (show sch n F (c + 1) = clearF H c c n by rw [HNX.out,nxt,if_neg (pos_ne hpos)])
    clear HSS hpos HCC HPS
    go_wp2_with fail
    go_loopw [7] (fun av wx=>∃ a:Nat,av = .int .i64 (a:Int) /\ c + 1 <= a /\ a <= n /\ RowsQ W2.heap.size wx go gk (fun _=>n) ck n n (fun _ j=>j < n) (clearP H c c a 0) /\ Below w.heap.size w wx) (fun av _=>n - (intOf av).toNat)
    case atStart=>exact ⟨c + 1,by go_num,oM,oM,HL4.out.to fun i j _ _ hv=>⟨hv,(if_neg oM).symm⟩,KB4.out⟩
    case round =>
     clear HL4 KB4
     obtain ⟨a,rfl,hca,han,hL,hB⟩:=hrel
     obtain ⟨P,hP⟩:∃ P,P = clearP H c c a 0:=⟨_,rfl⟩
     rw [<- hP] at hL
     have HPe:=hid hP
     have HLa:=hid hL
     have KBa:=hid hB
     clear hL hB hP
     by_cases ha:a < n
     ·obtain ⟨f,hf⟩:∃ f,f = (H a c).div (H c c):=⟨_,rfl⟩
      have e1:P a c = H a c:=by rw [HPe.out,clearP_col]
      have e2:P c c = H c c:=by rw [HPe.out,clearP_col]
      have HDV:=hid (fun W v u (h1:IsQ W v (P a c)) (h2:IsQ W u (P c c))=>rDiv_any v u (P a c) (P c c) W h1 h2 _ _ (by rw [e1]; exact HS.out a c ha hc) (by rw [e2]; exact HS.out c c hc hc) oM (by rw [e2]; exact HNZ.out))
      rw [show (P a c).div (P c c) = f by rw [e1,e2,hf]] at HDV
      have HFe:=hid hf
      clear e1 e2 hf
      have hs1:((1:Int) == 0) = false:=dE
      go_upto_region 18 with fail
      refine region_litA [.val (kIs (.slice (some ⟨go,0,none⟩) n n)),.val (kIs (.int .i64 (a:Int))),.val (kIs (.pointer (some ⟨go,a,none⟩))),.val (kIs (.slice (some ⟨gk a,0,none⟩) n (ck a))),.val (kIs (.int .i64 (c:Int))),.val (kIs (.pointer (some ⟨(gk a),5 * c,none⟩))),.val (kQ (P a c)),.val (kIs (.slice (some ⟨go,0,none⟩) n n)),.val (kIs (.int .i64 (c:Int))),.val (kIs (.pointer (some ⟨go,c,none⟩))),.val (kIs (.slice (some ⟨gk c,0,none⟩) n (ck c))),.val (kIs (.int .i64 (c:Int))),.val (kIs (.pointer (some ⟨(gk c),5 * c,none⟩))),.val (kQ (P c c)),.val (kQE f 0),.val (kQE f 0),.val (kQ (f)),.val (kIs (.int .i64 0)),.box 42 zQ,.put 18 16,.val (kIs (.int .i64 0))]
       ?fl3 ?hfl3 kR kR kR kR kR ⟨stab_is _,stab_is _,stab_is _,stab_is _,stab_is _,stab_is _,stab_q _,stab_is _,stab_is _,stab_is _,stab_is _,stab_is _,stab_is _,stab_q _,stab_qe _ _,stab_qe _ _,stab_q _,stab_is _,stab_is _,trivial⟩ sP ⟨obN (uMf rfl .fr),obN (uMf rfl .fr),obN (uIr rfl (.is 0) (.is 1) ha),obN (uLr' rfl (.is 2) fun W hb=>(HLa.out.below hb).cell ha),obN (uMf rfl .fr),obN (uIq rfl (.is 3) (.is 4) hc),obN (uQe rfl (.is 5) (fun W hb=>(HLa.out.below hb).rows _ ha) (lL hc (HC.out _ ha)) hc),obN (uMf rfl .fr),obN (uMf rfl .fr),obN (uIr rfl (.is 7) (.is 8) hc),obN (uLr' rfl (.is 9) fun W hb=>(HLa.out.below hb).cell hc),obN (uMf rfl .fr),obN (uIq rfl (.is 10) (.is 11) hc),obN (uQe rfl (.is 12) (fun W hb=>(HLa.out.below hb).rows _ hc) (lL hc (HC.out _ hc)) hc),obN (uC2 rfl (.at 6) (.at 13) fun _ W hb h=>rQE (HDV.out W _ _ (pg 6 h) (pg 13 h))),obN (uMv 14),obN (uX0 15 rfl),obN (uX1 15 rfl),alloc_q,store_q _,obN (uAs 17),trivial⟩ ?_
      case hfl3=>intro ts; simp only [fillT,zA,Nat.reduceAdd,sA,sB,sC]; rfl
      intro ts W5 hb5 hh hap
      obtain ⟨g11,A11,n11,c11,p11,A11b,n11b,c11b,p11b,A11c,n11c,c11c,e11,lo11,z11,X11,N11⟩:=held_boxQ (x:=f) (hh 18 sP) rfl (hh 19 sP) rfl (hh 16 sP) rfl
      have e12:=held_is (hh 20 sP) rfl
      simp only [e11,e12]
      clear hh hap e11 e12
      have HF:=hid (QBlk.one (V:=fun _=>True) X11 fun _=>N11)
      have HGn:=hid (fun i (hi:i < n)=>show gk i ≠ g11 from fun e=>by have:=(HLa.out.rows i hi).lt; omega)
      have HLb:=hid (show RowsQ W2.heap.size W5 go gk (fun _=>n) ck n n (fun _ j=>j < n) (clearP H c c a (c + 1)) by rw [clearP_open,<- HPe.out]; exact HLa.out.below hb5)
      have KBb:=hid (bT KBa.out hb5)
      clear HLa KBa hb5 X11 N11 z11 lo11 HPe HDV
      go_wp2_with fail
      go_loopw [10] (fun kv wx=>∃ k:Nat,kv = .int .i64 (k:Int) /\ c + 1 <= k /\ k <= n /\ RowsQ W2.heap.size wx go gk (fun _=>n) ck n n (fun _ j=>j < n) (clearP H c c a k) /\ QBlk wx g11 1 (fun _=>True) (fun _=>f) /\ Below w.heap.size w wx) (fun kv _=>n - (intOf kv).toNat)
      case atStart=>exact ⟨c + 1,by go_num,oM,oM,HLb.out,HF.out,KBb.out⟩
      case round =>
       clear HLb KBb HF
       obtain ⟨k,rfl,hck,hkn,hL,hF,hB⟩:=hrel
       have HF:=hid hF
       have KBk:=hid hB
       obtain ⟨P,hP⟩:∃ P,P = clearP H c c a k:=⟨_,rfl⟩
       rw [<- hP] at hL
       have HLk:=hid hL
       have HPe:=hid hP
       clear hL hF hB hP
       by_cases hk:k < n
       ·have e1:P a k = H a k:=by rw [HPe.out,clearP_here _ _ _ _ _ _ lR]
        have e2:P c k = H c k:=by rw [HPe.out,clearP_row]
        have hsf:Sz f (3 * szE 2 c + 2):=by rw [HFe.out]; exact ((HS.out a c ha hc).div (HS.out c c hc hc)).mono oM
        have hsr:Sz (P c k) (szE 2 c):=by rw [e2]; exact HS.out c k hc hk
        have HMU:=hid (fun W v u (h1:IsQ W v f) (h2:IsQ W u (P c k))=>rMul_any v u f (P c k) W h1 h2 _ _ hsf hsr oM)
        have HSU:=hid (fun W v u (h1:IsQ W v (P a k)) (h2:IsQ W u (f.mul (P c k)))=>rSub_any v u (P a k) (f.mul (P c k)) W h1 h2 _ _ (by rw [e1]; exact HS.out a k ha hk) (hsf.mul hsr) oM)
        have HZe:=hid (show (P a k).sub (f.mul (P c k)) = (H a k).sub (((H a c).div (H c c)).mul (H c k)) by rw [e1,e2,HFe.out])
        clear e1 e2 hsf hsr
        have hcell:=HLk.out.cell ha
        go_upto_region 22 with fail
        clear hcell
        refine region_lastA [.val (kIs (.slice (some ⟨go,0,none⟩) n n)),.val (kIs (.int .i64 (a:Int))),.val (kIs (.pointer (some ⟨go,a,none⟩))),.val (kIs (.slice (some ⟨gk a,0,none⟩) n (ck a))),.val (kIs (.int .i64 (k:Int))),.val (kIs (.slice (some ⟨go,0,none⟩) n n)),.val (kIs (.int .i64 (a:Int))),.val (kIs (.pointer (some ⟨go,a,none⟩))),.val (kIs (.slice (some ⟨gk a,0,none⟩) n (ck a))),.val (kIs (.int .i64 (k:Int))),.val (kIs (.pointer (some ⟨(gk a),5 * k,none⟩))),.val (kQ (P a k)),.val (kQ (f)),.val (kIs (.slice (some ⟨go,0,none⟩) n n)),.val (kIs (.int .i64 (c:Int))),.val (kIs (.pointer (some ⟨go,c,none⟩))),.val (kIs (.slice (some ⟨gk c,0,none⟩) n (ck c))),.val (kIs (.int .i64 (k:Int))),.val (kIs (.pointer (some ⟨(gk c),5 * k,none⟩))),.val (kQ (P c k)),.val (kQ (f.mul (P c k))),.val (kQ ((P a k).sub (f.mul (P c k)))),.val (kIs (.pointer (some ⟨(gk a),5 * k,none⟩)))]
         ?fl4 ?hfl4 kR kR kR kR kR ⟨Stab.b (stab_is _),Stab.b (stab_is _),Stab.b (stab_is _),Stab.b (stab_is _),Stab.b (stab_is _),Stab.b (stab_is _),Stab.b (stab_is _),Stab.b (stab_is _),Stab.b (stab_is _),Stab.b (stab_is _),Stab.b (stab_is _),Stab.b (stab_q _),Stab.b (stab_q _),Stab.b (stab_is _),Stab.b (stab_is _),Stab.b (stab_is _),Stab.b (stab_is _),Stab.b (stab_is _),Stab.b (stab_is _),Stab.b (stab_q _),Stab.b (stab_q _),Stab.b (stab_q _),Stab.b (stab_is _),trivial⟩ sP (ol:=_) rfl kR ⟨obN (uMf rfl .fr),obN (uMf rfl .fr),obN (uIr rfl (.is 0) (.is 1) ha),obN (uLr' rfl (.is 2) fun W hb=>(HLk.out.below hb).cell ha),obN (uMf rfl .fr),obN (uMf rfl .fr),obN (uMf rfl .fr),obN (uIr rfl (.is 5) (.is 6) ha),obN (uLr' rfl (.is 7) fun W hb=>(HLk.out.below hb).cell ha),obN (uMf rfl .fr),obN (uIq rfl (.is 8) (.is 9) hk),obN (uQe rfl (.is 10) (fun W hb=>(HLk.out.below hb).rows _ ha) (lL hk (HC.out _ ha)) hk),obN (uQe (k:=0) (f:=fun _=>f) (V:=fun _=>True) rfl .fr (fun W hb=>HF.out.below hb) (by omega:0 < 1) trivial),obN (uMf rfl .fr),obN (uMf rfl .fr),obN (uIr rfl (.is 13) (.is 14) hc),obN (uLr' rfl (.is 15) fun W hb=>(HLk.out.below hb).cell hc),obN (uMf rfl .fr),obN (uIq rfl (.is 16) (.is 17) hk),obN (uQe rfl (.is 18) (fun W hb=>(HLk.out.below hb).rows _ hc) (lL hk (HC.out _ hc)) hk),obN (uC2 rfl (.at 12) (.at 19) fun _ W hb h=>HMU.out W _ _ (pg 12 h) (pg 19 h)),obN (uC2 rfl (.at 11) (.at 20) fun _ W hb h=>HSU.out W _ _ (pg 11 h) (pg 20 h)),obN (uIq rfl (.is 3) (.is 4) hk),trivial⟩ ?_
        case hfl4=>intro ts; simp only [fillT,zA,Nat.reduceAdd,sA,sB,sC]; rfl
        intro ts W9 a9 ha9 hb9 hh K hK
        have hz:IsQ W9 (ts 21) ((P a k).sub (f.mul (P c k))):=hh 21 sP
        have hx:ts 22 = _:=hh 22 sP
        have ex:=(ha9 102).trans (by kernel_rfl:_ = ts 22)
        have ez:=(ha9 101).trans (by kernel_rfl:_ = ts 21)
        have HK:=hid hK
        clear hK hh
        have hcap:=lL hk (HC.out a ha)
        refine ⟨wp_store_qe rfl (k:=k) (ex.trans hx) ez ((HLk.out.below hb9).rows a ha) hcap hz fun W4 hbut hext hrow=>⟨rfl,HK.out _ ?_⟩⟩
        have HF4:=hid ((HF.out.below hb9).but hbut hext (Ne.symm (HGn.out a ha)))
        have HL4:=hid (show RowsQ W2.heap.size W4 go gk (fun _=>n) ck n n (fun _ j=>j < n) (clearP H c c a (k + 1)) by
         rw [<- clearP_next H c c a k oM oM,<- HZe.out,<- HPe.out]
         refine ((HLk.out.below hb9).set ha hbut hext hrow).to fun i j hi hj hv=>⟨?_,rfl⟩
         by_cases e:i = a
         ·rw [e,upf_same]; exact .inl hv
         ·rw [upf_other _ _ e]; exact hv)
        have KB4:=hid (hbut.below (bT KBk.out hb9) (Nat.le_trans hw2 (HLk.out.sep.los a ha)))
        clear HK hz hx ex ez hbut hext hrow HLk KBk HF hb9 ha9 HZe HPe HMU HSU
        go_wp2
        go_roundw
        case rel=>exact ⟨k + 1,by go_num,oM,oM,HL4.out,HF4.out,KB4.out⟩
        case measure=>exact mS
       ·obtain rfl:n = k:=oM
        have HL4:=hid (show RowsQ W2.heap.size wr go gk (fun _=>n) ck n n (fun _ j=>j < n) (clearP H c c (a + 1) 0) from HLk.out.to fun i j hi hj hv=>⟨hv,by rw [HPe.out]; exact clearP_shut H c c a n i j hv⟩)
        clear HLk HPe
        go_wp2
        go_roundw
        case rel=>exact ⟨a + 1,by go_num,oM,oM,HL4.out,KBk.out⟩
        case measure=>exact mS
     ·obtain rfl:n = a:=oM
      have HL3:=hid (show RowsQ W2.heap.size wr go gk (fun _=>n) ck n n (fun _ j=>j < n) (sch n F (c + 1)) by rw [HN2.out]; unfold clearF; rw [<- HPe.out]; exact HLa.out)
      clear HLa HPe
      go_wp2
      go_roundw
      case rel=>exact ⟨c + 1,by go_num,oM,HL3.out,HG.out,by rw [HN2.out]; exact Sz.clearF HS.out hc hc,KBa.out⟩
      case measure=>exact mS
  ·obtain rfl:n = c:=oM
   have HPS:=hid (show Psd n 0 F from (sch_psd HH.out n lR HCa.out).2 (psd_last n _))
   clear HL HCa HS
   go_wp2
   go_ret2
   exact ⟨true,rfl,⟨fun _=>HPS.out,fun _=>rfl⟩,KB.out⟩
end Go.Proofs.YtffegeaflohfhaaGreatDoor
