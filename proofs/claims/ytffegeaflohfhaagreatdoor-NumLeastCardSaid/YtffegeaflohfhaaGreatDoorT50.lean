import Derived.Test.YtffegeaflohfhaaGreatDoorT48
import Derived.Test.YtffegeaflohfhaaGreatDoorT49
import Derived.Test.YtffegeaflohfhaaGreatDoorS02
set_option linter.unusedVariables false
set_option linter.unusedSimpArgs false
set_option maxRecDepth 100000
set_option maxHeartbeats 8000000
namespace Go.Proofs.YtffegeaflohfhaaGreatDoor
open Go.RowKit
def RetSolN (w:World) (n:Nat) (ok:Prop) (x:Nat -> Cx) (e:Ending) (w':World):Prop :=
 Below w.heap.size w w' /\ ((ok /\ ∃ g,e = .returned (.tuple #[.slice (some ⟨g,0,none⟩) n n,.int .i64 0]) /\ NBlk w' g n x /\ w.heap.size <= g) ∨ (¬ ok /\ e = .returned (.tuple #[.slice none 0 0,.int .i64 6])))
theorem solveN_any (w:World) (ga gb:Nat) (gi:Nat -> Nat) (n s:Nat) (F:Nat -> Nat -> Cx) (f:Nat -> Cx) (hA:MatAt w ga gi n n F) (hB:NBlk w gb n f) (hn1:n <= 31) (hT:Tab w)
  (hS:∀ a b,a < n -> b < n -> Sz (F a b) s) (hSf:∀ a,a < n -> Sz (f a) s) (h5:szE s n + n * (szE s n + szX (szE s n) n + 2) + 5 * szE s n + szX (szE s n) n + 10 < 549755813888) :
  Calls Tryz.prog 13 #[.slice (some ⟨ga,0,none⟩) n n,.slice (some ⟨gb,0,none⟩) n n] w (RetSolN w n ((elimS n n 0 F 0).1 = n) (solX (elimS n n 0 (addC F n f n) 0).2.2 n n)):=by
 have HA0:=hid hA
 have HB0:=hid hB
 have HT:=hid hT
 obtain ⟨G,hG⟩:∃ G,G = addC F n f n:=⟨_,rfl⟩
 have hSG:∀ a b,a < n -> b < n + 1 -> Sz (G a b) s:=fun a b ha hb=>by
  rw [hG]
  unfold addC
  split
  ·exact hS a b ha (by assumption)
  ·first | exact hSf a ha | (rw [if_pos ha]; exact hSf a ha)
 have hGF:∀ i j,j < n -> F i j = G i j:=fun i j hj=>by rw [hG]; exact (if_pos hj).symm
 have hstG:=(elimS_cols n n 0 F G 0 oM hGF).1
 have hdg:=elimS_diag n n 0 G 0 oM
 have hle:=(elimS_ok n n 0 G 0 oM).1
 have hsz:=elimS_sz n (n + 1) s oM n 0 G 0 oM hSG
 have HSG:=hid hSG
 rw [<- hG,hstG]
 have HG:=hid hG
 have HLE:=hid hle
 have HDG:=hid hdg
 have HSZ:=hid hsz
 clear hA hB hS hSf hT hSG hGF hstG hdg hsz hG hle
 have HQ:=hid (squareN_all w _ n _ F (HA0.out.nss' n) oM fun _ _=>oM)
 have HV:=hid (show Sqr n (fun _=>n) from ⟨⟨oM,fun _ _=>⟨rfl,show n <= 32 by omega⟩⟩,by unfold colsOf; split <;> first | assumption | rfl⟩)
 go_enter Tryz.func13,Tryz.ntmps13
 go_wp2_with fail
 refine HQ.out.mono ?_
 rintro e W1 ⟨b1,rfl,q1,hb1⟩
 obtain rfl:b1 = true:=q1.2 HV.out
 have KB1:=hid hb1
 clear hb1 q1
 go_wp2_with fail
 refine (widenedN_any W1 ga gi n n 1 F (HA0.out.below KB1.out) oM oM).mono ?_
 rintro e W2 ⟨go,g2,rfl,hM,hP,hb2⟩
 have KB2:=hid (bT KB1.out hb2)
 have HM2:=hid (show MatAt W2 go g2 n (n + 1) (addC F n f 0) from hM.congr fun a b _ hb=>by
  unfold wideF cpyn addC
  by_cases h:b < n
  ·rw [if_pos ⟨Nat.zero_le _,oM⟩,if_pos h]; rfl
  ·rw [if_neg oM,if_neg h,if_neg oM])
 have HP:=hid (show MatSep w.heap.size go g2 n from ⟨Nat.le_trans KB1.out.size hP.lo,fun i hi=>Nat.le_trans KB1.out.size (hP.los i hi),hP.ne,hP.inj⟩)
 have hTB:1 < w.heap.size:=HT.out.1
 clear hM hP hb2 KB1 HQ
 go_wp2
 go_loopw [25] (fun j wr=>∃ i:Nat,j = .int .i64 i /\ i <= n /\ MatAt wr go g2 n (n + 1) (addC F n f i) /\ Below w.heap.size w wr) (fun j _=>n - (intOf j).toNat)
 case atStart=>exact ⟨0,rfl,oM,HM2.out,KB2.out⟩
 case round =>
  clear HM2 KB2
  obtain ⟨i,rfl,hin,hM,hB⟩:=hrel
  have HM:=hid hM
  have KB:=hid hB
  have HBB:=hid (HB0.out.below hB)
  clear hM hB
  by_cases hi:i < n
  ·have hcell:=HM.out.cell hi
   have hnn:n < n + 1:=oM
   have hnn2:(n:Int) < ((n + 1:Nat):Int):=oM
   have hnn3:(n:Int) < (n:Int) + 1:=oM
   go_upto_region 7 with fail
   refine region_last [.val (kIs (.slice (some ⟨(g2 i),0,none⟩) (n + 1) (n + 1))),.val (kIs (.slice (some ⟨ga,0,none⟩) n n)),.val (kIs (.int .i64 (n:Int))),.val (kIs (.slice (some ⟨gb,0,none⟩) n n)),.val (kIs (.int .i64 (i:Int))),.val (kIs (.pointer (some ⟨gb,5 * i,none⟩))),.val (kNum (f i)),.val (kIs (.pointer (some ⟨(g2 i),5 * n,none⟩)))]
    kR kR kR kR kR ⟨Stab.b (stab_is _),Stab.b (stab_is _),Stab.b (stab_is _),Stab.b (stab_is _),Stab.b (stab_is _),Stab.b (stab_is _),Stab.b (stab_num _),Stab.b (stab_is _),trivial⟩ sP (ol:=_) rfl kR ⟨?_,?_,?_,?_,?_,?_,?_,?_,trivial⟩ ?_
   ·exact obp
   ·exact obp
   ·intro ts W hb hB hp; have h1:ts 1 = _:=hp 1 kR; intro K hK; simp only [fillT,zA,Nat.reduceAdd,sA,sB,sC,h1] at hK ⊢; have HK:=hid hK; clear hK hp; refine ⟨?_⟩; go_simp; exact HK.out _ _ rfl rfB
   ·exact obp
   ·exact obp
   ·intro ts W hb hB hp; have h3:ts 3 = _:=hp 3 kR; have h4:ts 4 = _:=hp 4 kR; intro K hK; simp only [fillT,zA,Nat.reduceAdd,sA,sB,sC,h3,h4] at hK ⊢; have HK:=hid hK; clear hK hp; refine ⟨?_⟩; go_simp; exact HK.out _ _ (by simp [kIs,Nat.mul_comm]) rfB
   ·intro ts W hb hB hp; have h5:ts 5 = _:=hp 5 kR; intro K hK; simp only [fillT,zA,Nat.reduceAdd,sA,sB,sC,h5] at hK ⊢; have HK:=hid hK; clear hK hp; refine ⟨?_⟩; refine wp_load_elem rfl rfl (HBB.out.below hb) hi (fun v hv=>HK.out _ _ (hv) rfB)
   ·intro ts W hb hB hp; have h0:ts 0 = _:=hp 0 kR; have h2:ts 2 = _:=hp 2 kR; intro K hK; simp only [fillT,zA,Nat.reduceAdd,sA,sB,sC,h0,h2] at hK ⊢; have HK:=hid hK; clear hK hp; refine ⟨?_⟩; go_simp; exact HK.out _ _ (by simp [kIs,Nat.mul_comm]) rfB
   intro ts W3 hb3 hh hap K hK
   have h6:=held_num (hh 6 sP) rfl
   have e7:=held_is (hh 7 sP) rfl
   have HK:=hid hK
   clear hK hh hap
   simp only [fillT,zA,Nat.reduceAdd,sA,sB,sC,e7]
   refine ⟨?_⟩
   refine wp_store_elem rfl (k:=n) rfl rfl ((HM.out.row hi).below hb3) hnn h6 (fun W4 hbut hext hrow=>HK.out _ _ ?_)
   clear e7 h6
   have M3:=((HM.out.below hb3).set HP.out hi hbut hext hrow).congr fun a b _ hb=>addC_next F n i f a b hb
   have M4:=hid M3
   have B4:=hid (hbut.below (bT KB.out hb3) (HP.out.los i hi))
   clear hbut hext hrow hb3 M3 HM KB hcell hnn2 hnn3
   go_wp2
   go_roundw
   case rel=>exact ⟨i + 1,by go_num,oM,M4.out,B4.out⟩
   case measure=>exact mS
  ·obtain rfl:i = n:=oM
   have HM4:=hid (show MatAt wr go g2 i (i + 1) G by rw [HG.out]; exact HM.out)
   go_wp2_with fail
   refine (eliminateN_any w.heap.size wr go g2 i (i + 1) s G HM4.out HP.out hTB (HT.out.below KB.out) oM oM HSG.out oM).mono ?_
   rintro e W5 ⟨i4,rfl,hM,hP,hb⟩
   have HM5:=hid hM
   have KB5:=hid (KB.out.trans hb)
   clear hM hP hb KB HM4 HM
   by_cases hst:(elimS i i 0 G 0).1 = i
   ·have HDG2:=hid (fun a ha=>HDG.out hst a (Nat.zero_le _) ha)
    have e1:((elimS i i 0 G 0).1:Int) = (i:Int):=by rw [hst]
    have HST:=hid hst
    rw [e1]
    clear e1 hst HDG HLE
    go_wp2_with fail
    refine (substituteN_any W5 go i4 i (i + 1) i (szE s i) (elimS i i 0 G 0).2.2 HM5.out oM oM oM (HT.out.below KB5.out) HSZ.out HDG2.out h5).mono ?_
    rintro e W6 ⟨gx,rfl,hN,hgx,hb⟩
    have HN:=hid hN
    have KB6:=hid (bT KB5.out hb)
    have hgw:w.heap.size <= gx:=Nat.le_trans KB5.out.size hgx
    clear hN hb hgx
    go_wp2
    go_ret2
    exact ⟨KB6.out,.inl ⟨HST.out,gx,rfl,HN.out,hgw⟩⟩
   ·have hlt:((elimS i i 0 G 0).1:Int) < (i:Int):=by have:=HLE.out; omega
    have HST:=hid hst
    clear hst HDG HLE
    go_wp2
    go_ret2
    exact ⟨KB5.out,.inr ⟨HST.out,rfl⟩⟩
def LinN (w:World) (N:Nat) (H:Nat -> Cx) (k:Int) (e:Ending) (w':World):Prop:=∃ A c,e = .returned (.tuple #[.slice A N c,.int .i64 k]) /\ NSl w' (.slice A N c) N H /\ Below w.heap.size w w'
def LinQ (w:World) (N:Nat) (H:Nat -> Cx) (k:Int) (e:Ending) (w':World):Prop:=∃ A c,e = .returned (.tuple #[.slice A N c,.int .i64 k]) /\ QSl w' (.slice A N c) N H /\ Below w.heap.size w w'
theorem RetNo.linN {w w':World} {k:Int} {e:Ending} (h:RetNo w k e w'):LinN w 0 (fun _=>.zero) k e w':=⟨none,0,h.1,⟨none,0,rfl,fun h=>absurd h oM⟩,h.2⟩
theorem RetNo.linQ {w w':World} {k:Int} {e:Ending} (h:RetNo w k e w'):LinQ w 0 (fun _=>.zero) k e w':=⟨none,0,h.1,⟨none,0,rfl,fun h=>absurd h oM⟩,h.2⟩
theorem gj_is2 {n:Nat} {F:Nat -> Nat -> Cx} (k:Nat) (hk:n <= k) (G:Nat -> Nat -> Cx) (hG:∀ i j,j < n -> F i j = G i j) (b:Nat -> Cx) (hb:∀ i,i < n -> G i k = b i) :
  ((gjS n n 0 (augQ n F b)).1 = true ↔ (elimS n n 0 F 0).1 = n) /\ ((elimS n n 0 F 0).1 = n -> ∀ i,i < n -> ((gjS n n 0 (augQ n F b)).2 i n).div ((gjS n n 0 (augQ n F b)).2 i i) = solX (elimS n n 0 G 0).2.2 k n i):=by
 have e1:=(elimS_cols n n 0 F (augQ n F b) 0 oM fun i j hj=>by unfold augQ; rw [if_pos hj]).1
 have e2:=(elimS_cols n n 0 F G 0 oM hG).1
 have h1:=gj_elim n n 0 (augQ n F b) (augQ n F b) 0 oM fun _ _ _ _=>rfl
 rw [<- e1] at h1
 refine ⟨h1,fun ht i hi=>gj_is (fun a ha=>?_) (h1.2 ht) i hi⟩
 have hs:sm (fun j=>(G a j).mul (solX (elimS n n 0 G 0).2.2 k n j)) 0 n = G a k:=elim_solves hk G (by rw [<- e2]; exact ht) a ha
 unfold augQ
 rw [if_neg oM,<- hb a ha,<- hs]
 exact sm_congr _ _ fun j _ hj=>by rw [if_pos oM,hG a j oM]
section
variable {n:Nat} {ml:Nat -> Nat} {F:Nat -> Nat -> Cx} (hF:∀ i k,Sz (F i k) 2) (hn:n <= 40) (hml:∀ i,i < n -> ml i <= 40) (hV:Vld n ml -> n <= 5 /\ colsOf n ml <= 5)
include hF hn hml hV
end
end Go.Proofs.YtffegeaflohfhaaGreatDoor
