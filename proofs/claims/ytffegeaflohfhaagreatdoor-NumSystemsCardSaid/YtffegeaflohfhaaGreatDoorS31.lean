import Derived.Test.YtffegeaflohfhaaGreatDoorS29
import Derived.Test.YtffegeaflohfhaaGreatDoorS30
import Derived.Test.YtffegeaflohfhaaGreatDoorS02
set_option linter.unusedVariables false
set_option linter.unusedSimpArgs false
set_option maxRecDepth 100000
set_option maxHeartbeats 8000000
namespace Go.Proofs.YtffegeaflohfhaaGreatDoor
open Go.RowKit
def addC (F:Nat -> Nat -> Cx) (n:Nat) (f:Nat -> Cx) (i:Nat):Nat -> Nat -> Cx:=fun a b=>if b < n then F a b else if a < i then f a else .zero
theorem addC_next (F:Nat -> Nat -> Cx) (n i:Nat) (f:Nat -> Cx):∀ a b,b < n + 1 -> upm (addC F n f i) i n (f i) a b = addC F n f (i + 1) a b:=fun a b hb=>by
 unfold upm upf addC
 by_cases ha:a = i
 ·subst ha
  rw [if_pos rfl]
  by_cases hbn:b = n
  ·rw [if_pos hbn,if_neg oM,if_pos oM]
  ·rw [if_neg hbn,if_pos oM,if_pos oM]
 ·simp only [if_neg ha]
  by_cases hbn:b < n
  ·rw [if_pos hbn,if_pos hbn]
  ·rw [if_neg hbn,if_neg hbn]
   by_cases h:a < i
   ·rw [if_pos h,if_pos oM]
   ·rw [if_neg h,if_neg oM]
def addI (F:Nat -> Nat -> Cx) (n i:Nat):Nat -> Nat -> Cx:=fun a b=>if b < n then F a b else if a < i then idF a (b - n) else .zero
def invF (n:Nat) (F:Nat -> Nat -> Cx):Nat -> Nat -> Cx:=fun a b=>solX (elimS n n 0 (addI F n n) 0).2.2 (n + b) n a
def RetInv (w:World) (n:Nat) (F:Nat -> Nat -> Cx) (e:Ending) (w':World):Prop :=
 if (elimS n n 0 F 0).1 = n then RetMatE w n n (invF n F) 0 e w' else e = .returned (.tuple #[.slice none 0 0,.int .i64 6]) /\ Below w.heap.size w w'
theorem MatAt.setRow {B:Nat} {W W':World} {go:Nat} {gi:Nat -> Nat} {n m:Nat} {F:Nat -> Nat -> Cx} (h:MatAt W go gi n m F) (hs:MatSep B go gi n) {i:Nat} (hi:i < n) {f:Nat -> Cx} (hb:But W W' (gi i)) (he:Ext W W') (hr:NBlk W' (gi i) m f):MatAt W' go gi n m (upf F i f):=by
 obtain ⟨cs,h1,h2,h3,h4⟩:=h
 refine ⟨cs,(hb.other _ (Ne.symm (hs.ne i hi))).trans h1,h2,h3,fun j hj=>?_⟩
 by_cases hji:j = i
 ·subst hji
  rw [upf_same]
  exact hr
 ·rw [upf_other _ _ hji]
  exact (h4 j hj).but hb he fun e=>hji (hs.inj j i hj hi e)
theorem addI_next (F:Nat -> Nat -> Cx) (n i:Nat):∀ a b,b < n + n -> upf (addI F n i) i (cpyn (idF i) (addI F n i i) n n) a b = addI F n (i + 1) a b:=fun a b hb=>by
 unfold upf cpyn addI
 by_cases ha:a = i
 ·subst ha
  rw [if_pos rfl]
  by_cases hbn:b < n
  ·rw [if_neg oM,if_pos hbn,if_pos hbn]
  ·rw [if_pos oM,if_neg hbn,if_pos oM]
 ·simp only [if_neg ha]
  by_cases hbn:b < n
  ·rw [if_pos hbn,if_pos hbn]
  ·rw [if_neg hbn,if_neg hbn]
   by_cases h:a < i
   ·rw [if_pos h,if_pos oM]
   ·rw [if_neg h,if_neg oM]
def uptoC (Q:Nat -> Nat -> Cx) (i k:Nat):Nat -> Nat -> Cx:=fun a b=>if b < k ∨ b = k /\ a < i then Q a b else .zero
theorem uptoC_zero (Q:Nat -> Nat -> Cx):(fun _ _=>Cx.zero) = uptoC Q 0 0:=by
 funext a b
 exact (if_neg oM).symm
theorem uptoC_next (Q:Nat -> Nat -> Cx) (i k:Nat):upm (uptoC Q i k) i k (Q i k) = uptoC Q (i + 1) k:=by
 funext a b
 unfold upm upf uptoC
 by_cases ha:a = i
 ·subst ha
  rw [if_pos rfl]
  by_cases hb:b = k
  ·subst hb
   rw [if_pos rfl,if_pos oM]
  ·rw [if_neg hb]
   by_cases h:b < k
   ·rw [if_pos oM,if_pos oM]
   ·rw [if_neg oM,if_neg oM]
 ·simp only [if_neg ha]
  by_cases h:b < k ∨ b = k /\ a < i
  ·rw [if_pos h,if_pos oM]
  ·rw [if_neg h,if_neg oM]
theorem uptoC_shut (Q:Nat -> Nat -> Cx) (n k:Nat):∀ a b,a < n -> uptoC Q n k a b = uptoC Q 0 (k + 1) a b:=fun a b ha=>by
 unfold uptoC
 by_cases h:b < k ∨ b = k /\ a < n
 ·rw [if_pos h,if_pos oM]
 ·rw [if_neg h,if_neg oM]
theorem uptoC_all (Q:Nat -> Nat -> Cx) (n:Nat):∀ a b,b < n -> uptoC Q 0 n a b = Q a b:=fun a b hb=>if_pos oM
theorem inverseN_any (w:World) (ga:Nat) (gi:Nat -> Nat) (n s:Nat) (F:Nat -> Nat -> Cx) (hA:MatAt w ga gi n n F) (hn:0 < n) (hn1:n <= 16) (hT:Tab w)
  (hS:∀ a b,a < n -> b < n -> Sz (F a b) s) (h5:szE s n + n * (szE s n + szX (szE s n) n + 2) + 5 * szE s n + szX (szE s n) n + 10 < 549755813888) :
  Calls Tryz.prog 18 #[.slice (some ⟨ga,0,none⟩) n n] w (RetInv w n F):=by
 have HA0:=hid hA
 have HT:=hid hT
 have hn0:¬ (n = 0):=oM
 have hs1:=(hS 0 0 hn hn).pos
 obtain ⟨G,hG⟩:∃ G,G = addI F n n:=⟨_,rfl⟩
 have hSG:∀ a b,a < n -> b < n + n -> Sz (G a b) s:=fun a b ha hb=>by
  rw [hG]
  unfold addI
  split
  ·exact hS a b ha (by assumption)
  ·try rw [if_pos ha]
   unfold idF
   split
   ·exact Sz.int (by rw [show (1:Int).natAbs = 1 from rfl,wl_one]; exact hs1) hs1
   ·exact Sz.zero hs1
 have hGF:∀ i j,j < n -> F i j = G i j:=fun i j hj=>by rw [hG]; exact (if_pos hj).symm
 have hstG:=(elimS_cols n n 0 F G 0 oM hGF).1
 have hdg:=elimS_diag n n 0 G 0 oM
 have hsz:=elimS_sz n (n + n) s oM n 0 G 0 oM hSG
 have hle:=(elimS_ok n n 0 G 0 oM).1
 obtain ⟨RR,hRR⟩:∃ RR,RR = (elimS n n 0 G 0).2.2:=⟨_,rfl⟩
 have hinv:invF n F = fun a b=>solX RR (n + b) n a:=by rw [hRR,hG]; rfl
 have HI:=hid (fun e w'=>show RetInv w n F e w' = (if (elimS n n 0 G 0).1 = n then RetMatE w n n (fun a b=>solX RR (n + b) n a) 0 e w' else e = .returned (.tuple #[.slice none 0 0,.int .i64 6]) /\ Below w.heap.size w w') by unfold RetInv; rw [hinv,hstG])
 have HSG:=hid hSG
 have HG:=hid hG
 have HLE:=hid hle
 have HDG:=hid hdg
 have HSZ:=hid hsz
 have HRR:=hid hRR
 clear hA hS hT hSG hGF hstG hdg hsz hG hinv hle hRR
 have hsq:=squareN_rect w ga gi n n F HA0.out hn oM oM
 have hdn:decide (n = n) = true:=sP
 rw [hdn] at hsq
 have HQ:=hid hsq
 clear hsq hdn
 go_enter Tryz.func18,Tryz.ntmps18
 go_wp2_with fail
 refine HQ.out.mono ?_
 rintro e W1 ⟨rfl,hb1⟩
 have KB1:=hid hb1
 clear hb1
 go_wp2_with fail
 refine (widenedN_any W1 ga gi n n n F (HA0.out.below KB1.out) oM oM).mono ?_
 rintro e W2 ⟨go,g2,rfl,hM,hP,hb2⟩
 have KB2:=hid (bT KB1.out hb2)
 have HM2:=hid (show MatAt W2 go g2 n (n + n) (addI F n 0) from hM.congr fun a b _ hb=>by
  unfold wideF cpyn addI
  by_cases h:b < n
  ·rw [if_pos ⟨Nat.zero_le _,oM⟩,if_pos h]; rfl
  ·rw [if_neg oM,if_neg h,if_neg oM])
 have HP:=hid (show MatSep w.heap.size go g2 n from ⟨Nat.le_trans KB1.out.size hP.lo,fun i hi=>Nat.le_trans KB1.out.size (hP.los i hi),hP.ne,hP.inj⟩)
 have hTB:1 < w.heap.size:=HT.out.1
 clear hM hP hb2 KB1 HQ
 go_wp2_with fail
 refine (identityN_any W2 n oM).mono ?_
 rintro e W3 ⟨gI,iI,rfl,hM,hP,hb3⟩
 have KB3:=hid (bT KB2.out hb3)
 have HI3:=hid hM
 have HM3:=hid (HM2.out.below hb3)
 have HNE:=hid (show (∀ i,i < n -> gI ≠ g2 i) /\ ∀ i a,i < n -> a < n -> iI a ≠ g2 i from ⟨fun i hi=>by have:=(HM2.out.row hi).lt; have:=hP.lo; omega,fun i a hi ha=>by have:=(HM2.out.row hi).lt; have:=hP.los a ha; omega⟩)
 clear hM hP hb3 KB2 HM2
 go_wp2
 go_loopw [25] (fun j wr=>∃ i:Nat,j = .int .i64 i /\ i <= n /\ MatAt wr go g2 n (n + n) (addI F n i) /\ MatAt wr gI iI n n idF /\ Below w.heap.size w wr) (fun j _=>n - (intOf j).toNat)
 case atStart=>exact ⟨0,rfl,oM,HM3.out,HI3.out,KB3.out⟩
 case round =>
  clear HM3 HI3 KB3
  obtain ⟨i,rfl,hin,hM,hId,hB⟩:=hrel
  have HM:=hid hM
  have HId:=hid hId
  have KB:=hid hB
  clear hM hB hId
  by_cases hi:i < n
  ·have hcell:=HM.out.cell hi
   have hcelI:=HId.out.cell hi
   obtain ⟨W4,hr4,hB4,hE4,hN4⟩:=copy_num wr 3 (g2 i) (iI i) (n + n) n n n n n _ _ (HId.out.row hi) (HM.out.row hi) rfl lR
   rw [Nat.mul_comm 5 n] at hr4
   have M4:=hid ((HM.out.setRow HP.out hi hB4 hE4 hN4).congr fun a b _ hb=>addI_next F n i a b hb)
   have I4:=hid (HId.out.butBox hB4 hE4 (HNE.out.1 i hi) fun a ha=>HNE.out.2 i a hi ha)
   have B4:=hid (hB4.below KB.out (HP.out.los i hi))
   clear hB4 hE4 hN4 HM HId KB
   go_wp2
   go_roundw
   case rel=>exact ⟨i + 1,by go_num,oM,M4.out,I4.out,B4.out⟩
   case measure=>exact mS
  ·obtain rfl:i = n:=oM
   have HM4:=hid (show MatAt wr go g2 i (i + i) G by rw [HG.out]; exact HM.out)
   clear HM HId
   go_wp2_with fail
   refine (eliminateN_any w.heap.size wr go g2 i (i + i) s G HM4.out HP.out hTB (HT.out.below KB.out) oM oM HSG.out oM).mono ?_
   rintro e W5 ⟨i4,rfl,hM,hP,hb⟩
   rw [<- HRR.out] at hM
   have HM5:=hid hM
   have KB5:=hid (KB.out.trans hb)
   clear hM hP hb KB HM4
   by_cases hst:(elimS i i 0 G 0).1 = i
   ·have HE:=hid (fun e w'=>(HI.out e w').trans (if_pos hst))
    have HDG2:=hid (fun a ha=>HDG.out hst a (Nat.zero_le _) ha)
    rw [<- HRR.out] at HDG2 HSZ
    have e1:((elimS i i 0 G 0).1:Int) = (i:Int):=by rw [hst]
    rw [e1]
    clear e1 hst HI HDG
    go_wp2_with fail
    refine (blankN_any W5 i i oM oM).mono ?_
    rintro e W6 ⟨gm,im,rfl,hM,hP,hb⟩
    have KB6:=hid (bT KB5.out hb)
    have H56:=hid (HM5.out.below hb)
    have HO:=hid hM
    have HPO:=hid (show MatSep w.heap.size gm im i from ⟨Nat.le_trans KB5.out.size hP.lo,fun a ha=>Nat.le_trans KB5.out.size (hP.los a ha),hP.ne,hP.inj⟩)
    have HNE2:=hid (show go ≠ gm /\ ∀ a b,a < i -> b < i -> i4 a ≠ im b from ⟨fun e=>by have:=HM5.out.lt; have:=hP.lo; omega,fun a b ha hb=>by have:=(HM5.out.row ha).lt; have:=hP.los b hb; omega⟩)
    have HNE3:=hid (show ∀ a,a < i -> go ≠ im a from fun a ha=>by have:=HM5.out.lt; have:=hP.los a ha; omega)
    clear hM hP hb KB5 HM5
    obtain ⟨n,hni⟩:∃ n,n = i:=⟨_,rfl⟩
    subst hni
    go_wp2
    go_loopw [51] (fun j wr=>∃ k:Nat,j = .int .i64 k /\ k <= n /\ MatAt wr gm im n n (uptoC (fun a b=>solX RR (n + b) n a) 0 k) /\ MatAt wr go i4 n (n + n) RR /\ Below w.heap.size w wr) (fun j _=>n - (intOf j).toNat)
    case atStart=>exact ⟨0,rfl,oM,by rw [<- uptoC_zero]; exact HO.out,H56.out,KB6.out⟩
    case round =>
     clear HO H56 KB6
     rename_i wr1
     obtain ⟨k,rfl,hkn,hM,hR,hB⟩:=hrel
     have HM:=hid hM
     have HR:=hid hR
     have KB:=hid hB
     clear hM hR hB
     by_cases hk:k < n
     ·have hr1:(n:Int) + (k:Int) < 32:=oM
      go_wp2_with fail
      refine (substituteN_any wr go i4 n (n + n) (n + k) (szE s n) RR HR.out oM oM oM (HT.out.below KB.out) HSZ.out HDG2.out h5).mono ?_
      rintro e W7 ⟨gx,rfl,hN,hgx,hb⟩
      have HX0:=hid hN
      have KB7:=hid (bT KB.out hb)
      have HM7:=hid (HM.out.below hb)
      have HR7:=hid (HR.out.below hb)
      have hxm:∀ a,a < n -> gx ≠ im a:=fun a ha=>by have:=(HM.out.row ha).lt; omega
      clear hN hb hgx HM HR KB
      go_wp2
      go_loopw [60] (fun j wr=>∃ i:Nat,j = .int .i64 i /\ i <= n /\ MatAt wr gm im n n (uptoC (fun a b=>solX RR (n + b) n a) i k) /\ MatAt wr go i4 n (n + n) RR /\ NBlk wr gx n (solX RR (n + k) n) /\ Below w.heap.size w wr) (fun j _=>n - (intOf j).toNat)
      case atStart=>exact ⟨0,rfl,oM,HM7.out,HR7.out,HX0.out,KB7.out⟩
      case round =>
       clear HM7 HR7 HX0 KB7
       rename_i wr2
       obtain ⟨i,rfl,hin,hM,hR,hN,hB⟩:=hrel
       have HM0:=hid hM
       have HR:=hid hR
       have HX:=hid hN
       have KB:=hid hB
       clear hM hR hB hN
       by_cases hi:i < n
       ·go_upto_region 19 with fail
        refine region_lin [.val (kIs (.int .i64 (i:Int))),.val (kIs (.pointer (some ⟨gx,5 * i,none⟩))),.val (kNum (solX RR (n + k) n i)),.box 35 zNum,.val (kIs (.int .i64 (i:Int))),.put 3 2]
         kR kR kR kR kR ⟨stab_is _,stab_is _,stab_num _,stab_is _,trivial⟩ sP ⟨?_,?_,?_,alloc_num,?_,store_num _,trivial⟩ ?_
        ·exact obp
        ·intro ts W hb hB hp K hK; simp only [fillT,zA,Nat.reduceAdd,sA,sB,sC] at hK ⊢; have HK:=hid hK; clear hK hp; refine ⟨?_⟩; go_simp; exact HK.out _ _ (by simp [kIs,Nat.mul_comm]) rfB
        ·intro ts W hb hB hp; have h1:ts 1 = _:=hp 1 kR; intro K hK; simp only [fillT,zA,Nat.reduceAdd,sA,sB,sC,h1] at hK ⊢; have HK:=hid hK; clear hK hp; refine ⟨?_⟩; refine wp_load_elem rfl rfl (HX.out.below hb) hi (fun v hv=>HK.out _ _ (hv) rfB)
        ·intro ts W hb hB hp; have h0:ts 0 = _:=hp 0 kR; intro K hK; simp only [fillT,zA,Nat.reduceAdd,sA,sB,sC,h0] at hK ⊢; have HK:=hid hK; clear hK hp; refine ⟨?_⟩; go_simp; exact HK.out _ _ rfl rfB
        intro ts W8 hb8 hh hap
        have e4:=held_is (hh 4 sP) rfl
        obtain ⟨g7,A7,n7,c7,p7,A7b,n7b,c7b,p7b,A7c,n7c,c7c,e3,lo7,z7,X7,N7⟩:=held_box (x:=solX RR (n + k) n i) (hh 3 sP) rfl (hh 5 sP) rfl (hh 2 sP) rfl
        simp only [fillT,zA,Nat.reduceAdd,sA,sB,sC,e4,e3]
        clear hh hap e4 e3
        generalize ts 0 = u0_W8 at *
        generalize ts 1 = u1_W8 at *
        generalize ts 2 = u2_W8 at *
        clear ts
        have HM:=hid (HM0.out.below hb8)
        have HR2:=hid (HR.out.below hb8)
        have HX2:=hid (HX.out.below hb8)
        have KB2:=hid (bT KB.out hb8)
        clear hb8 lo7 HM0 HR HX KB
        go_upto_region 20 with fail
        refine region_last [.val (kIs (.slice (some ⟨gm,0,none⟩) n n)),.val (kIs (.int .i64 (i:Int))),.val (kIs (.pointer (some ⟨gm,i,none⟩))),.val (kIs (.slice (some ⟨im i,0,none⟩) n n)),.val (kIs (.int .i64 (k:Int))),.val (kIs (.agg #[.slice A7 n7 c7,.bool p7,.slice A7b n7b c7b,.bool p7b,.slice A7c n7c c7c])),.val (kIs (.pointer (some ⟨(im i),5 * k,none⟩)))]
         kR kR kR kR kR ⟨Stab.b (stab_is _),Stab.b (stab_is _),Stab.b (stab_is _),Stab.b (stab_is _),Stab.b (stab_is _),Stab.b (stab_is _),Stab.b (stab_is _),trivial⟩ sP (ol:=_) rfl kR ⟨?_,?_,?_,?_,?_,?_,?_,trivial⟩ ?_
        ·exact obp
        ·exact obp
        ·intro ts W hb hB hp; have h0:ts 0 = _:=hp 0 kR; have h1:ts 1 = _:=hp 1 kR; intro K hK; simp only [fillT,zA,Nat.reduceAdd,sA,sB,sC,h0,h1] at hK ⊢; have HK:=hid hK; clear hK hp; refine ⟨?_⟩; go_simp; exact HK.out _ _ rfl rfB
        ·intro ts W hb hB hp; have h2:ts 2 = _:=hp 2 kR; intro K hK; simp only [fillT,zA,Nat.reduceAdd,sA,sB,sC,h2] at hK ⊢; have HK:=hid hK; clear hK hp; have hcell:=(HM.out.below hb).cell hi; refine ⟨?_⟩; go_simp; exact HK.out _ _ rfl rfB
        ·exact obp
        ·intro ts W hb hB hp K hK; simp only [fillT,zA,Nat.reduceAdd,sA,sB,sC] at hK ⊢; refine ⟨?_⟩; refine wp_load_row _ _ rfl (g7) rfl _ _ (0,0) _ ((hb.block _ (z7)).trans X7) Tryz.underlying35 rfl kR ?_; exact hK _ _ rfl rfB
        ·intro ts W hb hB hp; have h3:ts 3 = _:=hp 3 kR; have h4:ts 4 = _:=hp 4 kR; intro K hK; simp only [fillT,zA,Nat.reduceAdd,sA,sB,sC,h3,h4] at hK ⊢; have HK:=hid hK; clear hK hp; refine ⟨?_⟩; go_simp; exact HK.out _ _ (by simp [kIs,Nat.mul_comm]) rfB
        intro ts W3 hb3 hh hap K hK
        have e5:=held_is (hh 5 sP) rfl
        have e6:=held_is (hh 6 sP) rfl
        have HK:=hid hK
        clear hK hh hap
        simp only [fillT,zA,Nat.reduceAdd,sA,sB,sC,e5,e6]
        refine ⟨?_⟩
        refine wp_store_elem rfl (k:=k) rfl rfl ((HM.out.row hi).below hb3) hk (N7.below hb3) (fun W4 hbut hext hrow=>HK.out _ _ ?_)
        have M3:=(HM.out.below hb3).set HPO.out hi hbut hext hrow
        have e7:solX RR (n + k) n i = (fun a b=>solX RR (n + b) n a) i k:=rfl
        rw [e7,uptoC_next] at M3
        have M4:=hid M3
        have R4:=hid ((HR2.out.below hb3).butBox hbut hext (HNE3.out i hi) fun a ha=>HNE2.out.2 a i ha hi)
        have X4:=hid ((HX2.out.below hb3).but hbut hext (hxm i hi))
        have B4:=hid (hbut.below (bT KB2.out hb3) (HPO.out.los i hi))
        clear hbut hext hrow e5 e6 e7 X7 N7 z7 hb3 M3 HM HR2 HX2 KB2
        go_wp2
        go_roundw
        case rel=>exact ⟨i + 1,by go_num,oM,M4.out,R4.out,X4.out,B4.out⟩
        case measure=>exact mS
       ·obtain rfl:i = n:=oM
        have HM8:=hid (HM0.out.congr (F':=uptoC (fun a b=>solX RR (i + b) i a) 0 (k + 1)) fun a b ha _=>uptoC_shut _ i k a b ha)
        clear HM0
        go_wp2
        go_roundw
        case rel=>exact ⟨k + 1,by go_num,oM,HM8.out,HR.out,KB.out⟩
        case measure=>exact mS
     ·obtain rfl:k = n:=oM
      have HM8:=hid (HM.out.congr (F':=fun a b=>solX RR (k + b) k a) fun a b _ hb=>uptoC_all _ k a b hb)
      go_wp2
      go_ret2
      rw [HE.out]
      exact ⟨_,_,rfl,HM8.out,HPO.out,KB.out⟩
   ·have HE:=hid (fun e w'=>(HI.out e w').trans (if_neg hst))
    have hlt:((elimS i i 0 G 0).1:Int) < (i:Int):=by have:=HLE.out; omega
    clear hst
    go_wp2
    go_ret2
    rw [HE.out]
    exact ⟨rfl,KB5.out⟩
theorem inverseN_nil (w:World) (ga:Nat) (gi:Nat -> Nat) (F:Nat -> Nat -> Cx) (h:MatAt w ga gi 0 0 F) (hT:Tab w) :
  Calls Tryz.prog 18 #[.slice (some ⟨ga,0,none⟩) 0 0] w (RetMatE w 0 0 (fun _ _=>.zero) 0):=by
 have HA0:=hid h
 have HT:=hid hT
 clear h hT
 go_enter Tryz.func18,Tryz.ntmps18
 go_wp2_with fail
 refine (squareN_nil w _ _).mono ?_
 rintro e W1 ⟨rfl,hb1⟩
 have KB1:=hid hb1
 clear hb1
 go_wp2_with fail
 refine (widenedN_any W1 ga gi 0 0 0 F (HA0.out.below KB1.out) oM oM).mono ?_
 rintro e W2 ⟨go,g2,rfl,hM,hP,hb2⟩
 have KB2:=hid (bT KB1.out hb2)
 have HM2:=hid hM
 have HP:=hid (show MatSep w.heap.size go g2 0 from ⟨Nat.le_trans KB1.out.size hP.lo,fun i hi=>absurd hi oM,fun i hi=>absurd hi oM,fun i j hi=>absurd hi oM⟩)
 have hTB:1 < w.heap.size:=HT.out.1
 clear hM hP hb2 KB1
 go_wp2_with fail
 refine (identityN_any W2 0 oM).mono ?_
 rintro e W3 ⟨gI,iI,rfl,hM,hP,hb3⟩
 have KB3:=hid (bT KB2.out hb3)
 have HM3:=hid (HM2.out.below hb3)
 clear hM hP hb3 KB2 HM2
 go_wp2
 go_loopw [25] (fun j wr=>j = .int .i64 0 /\ MatAt wr go g2 0 0 (wideF F 0) /\ Below w.heap.size w wr) (fun _ _=>0)
 case atStart=>exact ⟨rfl,HM3.out,KB3.out⟩
 case round =>
  clear HM3 KB3
  obtain ⟨rfl,hM,hB⟩:=hrel
  have HM:=hid hM
  have KB:=hid hB
  clear hM hB
  go_wp2_with fail
  refine (eliminateN_any w.heap.size wr go g2 0 0 1 (wideF F 0) HM.out HP.out hTB (HT.out.below KB.out) oM oM (fun a b ha=>absurd ha oM) (by simp [szE])).mono ?_
  rintro e W5 ⟨i4,rfl,hM,hP,hb⟩
  have KB5:=hid (KB.out.trans hb)
  have e1:(elimS 0 0 0 (wideF F 0) 0).1 = 0:=rfl
  rw [e1]
  clear hM hP hb KB HM e1
  go_wp2_with fail
  refine (blankN_any W5 0 0 oM oM).mono ?_
  rintro e W6 ⟨gm,im,rfl,hM,hP,hb⟩
  have KB6:=hid (bT KB5.out hb)
  have HO:=hid hM
  have HPO:=hid (show MatSep w.heap.size gm im 0 from ⟨Nat.le_trans KB5.out.size hP.lo,fun i hi=>absurd hi oM,fun i hi=>absurd hi oM,fun i j hi=>absurd hi oM⟩)
  clear hM hP hb KB5
  go_wp2
  go_loopw [51] (fun j wr=>j = .int .i64 0 /\ MatAt wr gm im 0 0 (fun _ _=>.zero) /\ Below w.heap.size w wr) (fun _ _=>0)
  case atStart=>exact ⟨rfl,HO.out,KB6.out⟩
  case round =>
   clear HO KB6
   rename_i wr1
   obtain ⟨rfl,hM,hB⟩:=hrel
   have HM:=hid hM
   have KB:=hid hB
   clear hM hB
   go_wp2
   go_ret2
   exact ⟨_,_,rfl,HM.out,HPO.out,KB.out⟩
end Go.Proofs.YtffegeaflohfhaaGreatDoor
