import Derived.Test.YtffegeaflohfhaaGreatDoorS48
import Derived.Test.YtffegeaflohfhaaGreatDoorS49
import Derived.Test.YtffegeaflohfhaaGreatDoorS02
set_option linter.unusedVariables false
set_option linter.unusedSimpArgs false
set_option maxRecDepth 100000
set_option maxHeartbeats 8000000
namespace Go.Proofs.YtffegeaflohfhaaGreatDoor
open Go.RowKit
def RetSolN (w:World) (n:Nat) (ok:Prop) (x:Nat -> Cx) (e:Ending) (w':World):Prop :=
 Below w.heap.size w w' /\ ((ok /\ ∃ g,e = .returned (.tuple #[.slice (some ⟨g,0,none⟩) n n,.int .i64 0]) /\ NBlk w' g n x /\ w.heap.size <= g) ∨ (¬ ok /\ e = .returned (.tuple #[.slice none 0 0,.int .i64 6])))
theorem solveN_any (w:World) (ga gb:Nat) (gi:Nat -> Nat) (n s:Nat) (F:Nat -> Nat -> Cx) (f:Nat -> Cx) (hA:MatAt w ga gi n n F) (hB:NBlk w gb n f) (hn1:n <= 31) (hT:Tab w)
  (hS:∀ a b,a < n -> b < n -> Sz (F a b) s) (hSf:∀ a,a < n -> Sz (f a) s) (h5:szE s n + n * (szE s n + szX (szE s n) n + 2) + 5 * szE s n + szX (szE s n) n + 10 < 549755813888) :
  Calls Tryz.prog 13 #[.slice (some ⟨ga,0,none⟩) n n,.slice (some ⟨gb,0,none⟩) n n] w (RetSolN w n ((elimS n n 0 F 0).1 = n) (solX (elimS n n 0 (addC F n f n) 0).2.2 n n)):=by
 have HA0:=hid hA
 have HB0:=hid hB
 have HT:=hid hT
 obtain ⟨G,hG⟩:∃ G,G = addC F n f n:=⟨_,rfl⟩
 have hSG:∀ a b,a < n -> b < n + 1 -> Sz (G a b) s:=fun a b ha hb=>by
  rw [hG]
  unfold addC
  split
  ·exact hS a b ha (by assumption)
  ·first | exact hSf a ha | (rw [if_pos ha]; exact hSf a ha)
 have hGF:∀ i j,j < n -> F i j = G i j:=fun i j hj=>by rw [hG]; exact (if_pos hj).symm
 have hstG:=(elimS_cols n n 0 F G 0 oM hGF).1
 have hdg:=elimS_diag n n 0 G 0 oM
 have hle:=(elimS_ok n n 0 G 0 oM).1
 have hsz:=elimS_sz n (n + 1) s oM n 0 G 0 oM hSG
 have HSG:=hid hSG
 rw [<- hG,hstG]
 have HG:=hid hG
 have HLE:=hid hle
 have HDG:=hid hdg
 have HSZ:=hid hsz
 clear hA hB hS hSf hT hSG hGF hstG hdg hsz hG hle
 have HQ:=hid (squareN_all w _ n _ F (HA0.out.nss' n) oM fun _ _=>oM)
 have HV:=hid (show Sqr n (fun _=>n) from ⟨⟨oM,fun _ _=>⟨rfl,show n <= 32 by omega⟩⟩,by unfold colsOf; split <;> first | assumption | rfl⟩)
 go_enter Tryz.func13,Tryz.ntmps13
 go_wp2_with fail
 refine HQ.out.mono ?_
 rintro e W1 ⟨b1,rfl,q1,hb1⟩
 obtain rfl:b1 = true:=q1.2 HV.out
 have KB1:=hid hb1
 clear hb1 q1
 go_wp2_with fail
 refine (widenedN_any W1 ga gi n n 1 F (HA0.out.below KB1.out) oM oM).mono ?_
 rintro e W2 ⟨go,g2,rfl,hM,hP,hb2⟩
 have KB2:=hid (bT KB1.out hb2)
 have HM2:=hid (show MatAt W2 go g2 n (n + 1) (addC F n f 0) from hM.congr fun a b _ hb=>by
  unfold wideF cpyn addC
  by_cases h:b < n
  ·rw [if_pos ⟨Nat.zero_le _,oM⟩,if_pos h]; rfl
  ·rw [if_neg oM,if_neg h,if_neg oM])
 have HP:=hid (show MatSep w.heap.size go g2 n from ⟨Nat.le_trans KB1.out.size hP.lo,fun i hi=>Nat.le_trans KB1.out.size (hP.los i hi),hP.ne,hP.inj⟩)
 have hTB:1 < w.heap.size:=HT.out.1
 clear hM hP hb2 KB1 HQ
 go_wp2
 go_loopw [25] (fun j wr=>∃ i:Nat,j = .int .i64 i /\ i <= n /\ MatAt wr go g2 n (n + 1) (addC F n f i) /\ Below w.heap.size w wr) (fun j _=>n - (intOf j).toNat)
 case atStart=>exact ⟨0,rfl,oM,HM2.out,KB2.out⟩
 case round =>
  clear HM2 KB2
  obtain ⟨i,rfl,hin,hM,hB⟩:=hrel
  have HM:=hid hM
  have KB:=hid hB
  have HBB:=hid (HB0.out.below hB)
  clear hM hB
  by_cases hi:i < n
  ·have hcell:=HM.out.cell hi
   have hnn:n < n + 1:=oM
   have hnn2:(n:Int) < ((n + 1:Nat):Int):=oM
   have hnn3:(n:Int) < (n:Int) + 1:=oM
   go_upto_region 7 with fail
   refine region_last [.val (kIs (.slice (some ⟨(g2 i),0,none⟩) (n + 1) (n + 1))),.val (kIs (.slice (some ⟨ga,0,none⟩) n n)),.val (kIs (.int .i64 (n:Int))),.val (kIs (.slice (some ⟨gb,0,none⟩) n n)),.val (kIs (.int .i64 (i:Int))),.val (kIs (.pointer (some ⟨gb,5 * i,none⟩))),.val (kNum (f i)),.val (kIs (.pointer (some ⟨(g2 i),5 * n,none⟩)))]
    kR kR kR kR kR ⟨Stab.b (stab_is _),Stab.b (stab_is _),Stab.b (stab_is _),Stab.b (stab_is _),Stab.b (stab_is _),Stab.b (stab_is _),Stab.b (stab_num _),Stab.b (stab_is _),trivial⟩ sP (ol:=_) rfl kR ⟨?_,?_,?_,?_,?_,?_,?_,?_,trivial⟩ ?_
   ·exact obp
   ·exact obp
   ·intro ts W hb hB hp; have h1:ts 1 = _:=hp 1 kR; intro K hK; simp only [fillT,zA,Nat.reduceAdd,sA,sB,sC,h1] at hK ⊢; have HK:=hid hK; clear hK hp; refine ⟨?_⟩; go_simp; exact HK.out _ _ rfl rfB
   ·exact obp
   ·exact obp
   ·intro ts W hb hB hp; have h3:ts 3 = _:=hp 3 kR; have h4:ts 4 = _:=hp 4 kR; intro K hK; simp only [fillT,zA,Nat.reduceAdd,sA,sB,sC,h3,h4] at hK ⊢; have HK:=hid hK; clear hK hp; refine ⟨?_⟩; go_simp; exact HK.out _ _ (by simp [kIs,Nat.mul_comm]) rfB
   ·intro ts W hb hB hp; have h5:ts 5 = _:=hp 5 kR; intro K hK; simp only [fillT,zA,Nat.reduceAdd,sA,sB,sC,h5] at hK ⊢; have HK:=hid hK; clear hK hp; refine ⟨?_⟩; refine wp_load_elem rfl rfl (HBB.out.below hb) hi (fun v hv=>HK.out _ _ (hv) rfB)
   ·intro ts W hb hB hp; have h0:ts 0 = _:=hp 0 kR; have h2:ts 2 = _:=hp 2 kR; intro K hK; simp only [fillT,zA,Nat.reduceAdd,sA,sB,sC,h0,h2] at hK ⊢; have HK:=hid hK; clear hK hp; refine ⟨?_⟩; go_simp; exact HK.out _ _ (by simp [kIs,Nat.mul_comm]) rfB
   intro ts W3 hb3 hh hap K hK
   have h6:=held_num (hh 6 sP) rfl
   have e7:=held_is (hh 7 sP) rfl
   have HK:=hid hK
   clear hK hh hap
   simp only [fillT,zA,Nat.reduceAdd,sA,sB,sC,e7]
   refine ⟨?_⟩
   refine wp_store_elem rfl (k:=n) rfl rfl ((HM.out.row hi).below hb3) hnn h6 (fun W4 hbut hext hrow=>HK.out _ _ ?_)
   clear e7 h6
   have M3:=((HM.out.below hb3).set HP.out hi hbut hext hrow).congr fun a b _ hb=>addC_next F n i f a b hb
   have M4:=hid M3
   have B4:=hid (hbut.below (bT KB.out hb3) (HP.out.los i hi))
   clear hbut hext hrow hb3 M3 HM KB hcell hnn2 hnn3
   go_wp2
   go_roundw
   case rel=>exact ⟨i + 1,by go_num,oM,M4.out,B4.out⟩
   case measure=>exact mS
  ·obtain rfl:i = n:=oM
   have HM4:=hid (show MatAt wr go g2 i (i + 1) G by rw [HG.out]; exact HM.out)
   go_wp2_with fail
   refine (eliminateN_any w.heap.size wr go g2 i (i + 1) s G HM4.out HP.out hTB (HT.out.below KB.out) oM oM HSG.out oM).mono ?_
   rintro e W5 ⟨i4,rfl,hM,hP,hb⟩
   have HM5:=hid hM
   have KB5:=hid (KB.out.trans hb)
   clear hM hP hb KB HM4 HM
   by_cases hst:(elimS i i 0 G 0).1 = i
   ·have HDG2:=hid (fun a ha=>HDG.out hst a (Nat.zero_le _) ha)
    have e1:((elimS i i 0 G 0).1:Int) = (i:Int):=by rw [hst]
    have HST:=hid hst
    rw [e1]
    clear e1 hst HDG HLE
    go_wp2_with fail
    refine (substituteN_any W5 go i4 i (i + 1) i (szE s i) (elimS i i 0 G 0).2.2 HM5.out oM oM oM (HT.out.below KB5.out) HSZ.out HDG2.out h5).mono ?_
    rintro e W6 ⟨gx,rfl,hN,hgx,hb⟩
    have HN:=hid hN
    have KB6:=hid (bT KB5.out hb)
    have hgw:w.heap.size <= gx:=Nat.le_trans KB5.out.size hgx
    clear hN hb hgx
    go_wp2
    go_ret2
    exact ⟨KB6.out,.inl ⟨HST.out,gx,rfl,HN.out,hgw⟩⟩
   ·have hlt:((elimS i i 0 G 0).1:Int) < (i:Int):=by have:=HLE.out; omega
    have HST:=hid hst
    clear hst HDG HLE
    go_wp2
    go_ret2
    exact ⟨KB5.out,.inr ⟨HST.out,rfl⟩⟩
theorem rRank_bad (w:World) (v:Value) (n:Nat) (ml:Nat -> Nat) (F:Nat -> Nat -> Cx) (h:QSS w v n ml F) (hn:n <= 1099511627776) (hml:∀ i,i < n -> ml i <= 1099511627776) (hbad:¬ Vld n ml) :
  Calls Tryz.prog 22 #[v] w fun e w'=>e = .returned (.tuple #[.int .i64 0,.int .i64 4]) /\ Below w.heap.size w w':=by
 have HV:=hid (rValid_any w v n ml F h hn hml)
 have HX:=hid hbad
 obtain ⟨A,c,rfl,-⟩:=h
 clear hml hbad
 go_enter Tryz.func22,Tryz.ntmps22
 go_wp2_with fail
 refine HV.out.mono ?_
 rintro e W2 ⟨b,rfl,hb1,hb⟩
 obtain rfl:b = false:=by
  cases b
  ·rfl
  ·exact absurd (hb1.1 rfl) HX.out
 clear hb1 HV
 go_wp2
 go_ret2
 exact ⟨rfl,hb⟩
theorem rInverse_bad (w:World) (v:Value) (n:Nat) (ml:Nat -> Nat) (F:Nat -> Nat -> Cx) (h:QSS w v n ml F) (hn:n <= 1099511627776) (hml:∀ i,i < n -> ml i <= 1099511627776) (hbad:¬ Sqr n ml) :
  Calls Tryz.prog 19 #[v] w (RetNo w 4):=by
 have HQ:=hid (rSquare_any w v n ml F h hn hml)
 have HX:=hid hbad
 obtain ⟨A,c,rfl,-⟩:=h
 clear hml hbad
 go_enter Tryz.func19,Tryz.ntmps19
 go_wp2_with fail
 refine HQ.out.mono ?_
 rintro e W2 ⟨b,rfl,hb1,hb⟩
 obtain rfl:b = false:=by
  cases b
  ·rfl
  ·exact absurd (hb1.1 rfl) HX.out
 clear hb1 HQ
 go_wp2
 go_ret2
 exact ⟨rfl,hb⟩
theorem rSolve_bad (w:World) (v u:Value) (n p:Nat) (ml:Nat -> Nat) (F:Nat -> Nat -> Cx) (f:Nat -> Cx) (h:QSS w v n ml F) (h':QSl w u p f) (hn:n <= 1099511627776) (hml:∀ i,i < n -> ml i <= 1099511627776) (hbad:¬ (Sqr n ml /\ p = n)) :
  Calls Tryz.prog 15 #[v,u] w (RetNo w 4):=by
 have HQ:=hid (rSquare_any w v n ml F h hn hml)
 have HX:=hid hbad
 obtain ⟨A,c,rfl,-⟩:=h
 obtain ⟨A',c',rfl,-⟩:=h'
 clear hml hbad
 go_enter Tryz.func15,Tryz.ntmps15
 go_wp2_with fail
 refine HQ.out.mono ?_
 rintro e W2 ⟨b,rfl,hb1,hb⟩
 have X1:=hid hb1
 have B2:=hid hb
 clear hb hb1 HQ
 cases b
 ·go_wp2
  go_ret2
  exact ⟨rfl,B2.out⟩
 ·have hne:((p:Int) != (n:Int)) = true:=by
   have:p ≠ n:=fun e=>HX.out ⟨X1.out.1 (by trivial),e⟩
   simp; omega
  go_wp2
  go_ret2
  exact ⟨rfl,B2.out⟩
theorem rDet_bad (w:World) (v:Value) (n:Nat) (ml:Nat -> Nat) (F:Nat -> Nat -> Cx) (h:QSS w v n ml F) (hn:n <= 1099511627776) (hml:∀ i,i < n -> ml i <= 1099511627776) (hbad:¬ Sqr n ml) :
  Calls Tryz.prog 11 #[v] w (RetQE w .zero 4):=by
 have HQ:=hid (fun W (hb:Below w.heap.size w W)=>rSquare_any W v n ml F (h.below hb) hn hml)
 have HX:=hid hbad
 have HW:=hid (fun W=>rWhole_any 0 W oM oM)
 rw [Cx.int_zero'] at HW
 obtain ⟨A,c,rfl,-⟩:=h
 clear hml hbad
 go_enter Tryz.func11,Tryz.ntmps11
 go_upto_region 1 with fail
 obtain ⟨W1,hW1⟩:∃ W1:World,W1 = w.alloc (.cells zQ 42):=⟨_,rfl⟩
 have B1:Below w.heap.size w W1:=by rw [hW1]; exact below_alloc _ _
 have z0:W1.heap.size = w.heap.size + 1:=by rw [hW1]; simp
 have HX0:=hid (show W1.heap[w.heap.size]? = some (.cells zQ 42 (0,0)) by rw [hW1]; exact heap_alloc_new _ _)
 unfold zQ at hW1
 rw [<- hW1]
 clear hW1
 go_wp2_with fail
 refine (HQ.out W1 B1).mono ?_
 rintro e W2 ⟨b,rfl,hb1,hb⟩
 obtain rfl:b = false:=by
  cases b
  ·rfl
  ·exact absurd (hb1.1 rfl) HX.out
 have B2:=bT B1 hb
 have x2:=hid ((hb.block w.heap.size oM).trans HX0.out)
 have z2:w.heap.size < W2.heap.size:=by have:=hb.size; omega
 clear hb hb1 B1 HX0 HQ
 go_wp2_with fail
 refine (HW.out W2).mono ?_
 rintro e W3 ⟨u,rfl,hu,hb⟩
 obtain ⟨A1,n1,c1,p1,A2,n2,c2,p2,A3,n3,c3,ia,ib,id,rfl,-⟩:=hu.parts
 have x3:=(hb.block w.heap.size z2).trans x2.out
 unfold zQ at x3
 obtain ⟨d0,d1,d2,d3,d4,k0,k1,k2,k3,k4⟩:=bx5 x3
 have NB:=hid (NumBox.nilQ d0 d1 d2 d3 d4)
 have HU:=hid hu
 have KB:=hid (bT B2 hb)
 clear hb hu B2 x2 x3 HW
 go_wp2
 refine bodyPost_ret (v:=.tuple #[.agg #[.bool p1,.slice A1 n1 c1,.bool p2,.slice A2 n2 c2,.slice A3 n3 c3],.int .i64 4]) (by simp [results,Tryz.results11]; exact run_loadQe NB.out _ _ _ _ _ _) rfl ?_
 exact RetQE.box KB.out lR NB.out HU.out _ _ _ _ _
theorem h5s:∀ n,n <= 5 -> szE 2 n + n * (szE 2 n + szX (szE 2 n) n + 2) + 5 * szE 2 n + szX (szE 2 n) n + 10 < 549755813888:=dK
theorem h5e:∀ n,n <= 5 -> szE 2 (n + 1) < 549755813888 /\ 33 * (szE 2 n + 2) < 549755813888:=dK
def FineL (N:Nat) (H:Nat -> Cx):Prop:=N <= 40 /\ ∃ S,S < 549755813888 /\ ∀ i,i < N -> Sz (H i) S
def FineS (N:Nat) (ML:Nat -> Nat) (H:Nat -> Nat -> Cx):Prop:=N <= 40 /\ (∀ i,i < N -> ML i <= 40) /\ ∃ S,S < 549755813888 /\ ∀ i k,i < N -> k < ML i -> Sz (H i k) S
theorem FineS.nil:FineS 0 (fun _=>0) (fun _ _=>.zero):=⟨oM,fun i hi=>absurd hi oM,1,oM,fun i k hi=>absurd hi oM⟩
theorem FineL.nil:FineL 0 (fun _=>.zero):=⟨oM,1,oM,fun i hi=>absurd hi oM⟩
def LinN (w:World) (N:Nat) (H:Nat -> Cx) (k:Int) (e:Ending) (w':World):Prop:=∃ A c,e = .returned (.tuple #[.slice A N c,.int .i64 k]) /\ NSl w' (.slice A N c) N H /\ Below w.heap.size w w'
def LinQ (w:World) (N:Nat) (H:Nat -> Cx) (k:Int) (e:Ending) (w':World):Prop:=∃ A c,e = .returned (.tuple #[.slice A N c,.int .i64 k]) /\ QSl w' (.slice A N c) N H /\ Below w.heap.size w w'
theorem RetNo.linN {w w':World} {k:Int} {e:Ending} (h:RetNo w k e w'):LinN w 0 (fun _=>.zero) k e w':=⟨none,0,h.1,⟨none,0,rfl,fun h=>absurd h oM⟩,h.2⟩
theorem RetNo.linQ {w w':World} {k:Int} {e:Ending} (h:RetNo w k e w'):LinQ w 0 (fun _=>.zero) k e w':=⟨none,0,h.1,⟨none,0,rfl,fun h=>absurd h oM⟩,h.2⟩
theorem RetNo.bothN {w w':World} {k:Int} {e:Ending} (h:RetNo w k e w'):BothN w 0 (fun _=>0) (fun _ _=>.zero) k e w':=⟨none,0,h.1,NSS.nil _ _ _ _ _,h.2⟩
theorem RetNo.bothQ {w w':World} {k:Int} {e:Ending} (h:RetNo w k e w'):BothQ w 0 (fun _=>0) (fun _ _=>.zero) k e w':=⟨none,0,h.1,QSS.nil _ _ _ _ _,h.2⟩
theorem Sqr.all {n:Nat} {ml:Nat -> Nat} (h:Sqr n ml):∀ i,i < n -> ml i = n:=fun i hi=>by
 have h1:=(h.1.2 i hi).1
 have h2:=h.2
 unfold colsOf at h2
 rw [if_neg oM] at h2
 omega
theorem gj_is2 {n:Nat} {F:Nat -> Nat -> Cx} (k:Nat) (hk:n <= k) (G:Nat -> Nat -> Cx) (hG:∀ i j,j < n -> F i j = G i j) (b:Nat -> Cx) (hb:∀ i,i < n -> G i k = b i) :
  ((gjS n n 0 (augQ n F b)).1 = true ↔ (elimS n n 0 F 0).1 = n) /\ ((elimS n n 0 F 0).1 = n -> ∀ i,i < n -> ((gjS n n 0 (augQ n F b)).2 i n).div ((gjS n n 0 (augQ n F b)).2 i i) = solX (elimS n n 0 G 0).2.2 k n i):=by
 have e1:=(elimS_cols n n 0 F (augQ n F b) 0 oM fun i j hj=>by unfold augQ; rw [if_pos hj]).1
 have e2:=(elimS_cols n n 0 F G 0 oM hG).1
 have h1:=gj_elim n n 0 (augQ n F b) (augQ n F b) 0 oM fun _ _ _ _=>rfl
 rw [<- e1] at h1
 refine ⟨h1,fun ht i hi=>gj_is (fun a ha=>?_) (h1.2 ht) i hi⟩
 have hs:sm (fun j=>(G a j).mul (solX (elimS n n 0 G 0).2.2 k n j)) 0 n = G a k:=elim_solves hk G (by rw [<- e2]; exact ht) a ha
 unfold augQ
 rw [if_neg oM,<- hb a ha,<- hs]
 exact sm_congr _ _ fun j _ hj=>by rw [if_pos oM,hG a j oM]
section
variable {n:Nat} {ml:Nat -> Nat} {F:Nat -> Nat -> Cx} (hF:∀ i k,Sz (F i k) 2) (hn:n <= 40) (hml:∀ i,i < n -> ml i <= 40) (hV:Vld n ml -> n <= 5 /\ colsOf n ml <= 5)
include hF hn hml hV
theorem det_both:∃ (k:Int) (x:Cx) (S:Nat),Sz x S /\ S < 549755813888 /\
  (∀ w ga gi,Tab w -> RagN w ga gi n ml F -> Calls Tryz.prog 10 #[.slice (some ⟨ga,0,none⟩) n n] w (RetNumE w x k)) /\
  (∀ w ga gi,RagQ w ga gi n ml F -> Calls Tryz.prog 11 #[.slice (some ⟨ga,0,none⟩) n n] w (RetQE w x k)):=by
 by_cases hs:Sqr n ml
 ·have h5:=(hV hs.1).1
  have hall:=hs.all
  have e5:=(h5e n h5).2
  have hsz:=sz_prdQ (ech_sz n n 2 n 0 0 F false oM oM fun a b _ _=>hF a b) n lR
  refine ⟨0,detQ n (echQ n n 0 0 F false),(szE 2 n + 1) * n + 1,?_,?_,fun w ga gi hT h=>?_,fun w ga gi h=>?_⟩
  ·unfold detQ
   split
   ·exact hsz.neg
   ·exact hsz
  ·have:=Nat.mul_le_mul_left (szE 2 n + 1) h5
   omega
  ·rcases Nat.eq_zero_or_pos n with h0 | h0
   ·subst h0
    exact detN_nil w _ _
   ·rw [rdet_eq h0 F]
    exact detN_any w ga gi n 2 F (h.mat hall) h0 oM hT (fun a b _ _=>hF a b) e5
  ·exact rDet_any w ga gi n n 2 F (h.mat hall) oM (fun a b _ _=>hF a b) e5
 ·refine ⟨4,.zero,1,Sz.zero oM,oM,fun w ga gi _ h=>?_,fun w ga gi h=>?_⟩
  ·exact detN_bad w _ n ml F (h.nss _) oM (fun i hi=>Nat.le_trans (hml i hi) oM) hs
  ·exact rDet_bad w _ n ml F (h.qss _) oM (fun i hi=>Nat.le_trans (hml i hi) oM) hs
theorem rank_both:∃ (k r:Int),
  (∀ w ga gi,Tab w -> RagN w ga gi n ml F -> Calls Tryz.prog 21 #[.slice (some ⟨ga,0,none⟩) n n] w fun e w'=>e = .returned (.tuple #[.int .i64 r,.int .i64 k]) /\ Below w.heap.size w w') /\
  (∀ w ga gi,RagQ w ga gi n ml F -> Calls Tryz.prog 22 #[.slice (some ⟨ga,0,none⟩) n n] w fun e w'=>e = .returned (.tuple #[.int .i64 r,.int .i64 k]) /\ Below w.heap.size w w'):=by
 by_cases hv:Vld n ml
 ·obtain ⟨h5,c5⟩:=hV hv
  have e5:=(h5e n h5).2
  have hall:∀ i,i < n -> ml i = colsOf n ml:=fun i hi=>by
   unfold colsOf
   rw [if_neg oM]
   exact (hv.2 i hi).1
  have h0:0 < n ∨ colsOf n ml = 0:=by
   rcases Nat.eq_zero_or_pos n with h | h
   ·exact .inr (by unfold colsOf; rw [if_pos h])
   ·exact .inl h
  generalize colsOf n ml = m at *
  exact ⟨0,(rkS n m 0 0 F:Nat),fun w ga gi hT h=>rankR_any w ga gi n m 2 F (h.mat hall) h0 oM oM hT (fun a b _ _=>hF a b) oM,
   fun w ga gi h=>rRank_any w ga gi n m n 2 F (h.mat hall) h0 oM oM (fun a b _ _=>hF a b) oM⟩
 ·refine ⟨4,0,fun w ga gi _ h=>?_,fun w ga gi h=>?_⟩
  ·exact rankN_bad w _ n ml F (h.nss _) oM (fun i hi=>Nat.le_trans (hml i hi) oM) hv
  ·exact rRank_bad w _ n ml F (h.qss _) oM (fun i hi=>Nat.le_trans (hml i hi) oM) hv
theorem solve_both {p:Nat} {f:Nat -> Cx} (hf:∀ i,Sz (f i) 2):∃ (k:Int) (N:Nat) (H:Nat -> Cx),FineL N H /\
  (∀ w ga gi gb,Tab w -> RagN w ga gi n ml F -> NBlk w gb p f -> Calls Tryz.prog 13 #[.slice (some ⟨ga,0,none⟩) n n,.slice (some ⟨gb,0,none⟩) p p] w (LinN w N H k)) /\
  (∀ w ga gi gb,RagQ w ga gi n ml F -> QBlk w gb p (fun _=>True) f -> Calls Tryz.prog 15 #[.slice (some ⟨ga,0,none⟩) n n,.slice (some ⟨gb,0,none⟩) p p] w (LinQ w N H k)):=by
 by_cases hs:Sqr n ml /\ p = n
 ·obtain ⟨hs,rfl⟩:=hs
  have h5:=(hV hs.1).1
  have hall:=hs.all
  have e5:=h5s p h5
  have e6:=(h5e p h5).1
  obtain ⟨g1,g2⟩:=gj_is2 p lR (addC F p f p) (fun i j hj=>(if_pos hj).symm) f (fun i hi=>by unfold addC; rw [if_neg oM,if_pos hi])
  have hSG:∀ a b,a < p -> b < p + 1 -> Sz (addC F p f p a b) 2:=fun a b ha hb=>by
   unfold addC
   split
   ·exact hF a b
   ·first | exact hf a | (rw [if_pos ha]; exact hf a)
  have hsz:=elimS_sz p (p + 1) 2 oM p 0 _ 0 oM hSG
  have cN:=fun w ga gi gb hT h hb=>solveN_any w ga gb gi p 2 F f (RagN.mat h hall) hb oM hT (fun a b _ _=>hF a b) (fun a _=>hf a) e5
  have cQ:=fun w ga gi gb h hb=>rSolve_any w ga gb gi p p p 2 F f (RagQ.mat h hall) hb oM (fun x y _ _=>by unfold augQ; split <;> first | exact hF _ _ | exact hf _) e6
  by_cases ht:(elimS p p 0 F 0).1 = p
  ·refine ⟨0,p,solX (elimS p p 0 (addC F p f p) 0).2.2 p p,⟨oM,szX (szE 2 p) p,oM,fun i _=>solT_sz hsz oM oM p oM i⟩,fun w ga gi gb hT h hb=>(cN w ga gi gb hT h hb).mono ?_,fun w ga gi gb h hb=>(cQ w ga gi gb h hb).mono ?_⟩
   ·rintro e w' ⟨hb,⟨-,g,rfl,hN,-⟩ | ⟨hno,-⟩⟩
    ·exact ⟨_,_,rfl,⟨_,_,rfl,fun _=>⟨g,rfl,hN⟩⟩,hb⟩
    ·exact absurd ht hno
   ·rintro e w' ⟨hb,⟨-,g,-,rfl,hN⟩ | ⟨hno,-⟩⟩
    ·exact ⟨_,_,rfl,⟨_,_,rfl,fun _=>⟨g,rfl,hN.to fun j hj _=>⟨trivial,g2 ht j hj⟩⟩⟩,hb⟩
    ·rw [g1.2 ht] at hno; cases hno
  ·refine ⟨6,0,_,FineL.nil,fun w ga gi gb hT h hb=>(cN w ga gi gb hT h hb).mono ?_,fun w ga gi gb h hb=>(cQ w ga gi gb h hb).mono ?_⟩
   ·rintro e w' ⟨hb,⟨hy,-⟩ | ⟨-,he⟩⟩
    ·exact absurd hy ht
    ·exact RetNo.linN ⟨he,hb⟩
   ·rintro e w' ⟨hb,⟨hy,-⟩ | ⟨-,he⟩⟩
    ·exact absurd (g1.1 hy) ht
    ·exact RetNo.linQ ⟨he,hb⟩
 ·refine ⟨4,0,_,FineL.nil,fun w ga gi gb _ h hb=>?_,fun w ga gi gb h hb=>?_⟩
  ·exact (solveN_bad w _ _ n p ml F f (h.nss _) ⟨_,_,rfl,fun _=>⟨gb,rfl,hb⟩⟩ oM (fun i hi=>Nat.le_trans (hml i hi) oM) hs).mono fun _ _ h=>h.linN
  ·exact (rSolve_bad w _ _ n p ml F f (h.qss _) ⟨_,_,rfl,fun _=>⟨gb,rfl,hb⟩⟩ oM (fun i hi=>Nat.le_trans (hml i hi) oM) hs).mono fun _ _ h=>h.linQ
theorem inverse_both:∃ (k:Int) (N:Nat) (ML:Nat -> Nat) (H:Nat -> Nat -> Cx),FineS N ML H /\
  (∀ w ga gi,Tab w -> RagN w ga gi n ml F -> Calls Tryz.prog 18 #[.slice (some ⟨ga,0,none⟩) n n] w (BothN w N ML H k)) /\
  (∀ w ga gi,RagQ w ga gi n ml F -> Calls Tryz.prog 19 #[.slice (some ⟨ga,0,none⟩) n n] w (BothQ w N ML H k)):=by
 by_cases hs:Sqr n ml
 ·have h5:=(hV hs.1).1
  have hall:=hs.all
  have e5:=h5s n h5
  have e6:=(h5e n h5).1
  have cQ:=fun w ga gi h=>rInverse_any w ga gi n n 2 F (RagQ.mat h hall) oM (fun k hk x y hx hy=>by
   unfold augQ uptoI
   split
   ·exact hF x y
   ·split
    ·exact Sz.int (by rw [show (1:Int).natAbs = 1 from rfl,wl_one]; omega) oM
    ·exact Sz.zero oM) e6
  rcases Nat.eq_zero_or_pos n with h0 | h0
  ·subst h0
   refine ⟨0,0,_,_,FineS.nil,fun w ga gi hT h=>?_,fun w ga gi h=>(cQ w ga gi h).mono ?_⟩
   ·exact (inverseN_nil w ga gi F (h.mat hall) hT).mono fun e w' h=>h.both
   ·rintro e w' ⟨hb,⟨-,g,gi,rfl,hM⟩ | ⟨⟨k,hk,-⟩,-⟩⟩
    ·exact ⟨_,_,rfl,QSS.nil _ _ _ _ _,hb⟩
    ·omega
  have hSG:∀ a b,a < n -> b < n + n -> Sz (addI F n n a b) 2:=fun a b ha hb=>by
   unfold addI
   split
   ·exact hF a b
   ·try rw [if_pos ha]
    unfold idF
    split
    ·exact Sz.int (by rw [show (1:Int).natAbs = 1 from rfl,wl_one]; omega) oM
    ·exact Sz.zero oM
  have hsz:=elimS_sz n (n + n) 2 oM n 0 _ 0 oM hSG
  have g12:=fun k (hk:k < n)=>gj_is2 (n + k) oM (addI F n n) (fun i j hj=>(if_pos hj).symm) (uptoI n k) (fun i hi=>by
   unfold addI idF uptoI
   rw [if_neg oM,if_pos hi,show n + k - n = k by omega]
   by_cases e:i = k
   ·rw [if_pos e,if_pos ⟨e.symm,hk⟩]
   ·rw [if_neg e,if_neg oM])
  have cN:=fun w ga gi hT h=>inverseN_any w ga gi n 2 F (RagN.mat h hall) h0 oM hT (fun a b _ _=>hF a b) e5
  by_cases ht:(elimS n n 0 F 0).1 = n
  ·refine ⟨0,n,fun _=>n,invF n F,⟨oM,fun _ _=>by (show n <= 40); omega,szX (szE 2 n) n,oM,fun i k hi hk=>solT_sz hsz (by (show n + k < n + n); have:k < n:=hk; omega) oM n oM i⟩,fun w ga gi hT h=>(cN w ga gi hT h).mono ?_,fun w ga gi h=>(cQ w ga gi h).mono ?_⟩
   ·intro e w' hr
    unfold RetInv at hr
    rw [if_pos ht] at hr
    exact hr.both
   ·rintro e w' ⟨hb,⟨-,g,gi,rfl,hM⟩ | ⟨⟨k,hk,hno⟩,-⟩⟩
    ·exact ⟨_,_,rfl,(hM.congr fun i k hi hk=>(g12 k hk).2 ht i hi).qss _,hb⟩
    ·rw [(g12 k hk).1.2 ht] at hno; cases hno
  ·refine ⟨6,0,_,_,FineS.nil,fun w ga gi hT h=>(cN w ga gi hT h).mono ?_,fun w ga gi h=>(cQ w ga gi h).mono ?_⟩
   ·intro e w' hr
    unfold RetInv at hr
    rw [if_neg ht] at hr
    exact RetNo.bothN hr
   ·rintro e w' ⟨hb,⟨hy,-⟩ | ⟨-,he⟩⟩
    ·exact absurd ((g12 0 h0).1.1 (hy 0 h0)) ht
    ·exact RetNo.bothQ ⟨he,hb⟩
 ·refine ⟨4,0,_,_,FineS.nil,fun w ga gi _ h=>?_,fun w ga gi h=>?_⟩
  ·exact (inverseN_bad w _ n ml F (h.nss _) oM (fun i hi=>Nat.le_trans (hml i hi) oM) hs).mono fun _ _ h=>h.bothN
  ·exact (rInverse_bad w _ n ml F (h.qss _) oM (fun i hi=>Nat.le_trans (hml i hi) oM) hs).mono fun _ _ h=>h.bothQ
end
end Go.Proofs.YtffegeaflohfhaaGreatDoor
