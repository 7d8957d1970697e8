import Derived.Test.YtffegeaflohfhaaGreatDoorS28
import Derived.Test.YtffegeaflohfhaaGreatDoorS02
set_option linter.unusedVariables false
set_option linter.unusedSimpArgs false
set_option maxRecDepth 100000
set_option maxHeartbeats 8000000
namespace Go.Proofs.YtffegeaflohfhaaGreatDoor
open Go.RowKit
def RetMatE (w:World) (n m:Nat) (F:Nat -> Nat -> Cx) (k:Int) (e:Ending) (w':World):Prop:=∃ go gi,e = .returned (.tuple #[.slice (some ⟨go,0,none⟩) n n,.int .i64 k]) /\ MatAt w' go gi n m F /\ MatSep w.heap.size go gi n /\ Below w.heap.size w w'
def mulM (q:Nat) (F G:Nat -> Nat -> Cx):Nat -> Nat -> Cx:=fun i k=>sm (fun j=>(F i j).mul (G j k)) 0 q
def upto (Q:Nat -> Nat -> Cx) (i k:Nat):Nat -> Nat -> Cx:=fun a b=>if a < i ∨ a = i /\ b < k then Q a b else .zero
theorem upto_next (Q:Nat -> Nat -> Cx) (i k:Nat):upm (upto Q i k) i k (Q i k) = upto Q i (k + 1):=by
 funext a b
 unfold upm upf upto
 by_cases ha:a = i
 ·subst ha
  rw [if_pos rfl]
  by_cases hb:b = k
  ·subst hb
   rw [if_pos rfl,if_pos oM]
  ·rw [if_neg hb]
   by_cases h:b < k
   ·rw [if_pos oM,if_pos oM]
   ·rw [if_neg oM,if_neg oM]
 ·simp only [if_neg ha]
  by_cases h:a < i
  ·rw [if_pos oM,if_pos oM]
  ·rw [if_neg oM,if_neg oM]
theorem upto_shut (Q:Nat -> Nat -> Cx) (i m:Nat):∀ a b,b < m -> upto Q i m a b = upto Q (i + 1) 0 a b:=fun a b hb=>by
 unfold upto
 by_cases h:a < i ∨ a = i /\ b < m
 ·rw [if_pos h,if_pos oM]
 ·rw [if_neg h,if_neg oM]
theorem upto_zero (Q:Nat -> Nat -> Cx):(fun _ _=>Cx.zero) = upto Q 0 0:=by
 funext a b
 exact (if_neg oM).symm
theorem upto_all (Q:Nat -> Nat -> Cx) (n:Nat):∀ a b,a < n -> upto Q n 0 a b = Q a b:=fun a b ha=>if_pos oM
theorem sm_sz {f:Nat -> Cx} {p:Nat}:∀ (d j:Nat),(∀ i,j <= i -> i < j + d -> Sz (f i) p) -> Sz (sm f j d) (1 + d * (p + 1)):=by
 intro d
 induction d with
 | zero=>intro j _; exact Sz.zero oM
 | succ d ih =>
  intro j h
  have h1:=(h j lR oM).add (ih (j + 1) fun i a b=>h i oM oM)
  refine h1.mono ?_
  rw [Nat.add_mul]; omega
theorem sm_first (f:Nat -> Cx):sm f 0 1 = f 0:=by rw [sm,sm,Cx.add_zero]
theorem productN_any (w:World) (ga gb:Nat) (gi gj:Nat -> Nat) (n q m s s1:Nat) (F G:Nat -> Nat -> Cx) (hA:MatAt w ga gi n q F) (hB:MatAt w gb gj q m G) (hn:0 < n) (hq:0 < q) (hn1:n <= 32) (hq1:q <= 32) (hm1:m <= 32) (hT:Tab w)
  (hSF:∀ a b,a < n -> b < q -> Sz (F a b) s) (hSG:∀ a b,a < q -> b < m -> Sz (G a b) s1) (h5:33 * (s + s1 + 5) < 549755813888) :
  Calls Tryz.prog 69 #[.slice (some ⟨ga,0,none⟩) n n,.slice (some ⟨gb,0,none⟩) q q] w (RetMatE w n m (mulM q F G) 0):=by
 obtain ⟨Y,hYY⟩:∃ Y,Y = 1 + 32 * (s + s1 + 1 + 1):=⟨_,rfl⟩
 have hsy:∀ i k d,i < n -> k < m -> d <= q -> Sz (sm (fun j=>(F i j).mul (G j k)) 0 d) Y:=fun i k d hi hk hd=>by
  refine (sm_sz (p:=s + s1 + 1) d 0 fun j _ hj=>(hSF i j hi oM).mul (hSG j k oM hk)).mono ?_
  rw [hYY]
  have:=Nat.mul_le_mul_right (s + s1 + 1 + 1) (show d <= 32 by omega)
  omega
 have HY:=hid hsy
 have HA0:=hid hA
 have HB0:=hid hB
 have HSF:=hid hSF
 have HSG:=hid hSG
 have HT:=hid hT
 have hn0:¬ (n = 0):=oM
 clear hA hB hSF hSG hT hsy
 go_enter Tryz.func69,Tryz.ntmps69
 go_wp2_with fail
 refine (sidesN_rect w ga gi n q F HA0.out hn hn1 hq1).mono ?_
 rintro e W1 ⟨rfl,hb1⟩
 have KB1:=hid hb1
 clear hb1
 go_wp2_with fail
 refine (sidesN_rect W1 gb gj q m G (HB0.out.below KB1.out) hq hq1 hm1).mono ?_
 rintro e W2 ⟨rfl,hb2⟩
 have KB2:=hid (bT KB1.out hb2)
 clear hb2 KB1
 go_wp2_with fail
 refine (blankN_any W2 n m oM oM).mono ?_
 rintro e W3 ⟨g2,gi2,rfl,hM,hP,hb3⟩
 have KB3:=hid (bT KB2.out hb3)
 have HM0:=hid hM
 have HP:=hid (show MatSep w.heap.size g2 gi2 n from ⟨Nat.le_trans KB2.out.size hP.lo,fun i hi=>Nat.le_trans KB2.out.size (hP.los i hi),hP.ne,hP.inj⟩)
 clear hM hP hb3 KB2
 go_wp2
 go_loopw [46] (fun j wr=>∃ i:Nat,j = .int .i64 i /\ i <= n /\ MatAt wr g2 gi2 n m (upto (mulM q F G) i 0) /\ Below w.heap.size w wr) (fun j _=>n - (intOf j).toNat)
 case atStart=>exact ⟨0,rfl,oM,by rw [<- upto_zero]; exact HM0.out,KB3.out⟩
 case round =>
  clear HM0 KB3
  obtain ⟨i,rfl,hin,hM,hB⟩:=hrel
  have HM0:=hid hM
  have KB0:=hid hB
  clear hM hB
  by_cases hi:i < n
  ·have hrow:=HM0.out.cell hi
   go_wp2
   clear hrow
   go_loopw [53] (fun j wr=>∃ k:Nat,j = .int .i64 k /\ k <= m /\ MatAt wr g2 gi2 n m (upto (mulM q F G) i k) /\ Below w.heap.size w wr) (fun j _=>m - (intOf j).toNat)
   case atStart=>exact ⟨0,rfl,oM,HM0.out,KB0.out⟩
   case round =>
    rename_i wr1
    clear HM0 KB0
    obtain ⟨k,rfl,hkm,hM,hB⟩:=hrel
    have HM:=hid hM
    have KB:=hid hB
    have HA:=hid (HA0.out.below hB)
    have HB:=hid (HB0.out.below hB)
    clear hM hB
    by_cases hk:k < m
    ·have hq0:(0:Int) < (q:Int):=oM
     go_upto_region 12 with fail
     refine region_lin [.val (kIs (.slice (some ⟨ga,0,none⟩) n n)),.val (kIs (.int .i64 (i:Int))),.val (kIs (.pointer (some ⟨ga,i,none⟩))),.val (kIs (.slice (some ⟨gi i,0,none⟩) q q)),.val (kIs (.pointer (some ⟨(gi i),5 * 0,none⟩))),.val (kNum (F i 0)),.val (kIfc (F i 0)),.val (kIs (.slice (some ⟨gb,0,none⟩) q q)),.val (kIs (.pointer (some ⟨gb,0,none⟩))),.val (kIs (.slice (some ⟨gj 0,0,none⟩) m m)),.val (kIs (.int .i64 (k:Int))),.val (kIs (.pointer (some ⟨(gj 0),5 * k,none⟩))),.val (kNum (G 0 k)),.val (kNum ((F i 0).mul (G 0 k))),.box 35 zNum,.put 14 13]
      kR kR kR kR kR ⟨stab_is _,stab_is _,stab_is _,stab_is _,stab_is _,stab_num _,stab_ifc _,stab_is _,stab_is _,stab_is _,stab_is _,stab_is _,stab_num _,stab_num _,trivial⟩ sP ⟨?_,?_,?_,?_,?_,?_,?_,?_,?_,?_,?_,?_,?_,?_,alloc_num,store_num _,trivial⟩ ?_
     ·exact obp
     ·exact obp
     ·intro ts W hb hB hp; have h0:ts 0 = _:=hp 0 kR; have h1:ts 1 = _:=hp 1 kR; intro K hK; simp only [fillT,zA,Nat.reduceAdd,sA,sB,sC,h0,h1] at hK ⊢; have HK:=hid hK; clear hK hp; refine ⟨?_⟩; go_simp; exact HK.out _ _ rfl rfB
     ·intro ts W hb hB hp; have h2:ts 2 = _:=hp 2 kR; intro K hK; simp only [fillT,zA,Nat.reduceAdd,sA,sB,sC,h2] at hK ⊢; have HK:=hid hK; clear hK hp; have hcell:=(HA.out.below hb).cell hi; refine ⟨?_⟩; go_simp; exact HK.out _ _ rfl rfB
     ·intro ts W hb hB hp; have h3:ts 3 = _:=hp 3 kR; intro K hK; simp only [fillT,zA,Nat.reduceAdd,sA,sB,sC,h3] at hK ⊢; have HK:=hid hK; clear hK hp; refine ⟨?_⟩; go_simp; exact HK.out _ _ (by simp [kIs,Nat.mul_comm]) rfB
     ·intro ts W hb hB hp; have h4:ts 4 = _:=hp 4 kR; intro K hK; simp only [fillT,zA,Nat.reduceAdd,sA,sB,sC,h4] at hK ⊢; have HK:=hid hK; clear hK hp; refine ⟨?_⟩; refine wp_load_elem rfl rfl ((HA.out.row hi).below hb) hq (fun v hv=>HK.out _ _ (hv) rfB)
     ·intro ts W hb hB hp; have h5:IsNum W (ts 5) (F i 0):=hp 5 kR; intro K hK; simp only [fillT,zA,Nat.reduceAdd,sA,sB,sC] at hK ⊢; have HK:=hid hK; clear hK hp; refine ⟨?_⟩; go_simp; exact HK.out _ _ ⟨_,rfl,h5⟩ rfB
     ·exact obp
     ·intro ts W hb hB hp; have h7:ts 7 = _:=hp 7 kR; intro K hK; simp only [fillT,zA,Nat.reduceAdd,sA,sB,sC,h7] at hK ⊢; have HK:=hid hK; clear hK hp; refine ⟨?_⟩; go_simp; exact HK.out _ _ rfl rfB
     ·intro ts W hb hB hp; have h8:ts 8 = _:=hp 8 kR; intro K hK; simp only [fillT,zA,Nat.reduceAdd,sA,sB,sC,h8] at hK ⊢; have HK:=hid hK; clear hK hp; have hcell:=(HB.out.below hb).cell hq; refine ⟨?_⟩; go_simp; exact HK.out _ _ rfl rfB
     ·exact obp
     ·intro ts W hb hB hp; have h9:ts 9 = _:=hp 9 kR; have h10:ts 10 = _:=hp 10 kR; intro K hK; simp only [fillT,zA,Nat.reduceAdd,sA,sB,sC,h9,h10] at hK ⊢; have HK:=hid hK; clear hK hp; refine ⟨?_⟩; go_simp; exact HK.out _ _ (by simp [kIs,Nat.mul_comm]) rfB
     ·intro ts W hb hB hp; have h11:ts 11 = _:=hp 11 kR; intro K hK; simp only [fillT,zA,Nat.reduceAdd,sA,sB,sC,h11] at hK ⊢; have HK:=hid hK; clear hK hp; refine ⟨?_⟩; refine wp_load_elem rfl rfl ((HB.out.row hq).below hb) hk (fun v hv=>HK.out _ _ (hv) rfB)
     ·intro ts W hb hB hp; have h6:=hp 6 kR; have h12:IsNum W (ts 12) (G 0 k):=hp 12 kR; intro K hK; simp only [fillT,zA,Nat.reduceAdd,sA,sB,sC] at hK ⊢; have HK:=hid hK; clear hK hp; obtain ⟨u6,e6,n6⟩:=h6; refine ⟨?_⟩; refine wp_invoke rfl (T:=35) (v:=u6) (xs:=#[u6,ts 12]) e6 inv_Mul (by simp [Act.eval]) ?_; refine (mulN_any u6 _ (F i 0) (G 0 k) W n6 h12 (s) (s1) (HSF.out _ _ hi hq) (HSG.out _ _ hq hk) oM (HT.out.below (bT KB.out hb))).mono ?_; rintro e W9 ⟨r9,rfl,hr9,hb9⟩; exact HK.out _ _ hr9 hb9
     intro ts W4 hb4 hh hap
     obtain ⟨g7,A7,n7,c7,p7,A7b,n7b,c7b,p7b,A7c,n7c,c7c,e14,lo7,z7,X7,N7⟩:=held_box (x:=(F i 0).mul (G 0 k)) (hh 14 sP) rfl (hh 15 sP) rfl (hh 13 sP) rfl
     simp only [fillT,zA,Nat.reduceAdd,sA,sB,sC,e14]
     clear hh hap e14
     generalize ts 0 = u0_W4 at *
     generalize ts 1 = u1_W4 at *
     generalize ts 2 = u2_W4 at *
     generalize ts 3 = u3_W4 at *
     generalize ts 4 = u4_W4 at *
     generalize ts 5 = u5_W4 at *
     generalize ts 6 = u6_W4 at *
     generalize ts 7 = u7_W4 at *
     generalize ts 8 = u8_W4 at *
     generalize ts 9 = u9_W4 at *
     generalize ts 10 = u10_W4 at *
     generalize ts 11 = u11_W4 at *
     generalize ts 12 = u12_W4 at *
     generalize ts 13 = u13_W4 at *
     clear ts
     have hg7:∀ a,a < n -> gi2 a ≠ g7:=fun a ha=>by have:=(HM.out.row ha).lt; omega
     have hg27:g2 ≠ g7:=by have:=HM.out.lt; omega
     have hg7w:w.heap.size <= g7:=Nat.le_trans KB.out.size lo7
     have HM2:=hid (HM.out.below hb4)
     have KB2:=hid (bT KB.out hb4)
     have HX7:=hid X7
     have HN7:=hid (show IsNum W4 (.agg #[.slice A7 n7 c7,.bool p7,.slice A7b n7b c7b,.bool p7b,.slice A7c n7c c7c]) (sm (fun j=>(F i j).mul (G j k)) 0 1) by rw [sm_first]; exact N7)
     clear hb4 lo7 X7 z7 N7 HM KB HA HB
     go_wp2
     go_loopw [17] (fun j wr=>∃ jj:Nat,j = .int .i64 jj /\ 1 <= jj /\ jj <= q /\ MatAt wr g2 gi2 n m (upto (mulM q F G) i k) /\ BoxNum wr g7 (sm (fun j=>(F i j).mul (G j k)) 0 jj) /\ Below w.heap.size w wr) (fun j _=>q + 1 - (intOf j).toNat)
     case atStart=>exact ⟨1,rfl,oM,hq,HM2.out,.mk HX7.out HN7.out,KB2.out⟩
     case round =>
      rename_i wr2
      clear HM2 HX7 HN7 KB2
      obtain ⟨jj,rfl,hj1,hd,hM,⟨A7,n7,c7,p7,A7b,n7b,c7b,p7b,A7c,n7c,c7c,X7,N7⟩,hB⟩:=hrel
      have HM:=hid hM
      have KB2:=hid hB
      have HA:=hid (HA0.out.below hB)
      have HB:=hid (HB0.out.below hB)
      have z7:g7 < wr.heap.size:=heap_ge_none X7
      have hBr:w.heap.size <= wr.heap.size:=hB.size
      have hY:=HY.out i k jj hi hk hd
      clear hB hM
      by_cases hdq:jj < q
      ·go_upto_region 16 with fail
       refine region_last [.val (kIs (.agg #[.slice A7 n7 c7,.bool p7,.slice A7b n7b c7b,.bool p7b,.slice A7c n7c c7c])),.val (kIfc (sm (fun j=>(F i j).mul (G j k)) 0 jj)),.val (kIs (.slice (some ⟨ga,0,none⟩) n n)),.val (kIs (.int .i64 (i:Int))),.val (kIs (.pointer (some ⟨ga,i,none⟩))),.val (kIs (.slice (some ⟨gi i,0,none⟩) q q)),.val (kIs (.int .i64 (jj:Int))),.val (kIs (.pointer (some ⟨(gi i),5 * jj,none⟩))),.val (kNum (F i jj)),.val (kIfc (F i jj)),.val (kIs (.slice (some ⟨gb,0,none⟩) q q)),.val (kIs (.int .i64 (jj:Int))),.val (kIs (.pointer (some ⟨gb,jj,none⟩))),.val (kIs (.slice (some ⟨gj jj,0,none⟩) m m)),.val (kIs (.int .i64 (k:Int))),.val (kIs (.pointer (some ⟨(gj jj),5 * k,none⟩))),.val (kNum (G jj k)),.val (kNum ((F i jj).mul (G jj k))),.val (kNum ((sm (fun j=>(F i j).mul (G j k)) 0 jj).add ((F i jj).mul (G jj k))))]
        kR kR kR kR kR ⟨Stab.b (stab_is _),Stab.b (stab_ifc _),Stab.b (stab_is _),Stab.b (stab_is _),Stab.b (stab_is _),Stab.b (stab_is _),Stab.b (stab_is _),Stab.b (stab_is _),Stab.b (stab_num _),Stab.b (stab_ifc _),Stab.b (stab_is _),Stab.b (stab_is _),Stab.b (stab_is _),Stab.b (stab_is _),Stab.b (stab_is _),Stab.b (stab_is _),Stab.b (stab_num _),Stab.b (stab_num _),Stab.b (stab_num _),trivial⟩ sP (ol:=_) rfl kR ⟨?_,?_,?_,?_,?_,?_,?_,?_,?_,?_,?_,?_,?_,?_,?_,?_,?_,?_,?_,trivial⟩ ?_
       ·intro ts W hb hB hp K hK; simp only [fillT,zA,Nat.reduceAdd,sA,sB,sC] at hK ⊢; refine ⟨?_⟩; refine wp_load_row _ _ rfl (g7) rfl _ _ (0,0) _ ((hb.block _ (z7)).trans X7) Tryz.underlying35 rfl kR ?_; exact hK _ _ rfl rfB
       ·intro ts W hb hB hp; have h0:ts 0 = _:=hp 0 kR; intro K hK; simp only [fillT,zA,Nat.reduceAdd,sA,sB,sC,h0] at hK ⊢; have HK:=hid hK; clear hK hp; refine ⟨?_⟩; go_simp; exact HK.out _ _ ⟨_,rfl,N7.below hb⟩ rfB
       ·exact obp
       ·exact obp
       ·intro ts W hb hB hp; have h2:ts 2 = _:=hp 2 kR; have h3:ts 3 = _:=hp 3 kR; intro K hK; simp only [fillT,zA,Nat.reduceAdd,sA,sB,sC,h2,h3] at hK ⊢; have HK:=hid hK; clear hK hp; refine ⟨?_⟩; go_simp; exact HK.out _ _ rfl rfB
       ·intro ts W hb hB hp; have h4:ts 4 = _:=hp 4 kR; intro K hK; simp only [fillT,zA,Nat.reduceAdd,sA,sB,sC,h4] at hK ⊢; have HK:=hid hK; clear hK hp; have hcell:=(HA.out.below hb).cell hi; refine ⟨?_⟩; go_simp; exact HK.out _ _ rfl rfB
       ·exact obp
       ·intro ts W hb hB hp; have h5:ts 5 = _:=hp 5 kR; have h6:ts 6 = _:=hp 6 kR; intro K hK; simp only [fillT,zA,Nat.reduceAdd,sA,sB,sC,h5,h6] at hK ⊢; have HK:=hid hK; clear hK hp; refine ⟨?_⟩; go_simp; exact HK.out _ _ (by simp [kIs,Nat.mul_comm]) rfB
       ·intro ts W hb hB hp; have h7:ts 7 = _:=hp 7 kR; intro K hK; simp only [fillT,zA,Nat.reduceAdd,sA,sB,sC,h7] at hK ⊢; have HK:=hid hK; clear hK hp; refine ⟨?_⟩; refine wp_load_elem rfl rfl ((HA.out.row hi).below hb) hdq (fun v hv=>HK.out _ _ (hv) rfB)
       ·intro ts W hb hB hp; have h8:IsNum W (ts 8) (F i jj):=hp 8 kR; intro K hK; simp only [fillT,zA,Nat.reduceAdd,sA,sB,sC] at hK ⊢; have HK:=hid hK; clear hK hp; refine ⟨?_⟩; go_simp; exact HK.out _ _ ⟨_,rfl,h8⟩ rfB
       ·exact obp
       ·exact obp
       ·intro ts W hb hB hp; have h10:ts 10 = _:=hp 10 kR; have h11:ts 11 = _:=hp 11 kR; intro K hK; simp only [fillT,zA,Nat.reduceAdd,sA,sB,sC,h10,h11] at hK ⊢; have HK:=hid hK; clear hK hp; refine ⟨?_⟩; go_simp; exact HK.out _ _ rfl rfB
       ·intro ts W hb hB hp; have h12:ts 12 = _:=hp 12 kR; intro K hK; simp only [fillT,zA,Nat.reduceAdd,sA,sB,sC,h12] at hK ⊢; have HK:=hid hK; clear hK hp; have hcell:=(HB.out.below hb).cell hdq; refine ⟨?_⟩; go_simp; exact HK.out _ _ rfl rfB
       ·exact obp
       ·intro ts W hb hB hp; have h13:ts 13 = _:=hp 13 kR; have h14:ts 14 = _:=hp 14 kR; intro K hK; simp only [fillT,zA,Nat.reduceAdd,sA,sB,sC,h13,h14] at hK ⊢; have HK:=hid hK; clear hK hp; refine ⟨?_⟩; go_simp; exact HK.out _ _ (by simp [kIs,Nat.mul_comm]) rfB
       ·intro ts W hb hB hp; have h15:ts 15 = _:=hp 15 kR; intro K hK; simp only [fillT,zA,Nat.reduceAdd,sA,sB,sC,h15] at hK ⊢; have HK:=hid hK; clear hK hp; refine ⟨?_⟩; refine wp_load_elem rfl rfl ((HB.out.row hdq).below hb) hk (fun v hv=>HK.out _ _ (hv) rfB)
       ·intro ts W hb hB hp; have h9:=hp 9 kR; have h16:IsNum W (ts 16) (G jj k):=hp 16 kR; intro K hK; simp only [fillT,zA,Nat.reduceAdd,sA,sB,sC] at hK ⊢; have HK:=hid hK; clear hK hp; obtain ⟨u9,e9,n9⟩:=h9; refine ⟨?_⟩; refine wp_invoke rfl (T:=35) (v:=u9) (xs:=#[u9,ts 16]) e9 inv_Mul (by simp [Act.eval]) ?_; refine (mulN_any u9 _ (F i jj) (G jj k) W n9 h16 (s) (s1) (HSF.out _ _ hi hdq) (HSG.out _ _ hdq hk) oM (HT.out.below (bT KB2.out hb))).mono ?_; rintro e W9 ⟨r9,rfl,hr9,hb9⟩; exact HK.out _ _ hr9 hb9
       ·intro ts W hb hB hp; have h1:=hp 1 kR; have h17:IsNum W (ts 17) ((F i jj).mul (G jj k)):=hp 17 kR; intro K hK; simp only [fillT,zA,Nat.reduceAdd,sA,sB,sC] at hK ⊢; have HK:=hid hK; clear hK hp; obtain ⟨u1,e1,n1⟩:=h1; refine ⟨?_⟩; refine wp_invoke rfl (T:=35) (v:=u1) (xs:=#[u1,ts 17]) e1 inv_Add (by simp [Act.eval]) ?_; refine (addN_any u1 _ (sm (fun j=>(F i j).mul (G j k)) 0 jj) ((F i jj).mul (G jj k)) W n1 h17 (Y) (s + s1 + 1) hY (Sz.mul (HSF.out _ _ hi hdq) (HSG.out _ _ hdq hk)) oM (HT.out.below (bT KB2.out hb))).mono ?_; rintro e W9 ⟨r9,rfl,hr9,hb9⟩; exact HK.out _ _ hr9 hb9
       intro ts W3 hb3 hh hap K hK
       have h18:IsNum W3 (ts 18) ((sm (fun j=>(F i j).mul (G j k)) 0 jj).add ((F i jj).mul (G jj k))):=held_num (hh 18 sP) rfl
       obtain ⟨A8,n8,c8,p8,A8b,n8b,c8b,p8b,A8c,n8c,c8c,ia,ib,id,hq,-⟩:=h18.parts
       have Y7:=(hb3.block g7 z7).trans X7
       have HK:=hid hK
       simp only [fillT,zA,Nat.reduceAdd,sA,sB,sC,hq]
       rw [hq] at h18
       clear hh hap hq hK
       refine ⟨?_⟩
       refine wp_store_row _ _ _ rfl g7 _ rfl rfl _ _ Y7 kR rfl (by simp [Value.oneCell']) (HK.out _ _ ?_)
       have hput:=putAt_setRow (cs:=#[.slice A8 n8 c8,.bool p8,.slice A8b n8b c8b,.bool p8b,.slice A8c n8c c8c]) Y7
       have hext:=hput.ext Y7 rfl
       have X8:=hput.here
       have N8:=h18.ext hext
       have hbut:But W3 (W3.setRow g7 #[.slice A8 n8 c8,.bool p8,.slice A8b n8b c8b,.bool p8b,.slice A8c n8c c8c]) g7:=But.setRow _ _ _
       generalize W3.setRow g7 #[.slice A8 n8 c8,.bool p8,.slice A8b n8b c8b,.bool p8b,.slice A8c n8c c8c] = W4 at *
       clear hput
       have M4:=hid ((HM.out.below hb3).butBox hbut hext hg27 hg7)
       have B4:=hid (hbut.below (bT KB2.out hb3) oM)
       have X84:=hid X8
       have N84:=hid (show IsNum W4 (.agg #[.slice A8 n8 c8,.bool p8,.slice A8b n8b c8b,.bool p8b,.slice A8c n8c c8c]) (sm (fun j=>(F i j).mul (G j k)) 0 (jj + 1)) by rw [sm_last,Nat.zero_add]; exact N8)
       clear hbut hext X8 Y7 hb3 X7 N7 N8 z7 hY h18
       go_wp2
       go_roundw
       case rel=>exact ⟨jj + 1,by go_num,oM,hdq,M4.out,.mk X84.out N84.out,B4.out⟩
       case measure=>exact mS
      ·obtain rfl:q = jj:=oM
       go_upto_region 17 with fail
       refine region_last [.val (kIs (.slice (some ⟨(gi2 i),0,none⟩) m m)),.val (kIs (.int .i64 (k:Int))),.val (kIs (.agg #[.slice A7 n7 c7,.bool p7,.slice A7b n7b c7b,.bool p7b,.slice A7c n7c c7c])),.val (kIs (.pointer (some ⟨(gi2 i),5 * k,none⟩)))]
        kR kR kR kR kR ⟨Stab.b (stab_is _),Stab.b (stab_is _),Stab.b (stab_is _),Stab.b (stab_is _),trivial⟩ sP (ol:=_) rfl kR ⟨?_,?_,?_,?_,trivial⟩ ?_
       ·exact obp
       ·exact obp
       ·intro ts W hb hB hp K hK; simp only [fillT,zA,Nat.reduceAdd,sA,sB,sC] at hK ⊢; refine ⟨?_⟩; refine wp_load_row _ _ rfl (g7) rfl _ _ (0,0) _ ((hb.block _ (z7)).trans X7) Tryz.underlying35 rfl kR ?_; exact hK _ _ rfl rfB
       ·intro ts W hb hB hp; have h0:ts 0 = _:=hp 0 kR; have h1:ts 1 = _:=hp 1 kR; intro K hK; simp only [fillT,zA,Nat.reduceAdd,sA,sB,sC,h0,h1] at hK ⊢; have HK:=hid hK; clear hK hp; refine ⟨?_⟩; go_simp; exact HK.out _ _ (by simp [kIs,Nat.mul_comm]) rfB
       intro ts W3 hb3 hh hap K hK
       have e3:=held_is (hh 3 sP) rfl
       have e2:=held_is (hh 2 sP) rfl
       have HK:=hid hK
       clear hK hh hap
       simp only [fillT,zA,Nat.reduceAdd,sA,sB,sC,e3,e2]
       refine ⟨?_⟩
       refine wp_store_elem rfl (k:=k) rfl rfl ((HM.out.row hi).below hb3) hk (N7.below hb3) (fun W4 hbut hext hrow=>HK.out _ _ ?_)
       have M3:=(HM.out.below hb3).set HP.out hi hbut hext hrow
       have e5:sm (fun j=>(F i j).mul (G j k)) 0 q = mulM q F G i k:=rfl
       rw [e5,upto_next] at M3
       have M4:=hid M3
       have B4:=hid (hbut.below (bT KB2.out hb3) (HP.out.los i hi))
       clear hbut hext hrow e3 e2 e5 X7 N7 z7 hY hb3 M3
       go_wp2
       go_roundw
       case rel=>exact ⟨k + 1,by go_num,oM,M4.out,B4.out⟩
       case measure=>exact mS
    ·obtain rfl:k = m:=oM
     have HM3:=hid (HM.out.congr (F':=upto (mulM q F G) (i + 1) 0) fun a b _ hb=>upto_shut _ i k a b hb)
     go_wp2
     go_roundw
     case rel=>exact ⟨i + 1,by go_num,oM,HM3.out,KB.out⟩
     case measure=>exact mS
  ·obtain rfl:i = n:=oM
   have HM3:=hid (HM0.out.congr (F':=mulM q F G) fun a b ha _=>upto_all _ i a b ha)
   go_wp2
   go_ret2
   exact ⟨_,_,rfl,HM3.out,HP.out,KB0.out⟩
theorem MatAt.setSame {W:World} {go:Nat} {gi:Nat -> Nat} {n m:Nat} {F:Nat -> Nat -> Cx} (h:MatAt W go gi n m F) {B:Nat} (hs:MatSep B go gi n) {r:Nat} (hr:r < n):MatAt (W.setCell ⟨go,r,none⟩ (.slice (some ⟨gi r,0,none⟩) m m)) go gi n m F:=by
 obtain ⟨cs0,h0,hodd⟩:=h.oddOut
 obtain ⟨cs,h1,h2,h3,h4⟩:=h
 rw [h0] at h1
 have e:cs0 = cs:=by cases h1; rfl
 subst e
 obtain ⟨hb,hh⟩:=setCell_but (i:=r) h0 (.slice (some ⟨gi r,0,none⟩) m m)
 have hext:=hb.ext h0 hodd
 have e:cs0.setIfInBounds r (.slice (some ⟨gi r,0,none⟩) m m) = cs0:=by
  apply Array.ext
  ·simp
  ·intro i hi1 hi2
   rw [Array.getElem_setIfInBounds]
   split
   ·rename_i e
    subst e
    have:=h3 r hr
    rw [Array.getElem?_eq_getElem hi2] at this
    exact (Option.some.inj this).symm
   ·rfl
 rw [e] at hh
 exact ⟨cs0,hh,h2,h3,fun i hi=>(h4 i hi).but hb hext (hs.ne i hi)⟩
def adjM (F:Nat -> Nat -> Cx):Nat -> Nat -> Cx:=fun i j=>(F j i).conj
def upcol (Q:Nat -> Nat -> Cx) (i k:Nat):Nat -> Nat -> Cx:=fun a b=>if b < k ∨ b = k /\ a < i then Q a b else .zero
theorem upcol_zero (Q:Nat -> Nat -> Cx):(fun _ _=>Cx.zero) = upcol Q 0 0:=by
 funext a b
 exact (if_neg oM).symm
theorem upcol_next (Q:Nat -> Nat -> Cx) (i k:Nat):upm (upcol Q i k) i k (Q i k) = upcol Q (i + 1) k:=by
 funext a b
 unfold upm upf upcol
 by_cases ha:a = i
 ·subst ha
  rw [if_pos rfl]
  by_cases hb:b = k
  ·subst hb
   rw [if_pos rfl,if_pos oM]
  ·rw [if_neg hb]
   by_cases h:b < k
   ·rw [if_pos oM,if_pos oM]
   ·rw [if_neg oM,if_neg oM]
 ·simp only [if_neg ha]
  by_cases h:b < k ∨ b = k /\ a < i
  ·rw [if_pos h,if_pos oM]
  ·rw [if_neg h,if_neg oM]
theorem upcol_shut (Q:Nat -> Nat -> Cx) (n k:Nat):∀ a b,a < n -> upcol Q n k a b = upcol Q 0 (k + 1) a b:=fun a b ha=>by
 unfold upcol
 by_cases h:b < k ∨ b = k /\ a < n
 ·rw [if_pos h,if_pos oM]
 ·rw [if_neg h,if_neg oM]
theorem upcol_all (Q:Nat -> Nat -> Cx) (n:Nat):∀ a b,b < n -> upcol Q 0 n a b = Q a b:=fun a b hb=>if_pos oM
theorem adjointN_any (w:World) (ga:Nat) (gi:Nat -> Nat) (n m:Nat) (F:Nat -> Nat -> Cx) (hA:MatAt w ga gi n m F) (hn:0 < n) (hn1:n <= 32) (hm1:m <= 32) :
  Calls Tryz.prog 68 #[.slice (some ⟨ga,0,none⟩) n n] w (RetMatE w m n (adjM F) 0):=by
 have HA0:=hid hA
 have hn0:¬ (n = 0):=oM
 clear hA
 go_enter Tryz.func68,Tryz.ntmps68
 go_wp2_with fail
 refine (sidesN_rect w ga gi n m F HA0.out hn hn1 hm1).mono ?_
 rintro e W1 ⟨rfl,hb1⟩
 have KB1:=hid hb1
 clear hb1
 go_wp2_with fail
 refine (blankN_any W1 m n oM oM).mono ?_
 rintro e W3 ⟨g2,i2,rfl,hM,hP,hb3⟩
 have KB3:=hid (bT KB1.out hb3)
 have HM0:=hid hM
 have HP:=hid (show MatSep w.heap.size g2 i2 m from ⟨Nat.le_trans KB1.out.size hP.lo,fun i hi=>Nat.le_trans KB1.out.size (hP.los i hi),hP.ne,hP.inj⟩)
 clear hM hP hb3 KB1
 go_wp2
 go_loopw [25] (fun j wr=>∃ i:Nat,j = .int .i64 i /\ i <= n /\ MatAt wr g2 i2 m n (upcol (adjM F) 0 i) /\ Below w.heap.size w wr) (fun j _=>n - (intOf j).toNat)
 case atStart=>exact ⟨0,rfl,oM,by rw [<- upcol_zero]; exact HM0.out,KB3.out⟩
 case round =>
  clear HM0 KB3
  obtain ⟨i,rfl,hin,hM,hB⟩:=hrel
  have HM0:=hid hM
  have KB0:=hid hB
  have hrow0:=(HA0.out.below hB)
  clear hM hB
  by_cases hi:i < n
  ·have hrow:=hrow0.cell hi
   clear hrow0
   go_wp2
   clear hrow
   go_loopw [32] (fun j wr=>∃ k:Nat,j = .int .i64 k /\ k <= m /\ MatAt wr g2 i2 m n (upcol (adjM F) k i) /\ Below w.heap.size w wr) (fun j _=>m - (intOf j).toNat)
   case atStart=>exact ⟨0,rfl,oM,HM0.out,KB0.out⟩
   case round =>
    rename_i wr1
    clear HM0 KB0
    obtain ⟨k,rfl,hkm,hM,hB⟩:=hrel
    have HM0:=hid hM
    have KB0:=hid hB
    have HA:=hid (HA0.out.below hB)
    clear hM hB
    by_cases hk:k < m
    ·go_upto_region 10 with fail
     refine region_lin [.val (kIs (.int .i64 (k:Int))),.val (kIs (.pointer (some ⟨(gi i),5 * k,none⟩))),.val (kNum (F i k)),.box 35 zNum,.val (kIs (.int .i64 (k:Int))),.put 3 2]
      kR kR kR kR kR ⟨stab_is _,stab_is _,stab_num _,stab_is _,trivial⟩ sP ⟨?_,?_,?_,alloc_num,?_,store_num _,trivial⟩ ?_
     ·exact obp
     ·intro ts W hb hB hp K hK; simp only [fillT,zA,Nat.reduceAdd,sA,sB,sC] at hK ⊢; have HK:=hid hK; clear hK hp; refine ⟨?_⟩; go_simp; exact HK.out _ _ (by simp [kIs,Nat.mul_comm]) rfB
     ·intro ts W hb hB hp; have h1:ts 1 = _:=hp 1 kR; intro K hK; simp only [fillT,zA,Nat.reduceAdd,sA,sB,sC,h1] at hK ⊢; have HK:=hid hK; clear hK hp; refine ⟨?_⟩; refine wp_load_elem rfl rfl ((HA.out.row hi).below hb) hk (fun v hv=>HK.out _ _ (hv) rfB)
     ·intro ts W hb hB hp; have h0:ts 0 = _:=hp 0 kR; intro K hK; simp only [fillT,zA,Nat.reduceAdd,sA,sB,sC,h0] at hK ⊢; have HK:=hid hK; clear hK hp; refine ⟨?_⟩; go_simp; exact HK.out _ _ rfl rfB
     intro ts W8 hb8 hh hap
     have e4:=held_is (hh 4 sP) rfl
     obtain ⟨g7,A7,n7,c7,p7,A7b,n7b,c7b,p7b,A7c,n7c,c7c,e3,lo7,z7,X7,N7⟩:=held_box (x:=F i k) (hh 3 sP) rfl (hh 5 sP) rfl (hh 2 sP) rfl
     simp only [fillT,zA,Nat.reduceAdd,sA,sB,sC,e4,e3]
     clear hh hap e4 e3
     generalize ts 0 = u0_W8 at *
     generalize ts 1 = u1_W8 at *
     generalize ts 2 = u2_W8 at *
     clear ts
     have HM:=hid (HM0.out.below hb8)
     have KB2:=hid (bT KB0.out hb8)
     clear hb8 lo7 HM0 KB0 HA
     go_upto_region 11 with fail
     refine region_last [.val (kIs (.slice (some ⟨g2,0,none⟩) m m)),.val (kIs (.int .i64 (k:Int))),.val (kIs (.pointer (some ⟨g2,k,none⟩))),.val (kIs (.slice (some ⟨i2 k,0,none⟩) n n)),.val (kIs (.int .i64 (i:Int))),.val (kIs (.agg #[.slice A7 n7 c7,.bool p7,.slice A7b n7b c7b,.bool p7b,.slice A7c n7c c7c])),.val (kIfc (F i k)),.val (kNum ((F i k).conj)),.val (kIs (.pointer (some ⟨(i2 k),5 * i,none⟩)))]
      kR kR kR kR kR ⟨Stab.b (stab_is _),Stab.b (stab_is _),Stab.b (stab_is _),Stab.b (stab_is _),Stab.b (stab_is _),Stab.b (stab_is _),Stab.b (stab_ifc _),Stab.b (stab_num _),Stab.b (stab_is _),trivial⟩ sP (ol:=_) rfl kR ⟨?_,?_,?_,?_,?_,?_,?_,?_,?_,trivial⟩ ?_
     ·exact obp
     ·exact obp
     ·intro ts W hb hB hp; have h0:ts 0 = _:=hp 0 kR; have h1:ts 1 = _:=hp 1 kR; intro K hK; simp only [fillT,zA,Nat.reduceAdd,sA,sB,sC,h0,h1] at hK ⊢; have HK:=hid hK; clear hK hp; refine ⟨?_⟩; go_simp; exact HK.out _ _ rfl rfB
     ·intro ts W hb hB hp; have h2:ts 2 = _:=hp 2 kR; intro K hK; simp only [fillT,zA,Nat.reduceAdd,sA,sB,sC,h2] at hK ⊢; have HK:=hid hK; clear hK hp; have hcell:=(HM.out.below hb).cell hk; refine ⟨?_⟩; go_simp; exact HK.out _ _ rfl rfB
     ·exact obp
     ·intro ts W hb hB hp K hK; simp only [fillT,zA,Nat.reduceAdd,sA,sB,sC] at hK ⊢; refine ⟨?_⟩; refine wp_load_row _ _ rfl (g7) rfl _ _ (0,0) _ ((hb.block _ (z7)).trans X7) Tryz.underlying35 rfl kR ?_; exact hK _ _ rfl rfB
     ·intro ts W hb hB hp; have h5:ts 5 = _:=hp 5 kR; intro K hK; simp only [fillT,zA,Nat.reduceAdd,sA,sB,sC,h5] at hK ⊢; have HK:=hid hK; clear hK hp; refine ⟨?_⟩; go_simp; exact HK.out _ _ ⟨_,rfl,N7.below hb⟩ rfB
     ·intro ts W hb hB hp; have h6:=hp 6 kR; intro K hK; simp only [fillT,zA,Nat.reduceAdd,sA,sB,sC] at hK ⊢; have HK:=hid hK; clear hK hp; obtain ⟨u6,e6,n6⟩:=h6; refine ⟨?_⟩; refine wp_invoke rfl (T:=35) (v:=u6) (xs:=#[u6]) e6 inv_Conj (by simp [Act.eval]) ?_; refine (conjN_any u6 (F i k) W n6).mono ?_; rintro e W9 ⟨r9,rfl,hr9,hb9⟩; exact HK.out _ _ hr9 hb9
     ·intro ts W hb hB hp; have h3:ts 3 = _:=hp 3 kR; have h4:ts 4 = _:=hp 4 kR; intro K hK; simp only [fillT,zA,Nat.reduceAdd,sA,sB,sC,h3,h4] at hK ⊢; have HK:=hid hK; clear hK hp; refine ⟨?_⟩; go_simp; exact HK.out _ _ (by simp [kIs,Nat.mul_comm]) rfB
     intro ts W3 hb3 hh hap K hK
     have h7:=held_num (hh 7 sP) rfl
     have e8:=held_is (hh 8 sP) rfl
     have HK:=hid hK
     clear hK hh hap
     simp only [fillT,zA,Nat.reduceAdd,sA,sB,sC,e8]
     refine ⟨?_⟩
     refine wp_store_elem rfl (k:=i) rfl rfl ((HM.out.row hk).below hb3) hi h7 (fun W4 hbut hext hrow=>HK.out _ _ ?_)
     clear e8 h7
     have M3:=(HM.out.below hb3).set HP.out hk hbut hext hrow
     have e5:(F i k).conj = adjM F k i:=rfl
     rw [e5,upcol_next] at M3
     have M4:=hid M3
     have B4:=hid (hbut.below (bT KB2.out hb3) (HP.out.los k hk))
     clear hbut hext hrow e5 X7 N7 z7 hb3 M3 HM KB2
     go_wp2
     go_roundw
     case rel=>exact ⟨k + 1,by go_num,oM,M4.out,B4.out⟩
     case measure=>exact mS
    ·obtain rfl:m = k:=oM
     have HM3:=hid (HM0.out.congr (F':=upcol (adjM F) 0 (i + 1)) fun a b ha _=>upcol_shut _ m i a b ha)
     go_wp2
     go_roundw
     case rel=>exact ⟨i + 1,by go_num,oM,HM3.out,KB0.out⟩
     case measure=>exact mS
  ·obtain rfl:n = i:=oM
   have HM3:=hid (HM0.out.congr (F':=adjM F) fun a b _ hb=>upcol_all _ n a b hb)
   clear hrow0
   go_wp2
   go_ret2
   exact ⟨_,_,rfl,HM3.out,HP.out,KB0.out⟩
end Go.Proofs.YtffegeaflohfhaaGreatDoor
