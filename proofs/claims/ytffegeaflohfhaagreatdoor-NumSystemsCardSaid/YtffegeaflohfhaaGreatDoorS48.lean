import Derived.Test.YtffegeaflohfhaaGreatDoorS41
import Derived.Test.YtffegeaflohfhaaGreatDoorS47
import Derived.Test.YtffegeaflohfhaaGreatDoorS02
set_option linter.unusedVariables false
set_option linter.unusedSimpArgs false
set_option maxRecDepth 100000
set_option maxHeartbeats 8000000
namespace Go.Proofs.YtffegeaflohfhaaGreatDoor
open Go.RowKit
theorem rIdentity_sep (w:World) (N:Nat) (hN:N <= 32) :
  Calls Tryz.prog 63 #[.int .i64 (N:Int)] w fun e w'=>∃ go gk,e = .returned (.slice (some ⟨go,0,none⟩) N N) /\ MatQ w' go gk N N (uptoI N) /\ Below w.heap.size w w' /\ MatSep w.heap.size go gk N:=by
 have HZ:Hid (∀ W,Calls Tryz.prog 62 #[.int .i64 (N:Int),.int .i64 (N:Int)] W fun e w'=>∃ gi,e = .returned (.slice (some ⟨W.heap.size,0,none⟩) N N) /\ MatQ w' W.heap.size gi N N (fun _ _=>.zero) /\ MatSep W.heap.size W.heap.size gi N /\ Below W.heap.size W w'):=hid (fun W=>rZeros_any W N N oM oM)
 have HW:=hid (fun W=>rWhole_any 1 W oM oM)
 go_enter Tryz.func63,Tryz.ntmps63
 go_wp2_with fail
 refine (HZ.out w).mono ?_
 rintro e W4 ⟨g3,rfl,hM,hS,hb5⟩
 have KB0:=hid hb5
 have HM0:=hid (hM.congr (F':=uptoI 0) fun a b _ _=>(if_neg oM:uptoI 0 a b = .zero).symm)
 have HSep:=hid hS
 clear hb5 hM hS
 have hlo:w.heap.size <= w.heap.size:=Nat.le_refl _
 obtain ⟨go3,hgo3⟩:∃ g,w.heap.size = g:=⟨_,rfl⟩
 rw [hgo3] at HM0 HSep
 simp only [hgo3]
 have HGO:=hid hgo3
 clear hgo3 hlo
 go_wp2_with fail
 go_loopw [4] (fun iv wr=>∃ i:Nat,iv = .int .i64 (i:Int) /\ i <= N /\ Below w.heap.size w wr /\ MatQ wr go3 g3 N N (uptoI i)) (fun iv _=>N - (intOf iv).toNat)
 case atStart=>exact ⟨0,rfl,oM,KB0.out,HM0.out⟩
 case round =>
  clear KB0 HM0
  obtain ⟨i,rfl,hin,hB,hM⟩:=hrel
  have KB:=hid hB
  have HM:=hid hM
  clear hB hM
  by_cases hi:i < N
  ·have hi0:(0:Int) <= (i:Int):=oM
   have hi1:(i:Int) < (N:Int):=oM
   go_upto_region 9 with fail
   refine region_last [.val (kIs (.slice (some ⟨go3,0,none⟩) N N)),.val (kIs (.int .i64 (i:Int))),.val (kIs (.pointer (some ⟨go3,i,none⟩))),.val (kIs (.slice (some ⟨g3 i,0,none⟩) N N)),.val (kIs (.int .i64 (i:Int))),.val (kQ (Cx.int 1)),.val (kIs (.pointer (some ⟨g3 i,5 * i,none⟩)))]
    kR kR kR kR kR ⟨Stab.b (stab_is _),Stab.b (stab_is _),Stab.b (stab_is _),Stab.b (stab_is _),Stab.b (stab_is _),stabB_q _,Stab.b (stab_is _),trivial⟩ sP (ol:=_) rfl kR ⟨?_,?_,?_,?_,?_,?_,?_,trivial⟩ ?_
   ·exact obp
   ·exact obp
   ·intro ts W hb hB hp; have h0:ts 0 = _:=hp 0 kR; have h1:ts 1 = _:=hp 1 kR; intro K hK; simp only [fillT,zA,Nat.reduceAdd,sA,sB,sC,h0,h1] at hK ⊢; have HK:=hid hK; clear hK hp; refine ⟨?_⟩; go_simp; exact HK.out _ _ rfl rfB
   ·intro ts W hb hB hp; have h2:ts 2 = _:=hp 2 kR; intro K hK; simp only [fillT,zA,Nat.reduceAdd,sA,sB,sC,h2] at hK ⊢; have HK:=hid hK; clear hK hp; have hcell:=(HM.out.below hb).cell hi; refine ⟨?_⟩; go_simp; exact HK.out _ _ rfl rfB
   ·exact obp
   ·intro ts W hb hB hp K hK; simp only [fillT,zA,Nat.reduceAdd,sA,sB,sC] at hK ⊢; have HK:=hid hK; clear hK hp; refine ⟨?_⟩; go_simp; refine (HW.out W).mono ?_; rintro e W9 ⟨r9,rfl,hr9,hb9⟩; exact HK.out _ _ hr9 hb9
   ·intro ts W hb hB hp; have h3:ts 3 = _:=hp 3 kR; have h4:ts 4 = _:=hp 4 kR; intro K hK; simp only [fillT,zA,Nat.reduceAdd,sA,sB,sC,h3,h4] at hK ⊢; have HK:=hid hK; clear hK hp; refine ⟨?_⟩; go_simp; exact HK.out _ _ (by simp [kIs,Nat.mul_comm]) rfB
   intro ts W3 hb3 hh hap K hK
   have h9:=held_q (hh 5 sP) rfl
   have e9:=held_is (hh 6 sP) rfl
   have HK:=hid hK
   clear hK hh hap
   simp only [fillT,zA,Nat.reduceAdd,sA,sB,sC,e9]
   refine ⟨?_⟩
   refine wp_store_qe rfl (k:=i) rfl rfl ((HM.out.below hb3).row hi) hi h9 (fun W4 hbut hext hrow=>HK.out _ _ ?_)
   clear e9 h9
   have M3:=(HM.out.below hb3).set HSep.out hi hbut hext (hrow.to (V':=fun _=>True) (f':=upf (uptoI i i) i (Cx.int 1)) fun _ _ _=>⟨.inl trivial,rfl⟩)
   rw [uptoI_next] at M3
   have M4:=hid M3
   have B4:=hid (hbut.below (bT KB.out hb3) (by rw [HGO.out]; exact HSep.out.los i hi))
   clear hbut hext hrow hb3 M3 HM KB
   go_wp2
   go_roundw
   case rel=>exact ⟨i + 1,by go_num,oM,B4.out,M4.out⟩
   case measure=>exact mS
  ·obtain rfl:i = N:=oM
   go_wp2
   go_ret
   exact ⟨_,_,rfl,HM.out,KB.out,by rw [HGO.out]; exact HSep.out⟩
theorem MatQ.butQ {W W':World} {go:Nat} {gi:Nat -> Nat} {n m:Nat} {F:Nat -> Nat -> Cx} (h:MatQ W go gi n m F) {g:Nat} (hb:But W W' g) (he:Ext W W') (h1:go ≠ g) (h2:∀ i,i < n -> gi i ≠ g):MatQ W' go gi n m F:=by
 obtain ⟨cs,c1,c2,c3,c4⟩:=h
 exact ⟨cs,(hb.other _ h1).trans c1,c2,c3,fun i hi=>(c4 i hi).but hb he (h2 i hi)⟩
def solQ (X:Nat -> Bool × (Nat -> Nat -> Cx)) (n i k:Nat):Cx:=((X k).2 i n).div ((X k).2 i i)
def colQ (X:Nat -> Bool × (Nat -> Nat -> Cx)) (n k r:Nat):Nat -> Nat -> Cx:=fun i q=>if q < k ∨ q = k /\ i < r then solQ X n i q else .zero
def RetInvQ (w:World) (n:Nat) (X:Nat -> Bool × (Nat -> Nat -> Cx)) (e:Ending) (w':World):Prop :=
 Below w.heap.size w w' /\ (((∀ k,k < n -> (X k).1 = true) /\ ∃ g gi,e = .returned (.tuple #[.slice (some ⟨g,0,none⟩) n n,.int .i64 0]) /\ MatQ w' g gi n n (solQ X n)) ∨
  ((∃ k,k < n /\ (X k).1 = false) /\ e = .returned (.tuple #[.slice none 0 0,.int .i64 6])))
theorem rInverse_any (w:World) (ga:Nat) (gj:Nat -> Nat) (n cap s:Nat) (F:Nat -> Nat -> Cx) (h:MatQ w ga gj n n F) (hn:n <= 32) (hS:∀ k,k < n -> ∀ x y,x < n -> y < n + 1 -> Sz (augQ n F (uptoI n k) x y) s) (h5:szE s (n + 1) < 549755813888) :
  Calls Tryz.prog 19 #[.slice (some ⟨ga,0,none⟩) n cap] w (RetInvQ w n fun k=>gjS n n 0 (augQ n F (uptoI n k))):=by
 have HSQ:=hid (rSquare_any w _ n _ F (h.qss cap) oM fun _ _=>oM)
 have HV3:=hid (vld_mat hn hn)
 have HSO:=hid (fun W gb k (hb:Below w.heap.size w W) (hk:k < n) (hq:QBlk W gb n (fun _=>True) (uptoI n k))=>rSolve_any W ga gb gj n cap n s F (uptoI n k) (h.below hb) hq hn (hS k hk) h5)
 obtain ⟨X,hX⟩:∃ X:Nat -> Bool × (Nat -> Nat -> Cx),X = fun k=>gjS n n 0 (augQ n F (uptoI n k)):=⟨_,rfl⟩
 rw [<- hX]
 have HXe:=hid (show ∀ k,gjS n n 0 (augQ n F (uptoI n k)) = X k from fun k=>by rw [hX])
 clear h hS hX
 go_enter Tryz.func19,Tryz.ntmps19
 go_wp2_with fail
 refine HSQ.out.mono ?_
 rintro e W2 ⟨bb,rfl,hb,hB⟩
 obtain rfl:bb = true:=hb.2 ⟨HV3.out,by split <;> first | assumption | rfl⟩
 have K2:=hid hB
 clear hb hB HSQ HV3
 go_wp2_with fail
 refine (rZeros_any W2 n n oM oM).mono ?_
 rintro e W3 ⟨gi,rfl,hM,hs,hB⟩
 obtain ⟨g0,hg0⟩:∃ g0,g0 = W2.heap.size:=⟨_,rfl⟩
 rw [<- hg0] at hM hs ⊢
 have HM3:=hid (show MatQ W3 g0 gi n n (colQ X n 0 0) from hM.congr fun i q _ _=>(if_neg oM).symm)
 have HSP:=hid hs
 have hg0w:w.heap.size <= g0:=by rw [hg0]; exact K2.out.size
 have K3:=hid (bT K2.out hB)
 have hg03:g0 < W3.heap.size:=hM.lt
 clear hM hs hB hg0 K2
 go_wp2_with fail
 refine (rIdentity_sep W3 n hn).mono ?_
 rintro e W4 ⟨go,gk,rfl,hU,hB,hS⟩
 have HU4:=hid hU
 have HM4:=hid (HM3.out.below hB)
 have K4:=hid (bT K3.out hB)
 have HN1:=hid (fun i (hi:i < n) k (hk:k < n)=>show gk k ≠ gi i from fun e=>by have:=hS.los k hk; have:=(HM3.out.row hi).lt; omega)
 have HN2:=hid (fun i (hi:i < n)=>show go ≠ gi i from fun e=>by have:=hS.lo; have:=(HM3.out.row hi).lt; omega)
 have HN3:=hid (fun i (hi:i < n)=>show gi i < W4.heap.size from lL (HM3.out.row hi).lt hB.size)
 clear hU hB HM3 K3 hS
 go_wp2_with fail
 go_loopw [7] (fun kv wx=>∃ k:Nat,kv = .int .i64 (k:Int) /\ k <= n /\ (∀ q,q < k -> (X q).1 = true) /\ MatQ wx g0 gi n n (colQ X n k 0) /\ MatQ wx go gk n n (uptoI n) /\ Below w.heap.size w wx) (fun kv _=>n - (intOf kv).toNat)
 case atStart=>exact ⟨0,rfl,oM,fun q hq=>oM,HM4.out,HU4.out,K4.out⟩
 case round =>
  clear HM4 HU4 K4
  obtain ⟨k,rfl,hkn,hT,hM,hU,hB⟩:=hrel
  have HT:=hid hT
  have HM:=hid hM
  have HU:=hid hU
  have KB:=hid hB
  clear hT hM hU hB
  by_cases hk:k < n
  ·have hcell:=HU.out.cell hk
   have HCA:=hid (HSO.out wr (gk k) k KB.out hk (HU.out.row hk))
   rw [HXe.out] at HCA
   go_wp2_with fail
   clear hcell
   refine HCA.out.mono ?_
   rintro e W5 ⟨hb5,⟨ht,gx,hgx,rfl,hx⟩ | ⟨hf,rfl⟩⟩
   ·have HT2:=hid (show ∀ q,q < k + 1 -> (X q).1 = true from fun q hq=>by
     by_cases e:q = k
     ·rw [e]; exact ht
     ·exact HT.out q oM)
    obtain ⟨x,hxe⟩:∃ x:Nat -> Cx,x = fun i=>((X k).2 i n).div ((X k).2 i i):=⟨_,rfl⟩
    rw [<- hxe] at hx
    have HXI:=hid (fun i=>show x i = solQ X n i k by rw [hxe]; rfl)
    have HX5:=hid hx
    have HM5:=hid (HM.out.below hb5)
    have HU5:=hid (HU.out.below hb5)
    have K5:=hid (bT KB.out hb5)
    have HN4:=hid (fun i (hi:i < n)=>show gx ≠ gi i from fun e=>by have:=(HM.out.row hi).lt; omega)
    clear ht hx hxe hb5 HM HU KB HT HCA hgx
    go_wp2_with fail
    go_loopw [10] (fun iv wx=>∃ i:Nat,iv = .int .i64 (i:Int) /\ i <= n /\ MatQ wx g0 gi n n (colQ X n k i) /\ QBlk wx gx n (fun _=>True) x /\ MatQ wx go gk n n (uptoI n) /\ Below w.heap.size w wx) (fun iv _=>n - (intOf iv).toNat)
    case atStart=>exact ⟨0,rfl,oM,HM5.out,HX5.out,HU5.out,K5.out⟩
    case round =>
     clear HM5 HX5 HU5 K5
     obtain ⟨i,rfl,hin,hM,hX,hU,hB⟩:=hrel
     have HM:=hid hM
     have HX:=hid hX
     have HU:=hid hU
     have KB:=hid hB
     clear hM hX hU hB
     by_cases hi:i < n
     ·go_upto_region 15 with fail
      refine region_lastA [.val (kIs (.slice (some ⟨g0,0,none⟩) n n)),.val (kIs (.int .i64 (i:Int))),.val (kIs (.pointer (some ⟨g0,i,none⟩))),.val (kIs (.slice (some ⟨gi i,0,none⟩) n n)),.val (kIs (.int .i64 (k:Int))),.val (kIs (.slice (some ⟨gx,0,none⟩) n n)),.val (kIs (.int .i64 (i:Int))),.val (kIs (.pointer (some ⟨gx,5 * i,none⟩))),.val (kQ (x i)),.val (kIs (.pointer (some ⟨gi i,5 * k,none⟩)))]
       ?fl5 ?hfl5 kR kR kR kR kR ⟨Stab.b (stab_is _),Stab.b (stab_is _),Stab.b (stab_is _),Stab.b (stab_is _),Stab.b (stab_is _),Stab.b (stab_is _),Stab.b (stab_is _),Stab.b (stab_is _),Stab.b (stab_q _),Stab.b (stab_is _),trivial⟩ sP (ol:=_) rfl kR ⟨obN (uMf rfl .fr),obN (uMf rfl .fr),obN (uIr rfl (.is 0) (.is 1) hi),obN (uLr' rfl (.is 2) fun W hb=>(HM.out.below hb).cell hi),obN (uMf rfl .fr),obN (uMf rfl .fr),obN (uMf rfl .fr),obN (uIq rfl (.is 5) (.is 6) hi),obN (uQe rfl (.is 7) (fun W hb=>HX.out.below hb) hi trivial),obN (uIq rfl (.is 3) (.is 4) hk),trivial⟩ ?_
      case hfl5=>intro ts; simp only [fillT,zA,Nat.reduceAdd,sA,sB,sC]; rfl
      intro ts W9 a9 ha9 hb9 hh K hK
      have hz:IsQ W9 (ts 8) (x i):=hh 8 sP
      have hx:ts 9 = _:=hh 9 sP
      have ex:=(ha9 52).trans (by kernel_rfl:_ = ts 9)
      have ez:=(ha9 51).trans (by kernel_rfl:_ = ts 8)
      have HK:=hid hK
      clear hK hh
      refine ⟨wp_store_qe rfl (k:=k) (ex.trans hx) ez ((HM.out.below hb9).row hi) hk hz fun W6 hbut hext hrow=>⟨rfl,HK.out _ ?_⟩⟩
      have M6:=(HM.out.below hb9).set HSP.out hi hbut hext (hrow.to (V':=fun _=>True) (f':=upf (colQ X n k i i) k (x i)) fun _ _ _=>⟨.inl trivial,rfl⟩)
      have HM6:=hid (show MatQ W6 g0 gi n n (colQ X n k (i + 1)) from M6.congr fun a q ha hq=>by
       unfold upm
       by_cases e:a = i
       ·rw [e,upf_same]
        by_cases e2:q = k
        ·rw [e2,upf_same,HXI.out]
         exact (if_pos oM).symm
        ·rw [upf_other _ _ e2]
         unfold colQ
         by_cases h:q < k ∨ q = k /\ i < i
         ·rw [if_pos h,if_pos oM]
         ·rw [if_neg h,if_neg oM]
       ·rw [upf_other _ _ e]
        unfold colQ
        by_cases h:q < k ∨ q = k /\ a < i
        ·rw [if_pos h,if_pos oM]
        ·rw [if_neg h,if_neg oM])
      have HX6:=hid ((HX.out.below hb9).but hbut hext (HN4.out i hi))
      have HU6:=hid ((HU.out.below hb9).butQ hbut hext (HN2.out i hi) fun k hk=>HN1.out i hi k hk)
      have K6:=hid (hbut.below (bT KB.out hb9) (Nat.le_trans hg0w (HSP.out.los i hi)))
      clear HK hz hx ex ez hbut hext hrow HM HX HU KB hb9 ha9 M6
      go_wp2
      go_roundw
      case rel=>exact ⟨i + 1,by go_num,oM,HM6.out,HX6.out,HU6.out,K6.out⟩
      case measure=>exact mS
     ·obtain rfl:n = i:=oM
      have HM6:=hid (show MatQ wr g0 gi n n (colQ X n (k + 1) 0) from HM.out.congr fun a q ha hq=>by
       unfold colQ
       by_cases h:q < k ∨ q = k /\ a < n
       ·rw [if_pos h,if_pos oM]
       ·rw [if_neg h,if_neg oM])
      clear HM
      go_wp2
      go_roundw
      case rel=>exact ⟨k + 1,by go_num,oM,HT2.out,HM6.out,HU.out,KB.out⟩
      case measure=>exact mS
   ·have K5:=hid (bT KB.out hb5)
    have HF:=hid (show ∃ k,k < n /\ (X k).1 = false from ⟨k,hk,hf⟩)
    clear hf hb5
    go_wp2
    go_ret2
    exact ⟨K5.out,.inr ⟨HF.out,rfl⟩⟩
  ·obtain rfl:n = k:=oM
   have HM6:=hid (HM.out.congr (F':=solQ X n) fun a q ha hq=>if_pos oM)
   clear HM
   go_wp2
   go_ret2
   exact ⟨KB.out,.inl ⟨HT.out,g0,gi,rfl,HM6.out⟩⟩
end Go.Proofs.YtffegeaflohfhaaGreatDoor
