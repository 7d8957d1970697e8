import Derived.Test.YtffegeaflohfhaaGreatDoorS28
import Derived.Test.YtffegeaflohfhaaGreatDoorS02
set_option linter.unusedVariables false
set_option linter.unusedSimpArgs false
set_option maxRecDepth 100000
set_option maxHeartbeats 8000000
namespace Go.Proofs.YtffegeaflohfhaaGreatDoor
open Go.RowKit
def RetMatE (w:World) (n m:Nat) (F:Nat -> Nat -> Cx) (k:Int) (e:Ending) (w':World):Prop:=∃ go gi,e = .returned (.tuple #[.slice (some ⟨go,0,none⟩) n n,.int .i64 k]) /\ MatAt w' go gi n m F /\ MatSep w.heap.size go gi n /\ Below w.heap.size w w'
def upto (Q:Nat -> Nat -> Cx) (i k:Nat):Nat -> Nat -> Cx:=fun a b=>if a < i ∨ a = i /\ b < k then Q a b else .zero
theorem upto_zero (Q:Nat -> Nat -> Cx):(fun _ _=>Cx.zero) = upto Q 0 0:=by
 funext a b
 exact (if_neg oM).symm
theorem upto_all (Q:Nat -> Nat -> Cx) (n:Nat):∀ a b,a < n -> upto Q n 0 a b = Q a b:=fun a b ha=>if_pos oM
theorem id_zero (i k:Nat):upm (upto idF i 0) i k .zero = upto idF i 0:=by
 funext a b
 unfold upm upf upto
 by_cases ha:a = i
 ·subst ha
  rw [if_pos rfl]
  by_cases hb:b = k
  ·rw [if_pos hb,if_neg oM]
  ·rw [if_neg hb]
 ·simp only [if_neg ha]
theorem id_one (i:Nat):upm (upto idF i 0) i i (.int 1) = upto idF (i + 1) 0:=by
 funext a b
 unfold upm upf upto idF
 by_cases ha:a = i
 ·subst ha
  rw [if_pos rfl]
  rw [if_pos (show a < a + 1 ∨ _ by omega)]
  by_cases hb:b = a
  ·rw [if_pos hb,if_pos hb.symm]
  ·rw [if_neg hb,if_neg oM,if_neg (fun e=>hb e.symm)]
 ·simp only [if_neg ha]
  by_cases h:a < i
  ·have e1:a < i ∨ a = i /\ b < 0:=.inl h
   have e2:a < i + 1 ∨ a = i + 1 /\ b < 0:=.inl oM
   simp only [if_pos e1,if_pos e2]
  ·have e1:¬ (a < i ∨ a = i /\ b < 0):=oM
   have e2:¬ (a < i + 1 ∨ a = i + 1 /\ b < 0):=oM
   simp only [if_neg e1,if_neg e2]
theorem MatAt.setSame {W:World} {go:Nat} {gi:Nat -> Nat} {n m:Nat} {F:Nat -> Nat -> Cx} (h:MatAt W go gi n m F) {B:Nat} (hs:MatSep B go gi n) {r:Nat} (hr:r < n):MatAt (W.setCell ⟨go,r,none⟩ (.slice (some ⟨gi r,0,none⟩) m m)) go gi n m F:=by
 obtain ⟨cs0,h0,hodd⟩:=h.oddOut
 obtain ⟨cs,h1,h2,h3,h4⟩:=h
 rw [h0] at h1
 have e:cs0 = cs:=by cases h1; rfl
 subst e
 obtain ⟨hb,hh⟩:=setCell_but (i:=r) h0 (.slice (some ⟨gi r,0,none⟩) m m)
 have hext:=hb.ext h0 hodd
 have e:cs0.setIfInBounds r (.slice (some ⟨gi r,0,none⟩) m m) = cs0:=by
  apply Array.ext
  ·simp
  ·intro i hi1 hi2
   rw [Array.getElem_setIfInBounds]
   split
   ·rename_i e
    subst e
    have:=h3 r hr
    rw [Array.getElem?_eq_getElem hi2] at this
    exact (Option.some.inj this).symm
   ·rfl
 rw [e] at hh
 exact ⟨cs0,hh,h2,h3,fun i hi=>(h4 i hi).but hb hext (hs.ne i hi)⟩
theorem identityN_any (w:World) (n:Nat) (hn:n <= 32) :
  Calls Tryz.prog 60 #[.int .i64 n] w (RetMat w n n idF):=by
 have m1:(min (n:Int) 32) = (n:Int):=oM
 have m2:(max (0:Int) (n:Int)) = (n:Int):=oM
 have m3:(if (n:Int) < 32 then (n:Int) else 32) = (n:Int):=by split <;> omega
 have m4:¬ ((32:Int) < (n:Int)):=oM
 have m5:(0:Int) <= (n:Int):=oM
 have m6:(n:Int) <= 32:=oM
 go_enter Tryz.func60,Tryz.ntmps60
 go_wp2_with fail
 clear m1 m2 m3 m4 m5 m6
 refine (blankN_any w n n oM oM).mono ?_
 rintro e W1 ⟨go,g2,rfl,hM,hP,hb⟩
 have KB0:=hid hb
 have HM0:=hid hM
 have HP:=hid hP
 clear hM hP hb
 go_wp2
 go_loopw [15] (fun j wr=>∃ i:Nat,j = .int .i64 i /\ i <= n /\ MatAt wr go g2 n n (upto idF i 0) /\ Below w.heap.size w wr) (fun j _=>n - (intOf j).toNat)
 case atStart=>exact ⟨0,rfl,oM,by rw [<- upto_zero]; exact HM0.out,KB0.out⟩
 case round =>
  clear HM0 KB0
  obtain ⟨i,rfl,hin,hM,hB⟩:=hrel
  have HM0:=hid hM
  have KB0:=hid hB
  clear hM hB
  by_cases hi:i < n
  ·have hrow:=HM0.out.cell hi
   go_wp2
   clear hrow
   go_loopw [22] (fun j wr=>∃ k:Nat,j = .int .i64 k /\ k <= n /\ MatAt wr go g2 n n (upto idF i 0) /\ Below w.heap.size w wr) (fun j _=>n - (intOf j).toNat)
   case atStart=>exact ⟨0,rfl,oM,HM0.out,KB0.out⟩
   case round =>
    rename_i wr1
    clear HM0 KB0
    obtain ⟨k,rfl,hkn,hM,hB⟩:=hrel
    have HM:=hid hM
    have KB:=hid hB
    clear hM hB
    by_cases hk:k < n
    ·go_upto_region 9 with fail
     refine region_last [.val (kIs (.slice (some ⟨(g2 i),0,none⟩) n n)),.val (kIs (.int .i64 (k:Int))),.val (kNum (Cx.int 0)),.val (kIs (.pointer (some ⟨(g2 i),5 * k,none⟩)))]
      kR kR kR kR kR ⟨Stab.b (stab_is _),Stab.b (stab_is _),Stab.b (stab_num _),Stab.b (stab_is _),trivial⟩ sP (ol:=_) rfl kR ⟨?_,?_,?_,?_,trivial⟩ ?_
     ·exact obp
     ·exact obp
     ·intro ts W hb hB hp K hK; simp only [fillT,zA,Nat.reduceAdd,sA,sB,sC] at hK ⊢; have HK:=hid hK; clear hK hp; refine ⟨?_⟩; go_simp; refine (constant_any 0 _ oM oM).mono ?_; rintro e W9 ⟨r9,rfl,hr9,hb9⟩; exact HK.out _ _ hr9 hb9
     ·intro ts W hb hB hp; have h0:ts 0 = _:=hp 0 kR; have h1:ts 1 = _:=hp 1 kR; intro K hK; simp only [fillT,zA,Nat.reduceAdd,sA,sB,sC,h0,h1] at hK ⊢; have HK:=hid hK; clear hK hp; refine ⟨?_⟩; go_simp; exact HK.out _ _ (by simp [kIs,Nat.mul_comm]) rfB
     intro ts W3 hb3 hh hap K hK
     have h2:=held_num (hh 2 sP) rfl
     have e3:=held_is (hh 3 sP) rfl
     have HK:=hid hK
     clear hK hh hap
     simp only [fillT,zA,Nat.reduceAdd,sA,sB,sC,e3]
     refine ⟨?_⟩
     refine wp_store_elem rfl (k:=k) rfl rfl ((HM.out.row hi).below hb3) hk h2 (fun W4 hbut hext hrow=>HK.out _ _ ?_)
     clear e3 h2
     have M3:=(HM.out.below hb3).set HP.out hi hbut hext hrow
     rw [int_zero,id_zero] at M3
     have M4:=hid M3
     have B4:=hid (hbut.below (bT KB.out hb3) (HP.out.los i hi))
     clear hbut hext hrow hb3 M3 HM KB
     go_wp2
     go_roundw
     case rel=>exact ⟨k + 1,by go_num,oM,M4.out,B4.out⟩
     case measure=>exact mS
    ·obtain rfl:n = k:=oM
     go_upto_region 11 with fail
     refine region_last [.val (kIs (.slice (some ⟨(g2 i),0,none⟩) n n)),.val (kIs (.int .i64 (i:Int))),.val (kNum (Cx.int 1)),.val (kIs (.pointer (some ⟨(g2 i),5 * i,none⟩)))]
      kR kR kR kR kR ⟨Stab.b (stab_is _),Stab.b (stab_is _),Stab.b (stab_num _),Stab.b (stab_is _),trivial⟩ sP (ol:=_) rfl kR ⟨?_,?_,?_,?_,trivial⟩ ?_
     ·exact obp
     ·exact obp
     ·intro ts W hb hB hp K hK; simp only [fillT,zA,Nat.reduceAdd,sA,sB,sC] at hK ⊢; have HK:=hid hK; clear hK hp; refine ⟨?_⟩; go_simp; refine (constant_any 1 _ oM oM).mono ?_; rintro e W9 ⟨r9,rfl,hr9,hb9⟩; exact HK.out _ _ hr9 hb9
     ·intro ts W hb hB hp; have h0:ts 0 = _:=hp 0 kR; have h1:ts 1 = _:=hp 1 kR; intro K hK; simp only [fillT,zA,Nat.reduceAdd,sA,sB,sC,h0,h1] at hK ⊢; have HK:=hid hK; clear hK hp; refine ⟨?_⟩; go_simp; exact HK.out _ _ (by simp [kIs,Nat.mul_comm]) rfB
     intro ts W3 hb3 hh hap K hK
     have h2:=held_num (hh 2 sP) rfl
     have e3:=held_is (hh 3 sP) rfl
     have HK:=hid hK
     clear hK hh hap
     simp only [fillT,zA,Nat.reduceAdd,sA,sB,sC,e3]
     refine ⟨?_⟩
     refine wp_store_elem rfl (k:=i) rfl rfl ((HM.out.row hi).below hb3) hi h2 (fun W4 hbut hext hrow=>HK.out _ _ ?_)
     clear e3 h2
     have M3:=(HM.out.below hb3).set HP.out hi hbut hext hrow
     rw [id_one] at M3
     have M4:=hid M3
     have B4:=hid (hbut.below (bT KB.out hb3) (HP.out.los i hi))
     clear hbut hext hrow hb3 M3 HM KB
     go_wp2
     go_roundw
     case rel=>exact ⟨i + 1,by go_num,oM,M4.out,B4.out⟩
     case measure=>exact mS
  ·obtain rfl:i = n:=oM
   have HM3:=hid (HM0.out.congr (F':=idF) fun a b ha _=>upto_all _ i a b ha)
   go_wp2
   go_ret
   exact ⟨_,_,rfl,HM3.out,HP.out,KB0.out⟩
theorem detN_nil (w:World) (A:Option Addr) (c:Nat) :
  Calls Tryz.prog 10 #[.slice A 0 c] w (RetNumE w (.int 1) 0):=by
 go_enter Tryz.func10,Tryz.ntmps10
 go_upto_region 2 with fail
 obtain ⟨W1,hW1⟩:∃ W1:World,W1 = ((w.alloc (.cells zNum 35)).alloc (.cells zNum 35)):=⟨_,rfl⟩
 unfold zNum at hW1
 rw [<- hW1]
 have B1:Below w.heap.size w W1:=by rw [hW1]; exact bel
 have z4:w.heap.size + 1 < W1.heap.size:=by rw [hW1]; simp
 have X2:W1.heap[w.heap.size]? = some (.cells zNum 35 (0,0)):=by rw [hW1]; exact heap_alloc2_old _ _ _
 clear hW1
 have HX1:=hid X2
 clear X2
 go_wp2_with fail
 refine (squareN_nil W1 A c).mono ?_
 rintro e W2 ⟨rfl,hb⟩
 have HX2:=hid ((hb.block w.heap.size oM).trans HX1.out)
 have B2:=bT B1 hb
 have z2:w.heap.size + 1 < W2.heap.size:=lL z4 hb.size
 clear hb B1 z4 HX1
 go_wp2_with fail
 refine (constant_any 1 W2 oM oM).mono ?_
 rintro e W6 ⟨r,rfl,hr,hb⟩
 obtain ⟨A8,n8,c8,p8,A8b,n8b,c8b,p8b,A8c,n8c,c8c,ia,ib,id,rfl,-⟩:=hr.parts
 obtain ⟨f0,f1,f2,f3,f4,y0,y1,y2,y3,y4⟩:=bx5 ((hb.block w.heap.size oM).trans HX2.out)
 have NB:=NumBox.nil f0 f1 f2 f3 f4
 have HR8:=hid hr
 have B6:=hid (bT B2 hb)
 clear hb hr HX2 B2
 go_wp2
 refine bodyPost_ret (v:=.tuple #[.agg #[.slice A8 n8 c8,.bool p8,.slice A8b n8b c8b,.bool p8b,.slice A8c n8c c8c],.int .i64 0]) (by simp [results,Tryz.results10]; exact run_load5e NB _ _ _ _ _ _) rfl ?_
 exact RetNumE.box B6.out oM NB HR8.out _ _ _ _ _
end Go.Proofs.YtffegeaflohfhaaGreatDoor
