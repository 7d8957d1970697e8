import Derived.Test.YtffegeaflohfhaaGreatDoorU43
import Derived.Test.YtffegeaflohfhaaGreatDoorU47
import Derived.Test.YtffegeaflohfhaaGreatDoorU48
import Derived.Test.YtffegeaflohfhaaGreatDoorU15
import Derived.Test.YtffegeaflohfhaaGreatDoorU27
import Derived.Test.YtffegeaflohfhaaGreatDoorU35
import Derived.Test.YtffegeaflohfhaaGreatDoorU36
import Derived.Test.YtffegeaflohfhaaGreatDoorS02
set_option linter.unusedVariables false
set_option linter.unusedSimpArgs false
set_option maxRecDepth 100000
set_option maxHeartbeats 8000000
namespace Go.Proofs.YtffegeaflohfhaaGreatDoor
open Go.RowKit
theorem definiteN_bad (w:World) (v:Value) (n:Nat) (ml:Nat -> Nat) (F:Nat -> Nat -> Cx) (h:NSS w v n ml F) (hn:n <= 1099511627776) (hml:∀ i,i < n -> ml i <= 1099511627776) (hbad:¬ Sqr n ml) :
  Calls Tryz.prog 31 #[v] w fun e w'=>e = .returned (.tuple #[.bool false,.slice none 0 0,.int .i64 4]) /\ Below w.heap.size w w':=by
 have HQ:=hid (squareN_all w v n ml F h hn hml)
 have HX:=hid hbad
 obtain ⟨A,c,rfl,-⟩:=h
 clear hml hbad
 go_enter Tryz.func31,Tryz.ntmps31
 go_wp2_with fail
 refine HQ.out.mono ?_
 rintro e W2 ⟨b,rfl,hb1,hb⟩
 obtain rfl:b = false:=by
  cases b
  ·rfl
  ·exact absurd (hb1.1 rfl) HX.out
 clear hb1 HQ
 go_wp2
 go_ret3
 exact ⟨rfl,hb⟩
theorem rDefinite_bad (w:World) (v:Value) (n:Nat) (ml:Nat -> Nat) (F:Nat -> Nat -> Cx) (h:QSS w v n ml F) (hn:n <= 1099511627776) (hml:∀ i,i < n -> ml i <= 1099511627776) (hbad:¬ Sqr n ml) :
  Calls Tryz.prog 32 #[v] w fun e w'=>e = .returned (.tuple #[.bool false,.int .i64 4]) /\ Below w.heap.size w w':=by
 have HQ:=hid (rSquare_any w v n ml F h hn hml)
 have HX:=hid hbad
 obtain ⟨A,c,rfl,-⟩:=h
 clear hml hbad
 go_enter Tryz.func32,Tryz.ntmps32
 go_wp2_with fail
 refine HQ.out.mono ?_
 rintro e W2 ⟨b,rfl,hb1,hb⟩
 obtain rfl:b = false:=by
  cases b
  ·rfl
  ·exact absurd (hb1.1 rfl) HX.out
 clear hb1 HQ
 go_wp2
 go_ret2
 exact ⟨rfl,hb⟩
theorem definiteN_nh (w:World) (ga:Nat) (gi:Nat -> Nat) (n:Nat) (F:Nat -> Nat -> Cx) (hA:MatAt w ga gi n n F) (hn:n <= 5) (hS:∀ a b,Sz (F a b) 2) (hH:¬ Hm n 0 F) :
  Calls Tryz.prog 31 #[.slice (some ⟨ga,0,none⟩) n n] w fun e w'=>e = .returned (.tuple #[.bool false,.slice none 0 0,.int .i64 1]) /\ Below w.heap.size w w':=by
 have HQ:=hid (squareN_all w _ n _ F (hA.nss' n) oM fun _ _=>oM)
 have HV:=hid (show Sqr n (fun _=>n) from ⟨⟨oM,fun _ _=>⟨rfl,show n <= 32 by omega⟩⟩,by unfold colsOf; split <;> first | assumption | rfl⟩)
 have HHE:=hid (fun W (hb:Below w.heap.size w W)=>hermitianN_all W ga gi n 2 F (hA.below hb) oM (fun a b _ _=>hS a b) oM)
 have HH:=hid hH
 clear hA hS hH
 go_enter Tryz.func31,Tryz.ntmps31
 go_wp2_with fail
 refine HQ.out.mono ?_
 rintro e W1 ⟨bb,rfl,hb,hB⟩
 obtain rfl:bb = true:=hb.2 HV.out
 have KB1:=hid hB
 clear hb hB HQ HV
 go_wp2_with fail
 refine (HHE.out W1 KB1.out).mono ?_
 rintro e W2 ⟨bb,rfl,hbb,hb2⟩
 obtain rfl:bb = false:=by
  cases bb
  ·rfl
  ·exact absurd (hbb.1 rfl) HH.out
 have KB2:=hid (bT KB1.out hb2)
 clear hb2 KB1 HHE hbb
 go_wp2
 go_ret3
 exact ⟨rfl,KB2.out⟩
theorem rDefinite_nh (w:World) (ga:Nat) (gi:Nat -> Nat) (n:Nat) (F:Nat -> Nat -> Cx) (hA:MatQ w ga gi n n F) (hn:n <= 5) (hS:∀ a b,Sz (F a b) 2) (hH:¬ Hm n 0 F) :
  Calls Tryz.prog 32 #[.slice (some ⟨ga,0,none⟩) n n] w fun e w'=>e = .returned (.tuple #[.bool false,.int .i64 1]) /\ Below w.heap.size w w':=by
 have HQ:=hid (rSquare_any w _ n _ F (hA.qss n) oM fun _ _=>oM)
 have HV:=hid (show Sqr n (fun _=>n) from ⟨⟨oM,fun _ _=>⟨rfl,show n <= 32 by omega⟩⟩,by unfold colsOf; split <;> first | assumption | rfl⟩)
 have HHE:=hid (fun W (hb:Below w.heap.size w W)=>rHermitian_all W ga gi n n 2 F (hA.below hb) oM (fun a b _ _=>hS a b) oM)
 have HH:=hid hH
 clear hA hS hH
 go_enter Tryz.func32,Tryz.ntmps32
 go_wp2_with fail
 refine HQ.out.mono ?_
 rintro e W1 ⟨bb,rfl,hb,hB⟩
 obtain rfl:bb = true:=hb.2 HV.out
 have KB1:=hid hB
 clear hb hB HQ HV
 go_wp2_with fail
 refine (HHE.out W1 KB1.out).mono ?_
 rintro e W2 ⟨bb,rfl,hbb,hb2⟩
 obtain rfl:bb = false:=by
  cases bb
  ·rfl
  ·exact absurd (hbb.1 rfl) HH.out
 have KB2:=hid (bT KB1.out hb2)
 clear hb2 KB1 HHE hbb
 go_wp2
 go_ret2
 exact ⟨rfl,KB2.out⟩
def RetDN (w:World) (n:Nat) (F:Nat -> Nat -> Cx) (b:Bool) (k:Int) (e:Ending) (w':World):Prop :=
 Below w.heap.size w w' /\ ((¬ (b = false /\ k = 0) /\ e = .returned (.tuple #[.bool b,.slice none 0 0,.int .i64 k])) ∨
  (b = false /\ k = 0 /\ ∃ g v,e = .returned (.tuple #[.bool b,.slice (some ⟨g,0,none⟩) n n,.int .i64 k]) /\ NBlk w' g n v /\ (∀ j,j < n -> Sz (v j) 10000000) /\ (bf n 0 F v v).im = 0 /\ (bf n 0 F v v).re < 0))
section
variable {n p:Nat} {ml:Nat -> Nat} {F:Nat -> Nat -> Cx} {f:Nat -> Cx} (hF:∀ i k,Sz (F i k) 2) (hn:n <= 40) (hml:∀ i,i < n -> ml i <= 40) (hV:Vld n ml -> n <= 5 /\ colsOf n ml <= 5)
include hF hn hml hV
theorem definite_both:∃ (b:Bool) (k:Int),(k = 0 ∨ (k = 1 ∨ k = 4) /\ b = false) /\ (b = true -> Psd n 0 F /\ Sqr n ml) /\ (k = 0 -> Sqr n ml) /\
  (∀ w ga gi,Tab w -> RagN w ga gi n ml F -> Calls Tryz.prog 31 #[.slice (some ⟨ga,0,none⟩) n n] w (RetDN w n F b k)) /\
  (∀ w ga gi,RagQ w ga gi n ml F -> Calls Tryz.prog 32 #[.slice (some ⟨ga,0,none⟩) n n] w fun e w'=>e = .returned (.tuple #[.bool b,.int .i64 k]) /\ Below w.heap.size w w'):=by
 by_cases hs:Sqr n ml
 ·have h5:=(hV hs.1).1
  have hall:=hs.all
  by_cases hH:Hm n 0 F
  ·by_cases hP:Psd n 0 F
   ·refine ⟨true,0,.inl rfl,fun _=>⟨hP,hs⟩,fun _=>hs,fun w ga gi hT h=>(definiteN_any w ga gi n F (h.mat hall) h5 hT hF hH).mono ?_,fun w ga gi h=>(rDefinite_any w ga gi n n F (h.mat hall) h5 hF hH).mono ?_⟩
    ·rintro e w' ⟨hb,⟨-,rfl⟩ | ⟨hno,-⟩⟩
     ·exact ⟨hb,.inl ⟨sP,rfl⟩⟩
     ·exact absurd hP hno
    ·rintro e w' ⟨b,rfl,hb1,hb⟩
     obtain rfl:b = true:=hb1.2 hP
     exact ⟨rfl,hb⟩
   ·refine ⟨false,0,.inl rfl,fun h=>absurd h sP,fun _=>hs,fun w ga gi hT h=>(definiteN_any w ga gi n F (h.mat hall) h5 hT hF hH).mono ?_,fun w ga gi h=>(rDefinite_any w ga gi n n F (h.mat hall) h5 hF hH).mono ?_⟩
    ·rintro e w' ⟨hb,⟨hy,-⟩ | ⟨-,g,v,he,h1,h2,h3,h4⟩⟩
     ·exact absurd hy hP
     ·exact ⟨hb,.inr ⟨rfl,rfl,g,v,he,h1,h2,h3,h4⟩⟩
    ·rintro e w' ⟨b,rfl,hb1,hb⟩
     have:b = false:=by
      cases b
      ·rfl
      ·exact absurd (hb1.1 rfl) hP
     rw [this]
     exact ⟨rfl,hb⟩
  ·exact ⟨false,1,.inr ⟨.inl rfl,rfl⟩,fun h=>absurd h sP,fun h=>absurd h oM,fun w ga gi _ h=>(definiteN_nh w ga gi n F (h.mat hall) h5 hF hH).mono fun e w' h=>⟨h.2,.inl ⟨sP,h.1⟩⟩,fun w ga gi h=>rDefinite_nh w ga gi n F (h.mat hall) h5 hF hH⟩
 ·exact ⟨false,4,.inr ⟨.inr rfl,rfl⟩,fun h=>absurd h sP,fun h=>absurd h oM,fun w ga gi _ h=>(definiteN_bad w _ n ml F (h.nss _) oM (fun i hi=>Nat.le_trans (hml i hi) oM) hs).mono fun e w' h=>⟨h.2,.inl ⟨sP,h.1⟩⟩,
   fun w ga gi h=>rDefinite_bad w _ n ml F (h.qss _) oM (fun i hi=>Nat.le_trans (hml i hi) oM) hs⟩
theorem form_both (hf:∀ i,Sz (f i) 2):∃ (k:Int) (x:Cx),(k = 0 ∨ k = 4) /\ Sz x 2000 /\ (k = 0 -> x = bf n 0 F f f) /\
  (∀ w ga gi gb,Tab w -> RagN w ga gi n ml F -> NBlk w gb p f -> Calls Tryz.prog 33 #[.slice (some ⟨ga,0,none⟩) n n,.slice (some ⟨gb,0,none⟩) p p] w (RetNumE w x k)) /\
  (∀ w ga gi gb,RagQ w ga gi n ml F -> QBlk w gb p (fun _=>True) f -> Calls Tryz.prog 34 #[.slice (some ⟨ga,0,none⟩) n n,.slice (some ⟨gb,0,none⟩) p p] w (RetQE w x k)):=by
 by_cases hs:Sqr n ml /\ p = n
 ·obtain ⟨hs,rfl⟩:=hs
  have h5:=(hV hs.1).1
  have hall:=hs.all
  refine ⟨0,bf p 0 F f f,.inl rfl,?_,fun _=>rfl,fun w ga gi gb hT h hb=>formN_ok w ga gb gi p 2 F f (h.mat hall) hb h5 hT (fun i k _ _=>hF i k) (fun i _=>hf i) oM,fun w ga gi gb h hb=>rForm_ok w ga gb gi p 2 F f (h.mat hall) hb h5 (fun i k _ _=>hF i k) (fun i _=>hf i) oM⟩
  unfold bf
  refine (sm_sz (p:=40) (p - 0) 0 fun i _ hi=>((hf i).conj.mul (sm_sz (p:=5) (p - 0) 0 fun j _ _=>(hF i j).mul (hf j))).mono oM).mono oM
 ·exact ⟨4,.zero,.inr rfl,Sz.zero oM,fun h=>absurd h oM,fun w ga gi gb _ h hb=>formN_bad w _ _ n p ml F f (h.nss _) ⟨_,_,rfl,fun _=>⟨gb,rfl,hb⟩⟩ oM (fun i hi=>Nat.le_trans (hml i hi) oM) hs,
   fun w ga gi gb h hb=>rForm_bad w _ _ n p ml F f (h.qss _) ⟨_,_,rfl,fun _=>⟨gb,rfl,hb⟩⟩ oM (fun i hi=>Nat.le_trans (hml i hi) oM) hs⟩
end
end Go.Proofs.YtffegeaflohfhaaGreatDoor
