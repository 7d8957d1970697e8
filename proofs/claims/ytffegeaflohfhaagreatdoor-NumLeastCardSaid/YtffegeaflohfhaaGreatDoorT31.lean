import Derived.Test.YtffegeaflohfhaaGreatDoorT29
import Derived.Test.YtffegeaflohfhaaGreatDoorS30
import Derived.Test.YtffegeaflohfhaaGreatDoorS02
set_option linter.unusedVariables false
set_option linter.unusedSimpArgs false
set_option maxRecDepth 100000
set_option maxHeartbeats 8000000
namespace Go.Proofs.YtffegeaflohfhaaGreatDoor
open Go.RowKit
def addC (F:Nat -> Nat -> Cx) (n:Nat) (f:Nat -> Cx) (i:Nat):Nat -> Nat -> Cx:=fun a b=>if b < n then F a b else if a < i then f a else .zero
theorem addC_next (F:Nat -> Nat -> Cx) (n i:Nat) (f:Nat -> Cx):∀ a b,b < n + 1 -> upm (addC F n f i) i n (f i) a b = addC F n f (i + 1) a b:=fun a b hb=>by
 unfold upm upf addC
 by_cases ha:a = i
 ·subst ha
  rw [if_pos rfl]
  by_cases hbn:b = n
  ·rw [if_pos hbn,if_neg oM,if_pos oM]
  ·rw [if_neg hbn,if_pos oM,if_pos oM]
 ·simp only [if_neg ha]
  by_cases hbn:b < n
  ·rw [if_pos hbn,if_pos hbn]
  ·rw [if_neg hbn,if_neg hbn]
   by_cases h:a < i
   ·rw [if_pos h,if_pos oM]
   ·rw [if_neg h,if_neg oM]
theorem MatAt.setRow {B:Nat} {W W':World} {go:Nat} {gi:Nat -> Nat} {n m:Nat} {F:Nat -> Nat -> Cx} (h:MatAt W go gi n m F) (hs:MatSep B go gi n) {i:Nat} (hi:i < n) {f:Nat -> Cx} (hb:But W W' (gi i)) (he:Ext W W') (hr:NBlk W' (gi i) m f):MatAt W' go gi n m (upf F i f):=by
 obtain ⟨cs,h1,h2,h3,h4⟩:=h
 refine ⟨cs,(hb.other _ (Ne.symm (hs.ne i hi))).trans h1,h2,h3,fun j hj=>?_⟩
 by_cases hji:j = i
 ·subst hji
  rw [upf_same]
  exact hr
 ·rw [upf_other _ _ hji]
  exact (h4 j hj).but hb he fun e=>hji (hs.inj j i hj hi e)
end Go.Proofs.YtffegeaflohfhaaGreatDoor
