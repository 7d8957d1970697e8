import Derived.Test.YtffegeaflohfhaaGreatDoorT41
import Derived.Test.YtffegeaflohfhaaGreatDoorT47
import Derived.Test.YtffegeaflohfhaaGreatDoorS02
set_option linter.unusedVariables false
set_option linter.unusedSimpArgs false
set_option maxRecDepth 100000
set_option maxHeartbeats 8000000
namespace Go.Proofs.YtffegeaflohfhaaGreatDoor
open Go.RowKit
theorem MatQ.butQ {W W':World} {go:Nat} {gi:Nat -> Nat} {n m:Nat} {F:Nat -> Nat -> Cx} (h:MatQ W go gi n m F) {g:Nat} (hb:But W W' g) (he:Ext W W') (h1:go ≠ g) (h2:∀ i,i < n -> gi i ≠ g):MatQ W' go gi n m F:=by
 obtain ⟨cs,c1,c2,c3,c4⟩:=h
 exact ⟨cs,(hb.other _ h1).trans c1,c2,c3,fun i hi=>(c4 i hi).but hb he (h2 i hi)⟩
end Go.Proofs.YtffegeaflohfhaaGreatDoor
