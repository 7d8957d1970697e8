import Derived.Test.YtccldiokpgjocaaGreatDoorR01
import Derived.Test.YtccldiokpgjocaaGreatDoorR25
import Derived.Test.YtccldiokpgjocaaGreatDoorR32
set_option linter.unusedSimpArgs false
set_option linter.unusedVariables false
namespace Go.Proofs.YtccldiokpgjocaaGreatDoor
def ex74 : Nat := 1074
def two74 : Nat := 2 ^ ex74
def cf (a b : Nat) : Cx := ⟨(fI a : Rat) / (two74 : Rat), (fI b : Rat) / (two74 : Rat)⟩
def fz (b : Nat) : Nat := if fmag b = 0 then 0 else b
def dy (b : Nat) : Cx := ⟨(fI b : Rat) / (two74 : Rat), 0⟩
end Go.Proofs.YtccldiokpgjocaaGreatDoor
