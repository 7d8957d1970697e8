import Derived.Test.YtccldiokpgjocaaGreatDoorR25
import Derived.Test.YtccldiokpgjocaaGreatDoorR33
set_option linter.unusedSimpArgs false
set_option linter.unusedVariables false
namespace Go.Proofs.YtccldiokpgjocaaGreatDoor
def gx (b : Nat) : Nat := b / 8388608 % 256
def cv (b : Nat) : Nat := Ieee.double.write (Ieee.single.read b)
end Go.Proofs.YtccldiokpgjocaaGreatDoor
set_option linter.unusedSimpArgs false
set_option linter.unusedVariables false
namespace Go.Proofs.YtccldiokpgjocaaGreatDoor
open Go.RowKit
set_option maxRecDepth 100000
end Go.Proofs.YtccldiokpgjocaaGreatDoor
