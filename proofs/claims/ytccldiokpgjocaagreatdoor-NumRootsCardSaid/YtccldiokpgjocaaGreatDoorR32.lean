import Derived.Lib.TrailingZeros
import Derived.Test.YtccldiokpgjocaaGreatDoorR04
import Derived.Test.YtccldiokpgjocaaGreatDoorR25
set_option linter.unusedSimpArgs false
set_option linter.unusedVariables false
namespace Go.Proofs.YtccldiokpgjocaaGreatDoor
open Go.RowKit
set_option maxRecDepth 100000
def fx (b : Nat) : Nat := b / 4503599627370496 % 2048
def fm (b : Nat) : Nat := b % 4503599627370496
def fmag (b : Nat) : Nat := if fx b = 0 then fm b else fm b + 4503599627370496
def fup (b : Nat) : Nat := fx b - 1
def fneg (b : Nat) : Bool := decide (9223372036854775808 ≤ b)
def fI (b : Nat) : Int := if fneg b then -((fmag b * 2 ^ fup b : Nat) : Int) else ((fmag b * 2 ^ fup b : Nat) : Int)
end Go.Proofs.YtccldiokpgjocaaGreatDoor
