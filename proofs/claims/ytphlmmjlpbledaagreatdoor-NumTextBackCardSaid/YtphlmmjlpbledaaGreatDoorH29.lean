import Derived.Test.YtphlmmjlpbledaaGreatDoorH28
set_option linter.unusedSimpArgs false
set_option linter.unusedVariables false
namespace Go.Proofs.YtphlmmjlpbledaaGreatDoor
open Go.RowKit
set_option maxRecDepth 100000
theorem sameN_k (v u : Value) (x y : Cx) (w : World) (h : IsNum w v x) (h' : IsNum w u y) (m : Nat) (hx : Sz x m) (hy : Sz y m) (hm : m < 549755813888) {b : Bool} (hb : decide (x = y) = b) :
    Calls Tryz.prog 19 #[v, u] w fun e w' => e = .returned (.bool b) ∧ Below w.heap.size w w' := by
  have := sameN_any v u x y w h h' m hx hy hm
  rwa [hb] at this
theorem same_t {x y : Cx} (h : x = y) : decide (x = y) = true := decide_eq_true h
end Go.Proofs.YtphlmmjlpbledaaGreatDoor
