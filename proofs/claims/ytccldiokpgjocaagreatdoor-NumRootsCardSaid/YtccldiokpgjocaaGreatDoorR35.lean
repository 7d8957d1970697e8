import Derived.Test.YtccldiokpgjocaaGreatDoorR04
import Derived.Test.YtccldiokpgjocaaGreatDoorR25
import Derived.Test.YtccldiokpgjocaaGreatDoorR26
set_option linter.unusedSimpArgs false
set_option linter.unusedVariables false
namespace Go.Proofs.YtccldiokpgjocaaGreatDoor
open Go.RowKit
set_option maxRecDepth 100000
theorem rBits_any (v : Value) (x : Nat) (w : World) (h : IsNat w v x) (hn : wl x < 1099511627776) :
    Calls Tryz.prog 108 #[v] w fun e w' => e = .returned (.int .i64 ((bl x : Nat) : Int)) ∧ w = w' := by
  by_cases h0 : x = 0
  · subst h0
    obtain ⟨A, c, rfl, -⟩ := h
    rw [wl_zero, show bl 0 = 0 from rfl]
    go_enter Tryz.func108, Tryz.ntmps108
    go_wp2
    go_ret
    exact ⟨rfl, rfl⟩
  · obtain ⟨n, hw⟩ : ∃ n, wl x = n + 1 := ⟨wl x - 1, by have := wl_eq_zero (x := x); omega⟩
    refine (rNatBits_any v x n w h hw (by omega)).mono fun e w' ⟨h1, h2⟩ => ⟨?_, h2⟩
    have hb := bl_words (x := x) (by omega)
    rw [hw, Nat.add_sub_cancel] at hb
    rw [h1, hb, Nat.mul_comm]
end Go.Proofs.YtccldiokpgjocaaGreatDoor
set_option linter.unusedSimpArgs false
set_option linter.unusedVariables false
namespace Go.Proofs.YtccldiokpgjocaaGreatDoor
end Go.Proofs.YtccldiokpgjocaaGreatDoor
