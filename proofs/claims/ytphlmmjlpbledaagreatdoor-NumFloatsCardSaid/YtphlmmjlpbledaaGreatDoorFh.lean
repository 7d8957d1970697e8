
/- What num.Complex makes, taken apart again. -/
import Derived.Test.YtphlmmjlpbledaaGreatDoorK27
import Derived.Test.YtphlmmjlpbledaaGreatDoorFg
set_option linter.unusedSimpArgs false
set_option linter.unusedVariables false
namespace Go.Proofs.YtphlmmjlpbledaaGreatDoor

theorem wl_of_two {x k n : Nat} (h : x < 2 ^ k) (hk : k ≤ 32 * n) : wl x ≤ n :=
  wl_le_of (by rw [show (4294967296 : Nat) = 2 ^ 32 from rfl, ← Nat.pow_mul]; exact Nat.lt_of_lt_of_le h (Nat.pow_le_pow_right (by omega) hk))
theorem two74_wl : wl two74 ≤ 34 := wl_of_two (k := ex74 + 1) (Nat.pow_lt_pow_right (by omega) (Nat.lt_succ_self _)) (by rw [ex74_eq]; omega)
theorem fI_wl (b : Nat) : wl (fI b).natAbs ≤ 67 := by
  have h := fmag_lt b
  have hu : fup b ≤ 2046 := by have := fx_lt b; unfold fup; omega
  have hk : fmag b * 2 ^ fup b < 2 ^ (53 + fup b) := by
    rw [Nat.pow_add]
    exact Nat.mul_lt_mul_of_pos_right (by simpa using h) (Nat.pow_pos (by omega))
  rw [fI_abs]
  exact wl_of_two hk (by omega)
theorem div_two74 (z : Int) : (z : Rat) / (two74 : Rat) * (two74 : Rat) = (z : Rat) := by
  have hi := Rat.inv_mul_cancel _ (natCast_ne two74_pos)
  rw [Rat.div_def, Rat.mul_assoc, hi, Rat.mul_one]
theorem cf_sz (x y : Nat) : Sz (cf x y) 67 := Sz.of two74_pos (div_two74 _) (div_two74 _) (fI_wl x) (fI_wl y) (Nat.le_trans two74_wl (by omega))
theorem isF_of {b d : Nat} {a : Int} (h : (fI b : Rat) / (two74 : Rat) * (d : Rat) = (a : Rat)) : IsF b a d := by
  unfold IsF
  refine Rat.intCast_inj.1 ?_
  rw [Rat.intCast_mul, Rat.intCast_mul, Rat.intCast_natCast, Rat.intCast_natCast, ← h]
  have := div_two74 (fI b)
  grind
theorem cf_isF {x y d : Nat} {a b : Int} (h : Low (cf x y) a b d) : 0 < d ∧ IsF x a d ∧ IsF y b d := by
  obtain ⟨h1, -, h3, h4⟩ := h
  exact ⟨h1, isF_of h3, isF_of h4⟩
end Go.Proofs.YtphlmmjlpbledaaGreatDoor
