
/- A complex float as the reference makes it. -/
import Derived.Test.YtphlmmjlpbledaaGreatDoorK27
import Derived.Test.YtphlmmjlpbledaaGreatDoorFh
set_option linter.unusedSimpArgs false
set_option linter.unusedVariables false
namespace Go.Proofs.YtphlmmjlpbledaaGreatDoor

/-- The real number that a float means, and its digits with the sign. -/
def dy (b : Nat) : Cx := ⟨(fI b : Rat) / (two74 : Rat), 0⟩
def fS (b : Nat) : Int := if fneg b then -((fmag b : Nat) : Int) else ((fmag b : Nat) : Int)
def ci : Cx := ⟨0, 1⟩
theorem fI_S (b : Nat) : fI b = fS b * ((2 ^ fup b : Nat) : Int) := by
  unfold fI fS
  split
  · rw [Int.neg_mul, Int.natCast_mul]
  · rw [Int.natCast_mul]
theorem fS_abs (b : Nat) : (fS b).natAbs = fmag b := by
  unfold fS
  split
  · rw [Int.natAbs_neg, Int.natAbs_natCast]
  · rw [Int.natAbs_natCast]
theorem fS_neg (b : Nat) : decide (fS b < 0) = (fneg b && decide (fmag b ≠ 0)) := by
  unfold fS
  cases fneg b
  · simp only [Bool.false_eq_true, if_false, Bool.false_and, decide_eq_false_iff_not]; omega
  · simp only [if_true, Bool.true_and, decide_eq_decide]; omega
theorem dy_sz (b : Nat) : Sz (dy b) 67 := Sz.of (b := 0) two74_pos (div_two74 _) (by show (0 : Rat) * _ = _; simp) (fI_wl b) (by simp [wl_zero]) (Nat.le_trans two74_wl (by omega))
theorem ci_low : Low ci 0 1 1 := ⟨by omega, by decide, by show (0 : Rat) * _ = _; simp, by show (1 : Rat) * _ = _; simp⟩
theorem ci_sz : Sz ci 1 := Sz.low ci_low (by simp [wl_zero]) (Nat.le_of_eq wl_one) (Nat.le_of_eq wl_one)
theorem cf_dy (x y : Nat) : (dy x).add ((dy y).mul ci) = cf x y := by
  refine Cx.ext ?_ ?_
  · show (fI x : Rat) / (two74 : Rat) + ((fI y : Rat) / (two74 : Rat) * 0 - 0 * 1) = (fI x : Rat) / (two74 : Rat)
    grind
  · show (0 : Rat) + ((fI y : Rat) / (two74 : Rat) * 1 + 0 * 0) = (fI y : Rat) / (two74 : Rat)
    grind
/-- From 2^1074 on: an integer. -/
theorem dy_big {b k : Nat} (h : fup b = 1074 + k) : Low (dy b) (fS b * ((2 ^ k : Nat) : Int)) 0 1 := by
  refine ⟨by omega, by simp, ?_, by show (0 : Rat) * _ = _; simp⟩
  have e : fS b * ((2 ^ k : Nat) : Int) * (two74 : Int) = fI b := by
    have : (2 : Nat) ^ fup b = 2 ^ k * two74 := by unfold two74; rw [← Nat.pow_add, h, ex74_eq, Nat.add_comm]
    rw [fI_S, this, Int.natCast_mul, Int.mul_assoc]
  have e3 := congrArg (fun t : Int => (t : Rat)) e
  simp only [Rat.intCast_mul, Rat.intCast_natCast] at e3
  have hi := Rat.inv_mul_cancel _ (natCast_ne two74_pos)
  show (fI b : Rat) / (two74 : Rat) * ((1 : Nat) : Rat) = _
  rw [Rat.div_def, ← e3, Rat.intCast_mul, Rat.intCast_natCast]
  have e4 : ((1 : Nat) : Rat) = 1 := rfl
  rw [e4]
  grind
theorem dy_small {b k : Nat} (h : fup b + k = 1074) : (dy b).re * ((2 ^ k : Nat) : Rat) = ((fS b : Int) : Rat) := by
  have e : fI b * ((2 ^ k : Nat) : Int) = fS b * (two74 : Int) := by
    have : two74 = 2 ^ fup b * 2 ^ k := by unfold two74; rw [← Nat.pow_add, h, ex74_eq]
    rw [fI_S, this, Int.natCast_mul, Int.mul_assoc]
  have e3 := congrArg (fun t : Int => (t : Rat)) e
  simp only [Rat.intCast_mul, Rat.intCast_natCast] at e3
  have hi := Rat.inv_mul_cancel _ (natCast_ne two74_pos)
  show (fI b : Rat) / (two74 : Rat) * _ = _
  rw [Rat.div_def]
  grind
theorem dy_im (b k : Nat) : (dy b).im * ((2 ^ k : Nat) : Rat) = ((0 : Int) : Rat) := by show (0 : Rat) * _ = _; simp
end Go.Proofs.YtphlmmjlpbledaaGreatDoor
