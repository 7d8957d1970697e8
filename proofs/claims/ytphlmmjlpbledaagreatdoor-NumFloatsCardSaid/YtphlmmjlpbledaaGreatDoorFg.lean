
/- How floats compare: as what they are worth. -/
import Derived.Test.YtphlmmjlpbledaaGreatDoorK27
import Derived.Test.YtphlmmjlpbledaaGreatDoorFf
set_option linter.unusedSimpArgs false
set_option linter.unusedVariables false
namespace Go.Proofs.YtphlmmjlpbledaaGreatDoor

theorem compare_scale (x y : Int) (k : Nat) : compare (x * ((2 ^ k : Nat) : Int)) (y * ((2 ^ k : Nat) : Int)) = compare x y := by
  have hk : (0 : Int) < ((2 ^ k : Nat) : Int) := by have := Nat.pow_pos (a := 2) (n := k) (by omega); omega
  generalize ((2 ^ k : Nat) : Int) = c at hk
  show compareOfLessAndEq _ _ = compareOfLessAndEq _ _
  unfold compareOfLessAndEq
  have e1 : x * c < y * c ↔ x < y := ⟨fun h => Int.lt_of_mul_lt_mul_right h (Int.le_of_lt hk), fun h => Int.mul_lt_mul_of_pos_right h hk⟩
  have e2 : x * c = y * c ↔ x = y := ⟨fun h => Int.eq_of_mul_eq_mul_right (by omega) h, fun h => by rw [h]⟩
  simp only [e1, e2]
theorem signed_up {b k : Nat} (h : k ≤ fup b) : Ieee.signed (fneg b) (fmag b) (fup b - k) * ((2 ^ k : Nat) : Int) = fI b := by
  have e : fmag b * 2 ^ (fup b - k) * 2 ^ k = fmag b * 2 ^ fup b := by rw [Nat.mul_assoc, ← Nat.pow_add]; congr 2; omega
  unfold Ieee.signed fI
  rw [Nat.shiftLeft_eq, ← e]
  split
  · rw [Int.neg_mul, ← Int.natCast_mul]
  · rw [← Int.natCast_mul]
theorem order_fI {a b : Nat} (ha : a < 18446744073709551616) (hb : b < 18446744073709551616) (xa : fx a ≠ 2047) (xb : fx b ≠ 2047) : Ieee.double.order a b = some (compare (fI a) (fI b)) := by
  unfold Ieee.Format.order
  rw [read_fin ha xa, read_fin hb xb]
  unfold Ieee.Datum.order
  simp only
  obtain ⟨k, hk⟩ : ∃ k, k = min (fup a) (fup b) := ⟨_, rfl⟩
  have e0 : min ((fup a : Nat) - 1074 : Int) ((fup b : Nat) - 1074) = (k : Int) - 1074 := by omega
  rw [e0]
  have e1 : ((fup a : Nat) - 1074 - ((k : Int) - 1074) : Int).toNat = fup a - k := by omega
  have e2 : ((fup b : Nat) - 1074 - ((k : Int) - 1074) : Int).toNat = fup b - k := by omega
  rw [e1, e2, ← compare_scale _ _ k, signed_up (by omega), signed_up (by omega)]
theorem fI_zero : fI 0 = 0 := by decide
theorem fx_zero : fx 0 = 0 := by decide
theorem fmag_zero : fmag 0 = 0 := by decide
/-- A float without its sign, if it is 0. -/
def fz (b : Nat) : Nat := if fmag b = 0 then 0 else b
theorem fI_of_zero {b : Nat} (h : fmag b = 0) : fI b = 0 := by unfold fI; rw [h]; simp
theorem fz_I (b : Nat) : fI (fz b) = fI b := by
  unfold fz
  split
  · rename_i h; rw [fI_zero, fI_of_zero h]
  · rfl
theorem fz_lt {b : Nat} (h : b < 18446744073709551616) : fz b < 18446744073709551616 := by unfold fz; split <;> omega
theorem fz_fin {b : Nat} (h : fx b ≠ 2047) : fx (fz b) ≠ 2047 := by
  unfold fz
  split
  · rw [fx_zero]; omega
  · exact h
theorem fz_same {b : Nat} (h : b < 18446744073709551616) (hx : fx b ≠ 2047) : (Ieee.double.order (fz b) b == some Ordering.eq) = true := by
  rw [order_fI (fz_lt h) h (fz_fin hx) hx, fz_I]
  have : compare (fI b) (fI b) = Ordering.eq := by show compareOfLessAndEq _ _ = _; simp [compareOfLessAndEq]
  rw [this]; rfl
theorem order_ge {b : Nat} (h : b < 18446744073709551616) (hx : fx b ≠ 2047) : (Ieee.double.order b 0 == some Ordering.gt || Ieee.double.order b 0 == some Ordering.eq) = decide (0 ≤ fI b) := by
  rw [order_fI h (by omega) hx (by rw [fx_zero]; omega), fI_zero]
  show ((some (compareOfLessAndEq (fI b) 0)) == some Ordering.gt || (some (compareOfLessAndEq (fI b) 0)) == some Ordering.eq) = _
  unfold compareOfLessAndEq
  by_cases h1 : fI b < 0
  · rw [if_pos h1, decide_eq_false (by omega)]; rfl
  · rw [if_neg h1, decide_eq_true (by omega)]
    by_cases h2 : fI b = 0
    · rw [if_pos h2]; rfl
    · rw [if_neg h2]; rfl
theorem fz_sign (b : Nat) : (!fneg (fz b)) = decide (0 ≤ fI b) := by
  by_cases h : fmag b = 0
  · have e : fz b = 0 := by unfold fz; rw [if_pos h]
    rw [e, fI_of_zero h]; rfl
  · have e : fz b = b := by unfold fz; rw [if_neg h]
    have h1 := fI_neg b
    rw [decide_eq_true h, Bool.and_true] at h1
    rw [e, ← h1]
    by_cases h2 : fI b < 0
    · rw [decide_eq_true h2, decide_eq_false (by omega)]; rfl
    · rw [decide_eq_false h2, decide_eq_true (by omega)]; rfl
theorem nearB_fz {b : Nat} {a : Int} {d : Nat} (hb : b < 18446744073709551616) (hx : fx b ≠ 2047) (hd : 0 < d) (h : IsF b a d) : nearB a d = fz b := nearB_eq hb hx hd h
end Go.Proofs.YtphlmmjlpbledaaGreatDoor
