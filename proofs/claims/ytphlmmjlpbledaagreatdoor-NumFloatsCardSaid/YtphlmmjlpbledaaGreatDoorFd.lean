
/- What a complex float is worth, in lowest terms. -/
import Derived.Test.YtphlmmjlpbledaaGreatDoorK01
import Derived.Test.YtphlmmjlpbledaaGreatDoorFa
set_option linter.unusedSimpArgs false
set_option linter.unusedVariables false
namespace Go.Proofs.YtphlmmjlpbledaaGreatDoor

/-- 2^1074. -/
def ex74 : Nat := 1074
theorem ex74_eq : ex74 = 1074 := rfl
def two74 : Nat := 2 ^ ex74
theorem two74_pos : 0 < two74 := Nat.pow_pos (by omega)
def cf (a b : Nat) : Cx := ⟨(fI a : Rat) / (two74 : Rat), (fI b : Rat) / (two74 : Rat)⟩
theorem gcd_two_odd {k m : Nat} (h : m % 2 = 1) : Nat.gcd (2 ^ k) m = 1 := by
  refine Nat.Coprime.pow_left k ?_
  show Nat.gcd 2 m = 1
  rw [Nat.gcd_rec, h, Nat.gcd_one_left]
theorem scale_part {z n low : Int} {f : Int} (h : z * 2 ^ (n + 1074).toNat = f) (h1 : -1074 ≤ n) (h2 : low ≤ n) (h3 : low ≤ 0) :
    (f : Rat) / (two74 : Rat) * ((2 ^ (-low).toNat : Nat) : Rat) = ((z * 2 ^ (n - low).toNat : Int) : Rat) := by
  have hT : (two74 : Rat) ≠ 0 := natCast_ne two74_pos
  have hi := Rat.inv_mul_cancel _ hT
  have e1 : (2 : Int) ^ (n + 1074).toNat * 2 ^ (-low).toNat = 2 ^ (n - low).toNat * (two74 : Int) := by
    unfold two74
    rw [show (((2 ^ ex74 : Nat)) : Int) = (2 : Int) ^ ex74 from by rw [Int.natCast_pow]; rfl, ← Int.pow_add, ← Int.pow_add]
    congr 1
    have := ex74_eq
    omega
  have e2 : f * ((2 ^ (-low).toNat : Nat) : Int) = z * 2 ^ (n - low).toNat * (two74 : Int) := by
    rw [← h, show (((2 ^ (-low).toNat : Nat)) : Int) = (2 : Int) ^ (-low).toNat from by rw [Int.natCast_pow]; rfl, Int.mul_assoc, e1, Int.mul_assoc]
  have e3 := congrArg (fun t : Int => (t : Rat)) e2
  simp only [Rat.intCast_mul, Rat.intCast_natCast] at e3
  rw [Rat.div_def, Rat.intCast_mul]
  grind
theorem cf_low {x y : Nat} {z1 z2 n1 n2 low : Int} (h1 : z1 * 2 ^ (n1 + 1074).toNat = fI x) (h2 : z2 * 2 ^ (n2 + 1074).toNat = fI y) (b1 : -1074 ≤ n1) (b2 : -1074 ≤ n2)
    (o1 : z1 = 0 ∧ n1 = 0 ∨ z1 % 2 ≠ 0) (o2 : z2 = 0 ∧ n2 = 0 ∨ z2 % 2 ≠ 0) (hl : low = min (min n1 n2) 0) :
    Low (cf x y) (z1 * 2 ^ (n1 - low).toNat) (z2 * 2 ^ (n2 - low).toNat) (2 ^ (-low).toNat) := by
  refine ⟨Nat.pow_pos (by omega), ?_, scale_part h1 b1 (by omega) (by omega), scale_part h2 b2 (by omega) (by omega)⟩
  rcases Int.lt_or_le low 0 with h0 | h0
  · rcases (show low = n1 ∨ low = n2 by omega) with h | h
    · rcases o1 with ⟨-, h3⟩ | h3
      · omega
      · have e : (n1 - low).toNat = 0 := by omega
        rw [e, gcd_two_odd (by simp; omega)]
        simp
    · rcases o2 with ⟨-, h3⟩ | h3
      · omega
      · have e : (n2 - low).toNat = 0 := by omega
        rw [e]
        refine Nat.Coprime.coprime_dvd_left (Nat.gcd_dvd_left _ _) (gcd_two_odd (by simp; omega))
  · have e : (-low).toNat = 0 := by omega
    rw [e]
    simp
end Go.Proofs.YtphlmmjlpbledaaGreatDoor
