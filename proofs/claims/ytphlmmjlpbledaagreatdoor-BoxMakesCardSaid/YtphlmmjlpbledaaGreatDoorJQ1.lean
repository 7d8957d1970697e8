import Derived.Lib.TrailingZeros
import Derived.Test.YtphlmmjlpbledaaGreatDoorK04
import Derived.Test.YtphlmmjlpbledaaGreatDoorK01
import Derived.Test.YtphlmmjlpbledaaGreatDoorK27
set_option linter.unusedSimpArgs false
set_option linter.unusedVariables false
namespace Go.Proofs.YtphlmmjlpbledaaGreatDoor
open Go.RowKit
set_option maxRecDepth 100000

/-- The table of math/bits lies where it was laid. -/
def Tab64 (w : World) : Prop := 1 < w.heap.size ∧ ∀ k, k < 64 → w.cell? ⟨1, k, none⟩ = some (.int .u8 ((Lib.deBruijn64tab.getD k 0 : Nat) : Int))
theorem Tab64.below {w w' : World} (h : Tab64 w) (hb : Below w.heap.size w w') : Tab64 w' :=
  ⟨Nat.lt_of_lt_of_le h.1 hb.size, fun k hk => (hb.cell (p := ⟨1, k, none⟩) h.1).trans (h.2 k hk)⟩
theorem u64_wrap (n : Int) : IntKind.u64.wrap n = n % 18446744073709551616 := rfl
theorem tz64_key (x a : Nat) (hx : x < 18446744073709551616) (hx0 : x ≠ 0) (hlow : x &&& (18446744073709551616 - x) = a) :
    IntKind.u64.wrap (bits BinOp.and IntKind.u64 (x : Int) (IntKind.u64.wrap (-(x : Int))) * 285870213051353865) / 288230376151711744 = ((a * 285870213051353865 % 18446744073709551616 / 288230376151711744 : Nat) : Int) := by
  have e1 : IntKind.u64.wrap (-(x : Int)) = ((18446744073709551616 - x : Nat) : Int) := by rw [u64_wrap]; omega
  rw [e1, u64_and_nat x _ hx (by omega), hlow, u64_wrap]
  omega
theorem tz64_core (x k idx : Nat) (w : World) (h0 : ((x : Int) == 0) = false)
    (key : IntKind.u64.wrap (bits BinOp.and IntKind.u64 (x : Int) (IntKind.u64.wrap (-(x : Int))) * 285870213051353865) / 288230376151711744 = (idx : Int))
    (hi : idx < 64) (hk : k < 64) (hcell : w.cell? ⟨1, idx, none⟩ = some (.int .u8 (k : Int))) :
    Calls Tryz.prog 143 #[.int .u64 (x : Int)] w fun e w' => e = .returned (.int .i64 (k : Int)) ∧ w = w' := by
  go_enter Tryz.func143, Tryz.ntmps143
  go_wp2_with (simp only [key])
  go_ret
  exact ⟨rfl, rfl⟩
theorem tz64_any (x : Nat) (w : World) (hx0 : x ≠ 0) (hx : x < 18446744073709551616) (hT : Tab64 w) :
    Calls Tryz.prog 143 #[.int .u64 (x : Int)] w fun e w' => e = .returned (.int .i64 ((Lib.ctz 64 x : Nat) : Int)) ∧ w = w' := by
  obtain ⟨hlow, hk⟩ := Lib.lowest_bit 64 x hx0 hx
  obtain ⟨hi, htab⟩ := Lib.deBruijn64_at _ hk
  have hcell := hT.2 _ hi
  rw [htab] at hcell
  exact tz64_core x _ _ w (by simp; omega) (tz64_key x _ hx hx0 hlow) hi hk hcell
theorem floatbits_run (w : World) (n : Nat) : (callFunc 52 #[.float .f64 n]).run Tryz.prog w = .ok (.value (.int .u64 (n : Int))) w := by
  rw [run_callFunc_extern (f := 52) (fn := Tryz.f52) (e := Extern.MathFloatBits.float64bits) (by kernel_rfl) (by kernel_rfl) (by kernel_rfl) (by kernel_rfl) (by kernel_rfl)]
  rfl

/-- The field of the exponent, the fraction, the magnitude, its place from 2^-1074 on, the sign. -/
def fx (b : Nat) : Nat := b / 4503599627370496 % 2048
def fm (b : Nat) : Nat := b % 4503599627370496
def fmag (b : Nat) : Nat := if fx b = 0 then fm b else fm b + 4503599627370496
def fup (b : Nat) : Nat := fx b - 1
def fneg (b : Nat) : Bool := decide (9223372036854775808 ≤ b)
/-- What a finite float is worth, in units of 2^-1074. -/
def fI (b : Nat) : Int := if fneg b then -((fmag b * 2 ^ fup b : Nat) : Int) else ((fmag b * 2 ^ fup b : Nat) : Int)
theorem fx_lt (b : Nat) : fx b < 2048 := Nat.mod_lt _ (by omega)
theorem fm_lt (b : Nat) : fm b < 4503599627370496 := Nat.mod_lt _ (by omega)
theorem fmag_lt (b : Nat) : fmag b < 9007199254740992 := by have := fm_lt b; unfold fmag; split <;> omega
/-- The bits of a finite float, read. -/
theorem read_fin {b : Nat} (hb : b < 18446744073709551616) (h : fx b ≠ 2047) : Ieee.double.read b = .number (fneg b) (fmag b) ((fup b : Nat) - 1074 : Int) := by
  have e1 : Ieee.double.signWeight = 9223372036854775808 := by decide
  have e2 : Ieee.double.binade = 4503599627370496 := by decide
  have e3 : Ieee.double.infRung = 9218868437227405312 := by decide +kernel
  have e4 : Ieee.double.leastPlace = -1074 := by decide +kernel
  have hn : (b / 9223372036854775808 % 2 == 1) = fneg b := by
    unfold fneg
    rw [Bool.eq_iff_iff]
    simp
    omega
  unfold Ieee.Format.read
  simp only [e1, e2, e3, e4, hn]
  unfold fx at h
  by_cases h0 : fx b = 0
  · have h1 := h0
    unfold fx at h1
    have h2 : b % 9223372036854775808 = fm b := by unfold fm; omega
    rw [h2, if_pos (fm_lt b)]
    unfold fmag fup
    rw [if_pos h0, h0]
    rfl
  · have h1 := h0
    unfold fx at h1
    rw [if_neg (by omega), if_pos (by omega)]
    unfold fmag fup fm
    rw [if_neg h0]
    unfold fx
    congr 1
    · omega
    · omega
theorem read_zero : Ieee.double.read 0 = .number false 0 (-1074) := by decide +kernel
/-- Below 0, as the machine compares. -/
theorem order_zero {b : Nat} (hb : b < 18446744073709551616) (h : fx b ≠ 2047) (h0 : fmag b ≠ 0) : Ieee.double.order b 0 = some (if fneg b then .lt else .gt) := by
  unfold Ieee.Format.order
  rw [read_fin hb h, read_zero]
  unfold Ieee.Datum.order
  simp only
  have e0 : Ieee.signed false 0 (-1074 - min ((fup b : Nat) - 1074 : Int) (-1074)).toNat = 0 := by simp [Ieee.signed]
  have ep : min ((fup b : Nat) - 1074 : Int) (-1074) = -1074 := by omega
  rw [ep] at e0 ⊢
  rw [e0]
  have e5 : ((fup b : Nat) - 1074 - -1074 : Int).toNat = fup b := by omega
  rw [e5]
  have hp : 0 < fmag b <<< fup b := by rw [Nat.shiftLeft_eq]; exact Nat.mul_pos (by omega) (Nat.pow_pos (by omega))
  unfold Ieee.signed
  generalize fmag b <<< fup b = m at hp
  congr 1
  cases fneg b
  · simp only [Bool.false_eq_true, if_false]
    exact Int.compare_eq_gt.2 (by omega)
  · simp only [if_true]
    exact Int.compare_eq_lt.2 (by omega)
end Go.Proofs.YtphlmmjlpbledaaGreatDoor
namespace Go.Proofs.YtphlmmjlpbledaaGreatDoor

/-- 2^1074. -/
def ex74 : Nat := 1074
theorem ex74_eq : ex74 = 1074 := rfl
def two74 : Nat := 2 ^ ex74
theorem two74_pos : 0 < two74 := Nat.pow_pos (by omega)
def cf (a b : Nat) : Cx := ⟨(fI a : Rat) / (two74 : Rat), (fI b : Rat) / (two74 : Rat)⟩
theorem gcd_two_odd {k m : Nat} (h : m % 2 = 1) : Nat.gcd (2 ^ k) m = 1 := by
  refine Nat.Coprime.pow_left k ?_
  show Nat.gcd 2 m = 1
  rw [Nat.gcd_rec, h, Nat.gcd_one_left]
theorem scale_part {z n low : Int} {f : Int} (h : z * 2 ^ (n + 1074).toNat = f) (h1 : -1074 ≤ n) (h2 : low ≤ n) (h3 : low ≤ 0) :
    (f : Rat) / (two74 : Rat) * ((2 ^ (-low).toNat : Nat) : Rat) = ((z * 2 ^ (n - low).toNat : Int) : Rat) := by
  have hT : (two74 : Rat) ≠ 0 := natCast_ne two74_pos
  have hi := Rat.inv_mul_cancel _ hT
  have e1 : (2 : Int) ^ (n + 1074).toNat * 2 ^ (-low).toNat = 2 ^ (n - low).toNat * (two74 : Int) := by
    unfold two74
    rw [show (((2 ^ ex74 : Nat)) : Int) = (2 : Int) ^ ex74 from by rw [Int.natCast_pow]; rfl, ← Int.pow_add, ← Int.pow_add]
    congr 1
    have := ex74_eq
    omega
  have e2 : f * ((2 ^ (-low).toNat : Nat) : Int) = z * 2 ^ (n - low).toNat * (two74 : Int) := by
    rw [← h, show (((2 ^ (-low).toNat : Nat)) : Int) = (2 : Int) ^ (-low).toNat from by rw [Int.natCast_pow]; rfl, Int.mul_assoc, e1, Int.mul_assoc]
  have e3 := congrArg (fun t : Int => (t : Rat)) e2
  simp only [Rat.intCast_mul, Rat.intCast_natCast] at e3
  rw [Rat.div_def, Rat.intCast_mul]
  grind
theorem cf_low {x y : Nat} {z1 z2 n1 n2 low : Int} (h1 : z1 * 2 ^ (n1 + 1074).toNat = fI x) (h2 : z2 * 2 ^ (n2 + 1074).toNat = fI y) (b1 : -1074 ≤ n1) (b2 : -1074 ≤ n2)
    (o1 : z1 = 0 ∧ n1 = 0 ∨ z1 % 2 ≠ 0) (o2 : z2 = 0 ∧ n2 = 0 ∨ z2 % 2 ≠ 0) (hl : low = min (min n1 n2) 0) :
    Low (cf x y) (z1 * 2 ^ (n1 - low).toNat) (z2 * 2 ^ (n2 - low).toNat) (2 ^ (-low).toNat) := by
  refine ⟨Nat.pow_pos (by omega), ?_, scale_part h1 b1 (by omega) (by omega), scale_part h2 b2 (by omega) (by omega)⟩
  rcases Int.lt_or_le low 0 with h0 | h0
  · rcases (show low = n1 ∨ low = n2 by omega) with h | h
    · rcases o1 with ⟨-, h3⟩ | h3
      · omega
      · have e : (n1 - low).toNat = 0 := by omega
        rw [e, gcd_two_odd (by simp; omega)]
        simp
    · rcases o2 with ⟨-, h3⟩ | h3
      · omega
      · have e : (n2 - low).toNat = 0 := by omega
        rw [e]
        refine Nat.Coprime.coprime_dvd_left (Nat.gcd_dvd_left _ _) (gcd_two_odd (by simp; omega))
  · have e : (-low).toNat = 0 := by omega
    rw [e]
    simp
end Go.Proofs.YtphlmmjlpbledaaGreatDoor
namespace Go.Proofs.YtphlmmjlpbledaaGreatDoor
open Go.RowKit
set_option maxRecDepth 100000
theorem fI_abs (b : Nat) : (fI b).natAbs = fmag b * 2 ^ fup b := by
  unfold fI
  split
  · rw [Int.natAbs_neg, Int.natAbs_natCast]
  · rw [Int.natAbs_natCast]
theorem wl_of_two {x k n : Nat} (h : x < 2 ^ k) (hk : k ≤ 32 * n) : wl x ≤ n :=
  wl_le_of (by rw [show (4294967296 : Nat) = 2 ^ 32 from rfl, ← Nat.pow_mul]; exact Nat.lt_of_lt_of_le h (Nat.pow_le_pow_right (by omega) hk))
theorem two74_wl : wl two74 ≤ 34 := wl_of_two (k := ex74 + 1) (Nat.pow_lt_pow_right (by omega) (Nat.lt_succ_self _)) (by rw [ex74_eq]; omega)
theorem fI_wl (b : Nat) : wl (fI b).natAbs ≤ 67 := by
  have h := fmag_lt b
  have hu : fup b ≤ 2046 := by have := fx_lt b; unfold fup; omega
  have hk : fmag b * 2 ^ fup b < 2 ^ (53 + fup b) := by
    rw [Nat.pow_add]
    exact Nat.mul_lt_mul_of_pos_right (by simpa using h) (Nat.pow_pos (by omega))
  rw [fI_abs]
  exact wl_of_two hk (by omega)
theorem div_two74 (z : Int) : (z : Rat) / (two74 : Rat) * (two74 : Rat) = (z : Rat) := by
  have hi := Rat.inv_mul_cancel _ (natCast_ne two74_pos)
  rw [Rat.div_def, Rat.mul_assoc, hi, Rat.mul_one]
theorem cf_sz (x y : Nat) : Sz (cf x y) 67 := Sz.of two74_pos (div_two74 _) (div_two74 _) (fI_wl x) (fI_wl y) (Nat.le_trans two74_wl (by omega))
theorem signbit_any (b : Nat) (w : World) (hb : b < 18446744073709551616) :
    Calls Tryz.prog 24 #[.float .f64 b] w fun e w' => e = .returned (.bool (fneg b)) ∧ w = w' := by
  have hfb := floatbits_run
  have h1 : decide (wrap64 (b : Int) < 0) = fneg b := by
    unfold fneg wrap64
    rw [decide_eq_decide]
    omega
  generalize fneg b = o at *
  go_enter Tryz.func24, Tryz.ntmps24
  go_wp2
  go_ret
  exact ⟨rfl, rfl⟩
end Go.Proofs.YtphlmmjlpbledaaGreatDoor
