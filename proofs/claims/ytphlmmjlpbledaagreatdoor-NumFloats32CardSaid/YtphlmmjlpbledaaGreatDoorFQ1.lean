/- Single floats: what they mean, as doubles, and their own rounding. -/
import Derived.Test.YtphlmmjlpbledaaGreatDoorK04
import Derived.Lib.TrailingZeros
import Derived.Test.YtphlmmjlpbledaaGreatDoorK01
import Derived.Test.YtphlmmjlpbledaaGreatDoorK27
set_option linter.unusedSimpArgs false
set_option linter.unusedVariables false
namespace Go.Proofs.YtphlmmjlpbledaaGreatDoor
open Go.RowKit
set_option maxRecDepth 100000

/-- The table of math/bits lies where it was laid. -/
def Tab64 (w : World) : Prop := 1 < w.heap.size ∧ ∀ k, k < 64 → w.cell? ⟨1, k, none⟩ = some (.int .u8 ((Lib.deBruijn64tab.getD k 0 : Nat) : Int))
theorem Tab64.below {w w' : World} (h : Tab64 w) (hb : Below w.heap.size w w') : Tab64 w' :=
  ⟨Nat.lt_of_lt_of_le h.1 hb.size, fun k hk => (hb.cell (p := ⟨1, k, none⟩) h.1).trans (h.2 k hk)⟩
theorem u64_wrap (n : Int) : IntKind.u64.wrap n = n % 18446744073709551616 := rfl
theorem tz64_key (x a : Nat) (hx : x < 18446744073709551616) (hx0 : x ≠ 0) (hlow : x &&& (18446744073709551616 - x) = a) :
    IntKind.u64.wrap (bits BinOp.and IntKind.u64 (x : Int) (IntKind.u64.wrap (-(x : Int))) * 285870213051353865) / 288230376151711744 = ((a * 285870213051353865 % 18446744073709551616 / 288230376151711744 : Nat) : Int) := by
  have e1 : IntKind.u64.wrap (-(x : Int)) = ((18446744073709551616 - x : Nat) : Int) := by rw [u64_wrap]; omega
  rw [e1, u64_and_nat x _ hx (by omega), hlow, u64_wrap]
  omega
theorem tz64_core (x k idx : Nat) (w : World) (h0 : ((x : Int) == 0) = false)
    (key : IntKind.u64.wrap (bits BinOp.and IntKind.u64 (x : Int) (IntKind.u64.wrap (-(x : Int))) * 285870213051353865) / 288230376151711744 = (idx : Int))
    (hi : idx < 64) (hk : k < 64) (hcell : w.cell? ⟨1, idx, none⟩ = some (.int .u8 (k : Int))) :
    Calls Tryz.prog 143 #[.int .u64 (x : Int)] w fun e w' => e = .returned (.int .i64 (k : Int)) ∧ w = w' := by
  go_enter Tryz.func143, Tryz.ntmps143
  go_wp2_with (simp only [key])
  go_ret
  exact ⟨rfl, rfl⟩
theorem tz64_any (x : Nat) (w : World) (hx0 : x ≠ 0) (hx : x < 18446744073709551616) (hT : Tab64 w) :
    Calls Tryz.prog 143 #[.int .u64 (x : Int)] w fun e w' => e = .returned (.int .i64 ((Lib.ctz 64 x : Nat) : Int)) ∧ w = w' := by
  obtain ⟨hlow, hk⟩ := Lib.lowest_bit 64 x hx0 hx
  obtain ⟨hi, htab⟩ := Lib.deBruijn64_at _ hk
  have hcell := hT.2 _ hi
  rw [htab] at hcell
  exact tz64_core x _ _ w (by simp; omega) (tz64_key x _ hx hx0 hlow) hi hk hcell
theorem floatbits_run (w : World) (n : Nat) : (callFunc 52 #[.float .f64 n]).run Tryz.prog w = .ok (.value (.int .u64 (n : Int))) w := by
  rw [run_callFunc_extern (f := 52) (fn := Tryz.f52) (e := Extern.MathFloatBits.float64bits) (by kernel_rfl) (by kernel_rfl) (by kernel_rfl) (by kernel_rfl) (by kernel_rfl)]
  rfl

/-- The field of the exponent, the fraction, the magnitude, its place from 2^-1074 on, the sign. -/
def fx (b : Nat) : Nat := b / 4503599627370496 % 2048
def fm (b : Nat) : Nat := b % 4503599627370496
def fmag (b : Nat) : Nat := if fx b = 0 then fm b else fm b + 4503599627370496
def fup (b : Nat) : Nat := fx b - 1
def fneg (b : Nat) : Bool := decide (9223372036854775808 ≤ b)
/-- What a finite float is worth, in units of 2^-1074. -/
def fI (b : Nat) : Int := if fneg b then -((fmag b * 2 ^ fup b : Nat) : Int) else ((fmag b * 2 ^ fup b : Nat) : Int)
theorem fx_lt (b : Nat) : fx b < 2048 := Nat.mod_lt _ (by omega)
theorem fm_lt (b : Nat) : fm b < 4503599627370496 := Nat.mod_lt _ (by omega)
theorem fmag_lt (b : Nat) : fmag b < 9007199254740992 := by have := fm_lt b; unfold fmag; split <;> omega
/-- The bits of a finite float, read. -/
theorem read_fin {b : Nat} (hb : b < 18446744073709551616) (h : fx b ≠ 2047) : Ieee.double.read b = .number (fneg b) (fmag b) ((fup b : Nat) - 1074 : Int) := by
  have e1 : Ieee.double.signWeight = 9223372036854775808 := by decide
  have e2 : Ieee.double.binade = 4503599627370496 := by decide
  have e3 : Ieee.double.infRung = 9218868437227405312 := by decide +kernel
  have e4 : Ieee.double.leastPlace = -1074 := by decide +kernel
  have hn : (b / 9223372036854775808 % 2 == 1) = fneg b := by
    unfold fneg
    rw [Bool.eq_iff_iff]
    simp
    omega
  unfold Ieee.Format.read
  simp only [e1, e2, e3, e4, hn]
  unfold fx at h
  by_cases h0 : fx b = 0
  · have h1 := h0
    unfold fx at h1
    have h2 : b % 9223372036854775808 = fm b := by unfold fm; omega
    rw [h2, if_pos (fm_lt b)]
    unfold fmag fup
    rw [if_pos h0, h0]
    rfl
  · have h1 := h0
    unfold fx at h1
    rw [if_neg (by omega), if_pos (by omega)]
    unfold fmag fup fm
    rw [if_neg h0]
    unfold fx
    congr 1
    · omega
    · omega
theorem read_zero : Ieee.double.read 0 = .number false 0 (-1074) := by decide +kernel
/-- Below 0, as the machine compares. -/
theorem order_zero {b : Nat} (hb : b < 18446744073709551616) (h : fx b ≠ 2047) (h0 : fmag b ≠ 0) : Ieee.double.order b 0 = some (if fneg b then .lt else .gt) := by
  unfold Ieee.Format.order
  rw [read_fin hb h, read_zero]
  unfold Ieee.Datum.order
  simp only
  have e0 : Ieee.signed false 0 (-1074 - min ((fup b : Nat) - 1074 : Int) (-1074)).toNat = 0 := by simp [Ieee.signed]
  have ep : min ((fup b : Nat) - 1074 : Int) (-1074) = -1074 := by omega
  rw [ep] at e0 ⊢
  rw [e0]
  have e5 : ((fup b : Nat) - 1074 - -1074 : Int).toNat = fup b := by omega
  rw [e5]
  have hp : 0 < fmag b <<< fup b := by rw [Nat.shiftLeft_eq]; exact Nat.mul_pos (by omega) (Nat.pow_pos (by omega))
  unfold Ieee.signed
  generalize fmag b <<< fup b = m at hp
  congr 1
  cases fneg b
  · simp only [Bool.false_eq_true, if_false]
    exact Int.compare_eq_gt.2 (by omega)
  · simp only [if_true]
    exact Int.compare_eq_lt.2 (by omega)
end Go.Proofs.YtphlmmjlpbledaaGreatDoor
set_option linter.unusedSimpArgs false
set_option linter.unusedVariables false
namespace Go.Proofs.YtphlmmjlpbledaaGreatDoor

/-- 2^1074. -/
def ex74 : Nat := 1074
theorem ex74_eq : ex74 = 1074 := rfl
def two74 : Nat := 2 ^ ex74
theorem two74_pos : 0 < two74 := Nat.pow_pos (by omega)
def cf (a b : Nat) : Cx := ⟨(fI a : Rat) / (two74 : Rat), (fI b : Rat) / (two74 : Rat)⟩
theorem gcd_two_odd {k m : Nat} (h : m % 2 = 1) : Nat.gcd (2 ^ k) m = 1 := by
  refine Nat.Coprime.pow_left k ?_
  show Nat.gcd 2 m = 1
  rw [Nat.gcd_rec, h, Nat.gcd_one_left]
theorem scale_part {z n low : Int} {f : Int} (h : z * 2 ^ (n + 1074).toNat = f) (h1 : -1074 ≤ n) (h2 : low ≤ n) (h3 : low ≤ 0) :
    (f : Rat) / (two74 : Rat) * ((2 ^ (-low).toNat : Nat) : Rat) = ((z * 2 ^ (n - low).toNat : Int) : Rat) := by
  have hT : (two74 : Rat) ≠ 0 := natCast_ne two74_pos
  have hi := Rat.inv_mul_cancel _ hT
  have e1 : (2 : Int) ^ (n + 1074).toNat * 2 ^ (-low).toNat = 2 ^ (n - low).toNat * (two74 : Int) := by
    unfold two74
    rw [show (((2 ^ ex74 : Nat)) : Int) = (2 : Int) ^ ex74 from by rw [Int.natCast_pow]; rfl, ← Int.pow_add, ← Int.pow_add]
    congr 1
    have := ex74_eq
    omega
  have e2 : f * ((2 ^ (-low).toNat : Nat) : Int) = z * 2 ^ (n - low).toNat * (two74 : Int) := by
    rw [← h, show (((2 ^ (-low).toNat : Nat)) : Int) = (2 : Int) ^ (-low).toNat from by rw [Int.natCast_pow]; rfl, Int.mul_assoc, e1, Int.mul_assoc]
  have e3 := congrArg (fun t : Int => (t : Rat)) e2
  simp only [Rat.intCast_mul, Rat.intCast_natCast] at e3
  rw [Rat.div_def, Rat.intCast_mul]
  grind
theorem cf_low {x y : Nat} {z1 z2 n1 n2 low : Int} (h1 : z1 * 2 ^ (n1 + 1074).toNat = fI x) (h2 : z2 * 2 ^ (n2 + 1074).toNat = fI y) (b1 : -1074 ≤ n1) (b2 : -1074 ≤ n2)
    (o1 : z1 = 0 ∧ n1 = 0 ∨ z1 % 2 ≠ 0) (o2 : z2 = 0 ∧ n2 = 0 ∨ z2 % 2 ≠ 0) (hl : low = min (min n1 n2) 0) :
    Low (cf x y) (z1 * 2 ^ (n1 - low).toNat) (z2 * 2 ^ (n2 - low).toNat) (2 ^ (-low).toNat) := by
  refine ⟨Nat.pow_pos (by omega), ?_, scale_part h1 b1 (by omega) (by omega), scale_part h2 b2 (by omega) (by omega)⟩
  rcases Int.lt_or_le low 0 with h0 | h0
  · rcases (show low = n1 ∨ low = n2 by omega) with h | h
    · rcases o1 with ⟨-, h3⟩ | h3
      · omega
      · have e : (n1 - low).toNat = 0 := by omega
        rw [e, gcd_two_odd (by simp; omega)]
        simp
    · rcases o2 with ⟨-, h3⟩ | h3
      · omega
      · have e : (n2 - low).toNat = 0 := by omega
        rw [e]
        refine Nat.Coprime.coprime_dvd_left (Nat.gcd_dvd_left _ _) (gcd_two_odd (by simp; omega))
  · have e : (-low).toNat = 0 := by omega
    rw [e]
    simp
end Go.Proofs.YtphlmmjlpbledaaGreatDoor
set_option linter.unusedSimpArgs false
set_option linter.unusedVariables false
namespace Go.Proofs.YtphlmmjlpbledaaGreatDoor

theorem pow2_lt {a b : Nat} (h : (2 : Nat) ^ a < 2 ^ b) : a < b := (Nat.pow_lt_pow_iff_right (a := 2) (by omega)).1 h
theorem pow2_le {a b : Nat} (h : (2 : Nat) ^ a ≤ 2 ^ b) : a ≤ b := (Nat.pow_le_pow_iff_right (a := 2) (by omega)).1 h
/-- What is left of a quotient that is m 2^(u - c): shifted by s it is m 2^t. -/
theorem exact_shift {dg p q m u c : Nat} (hq : 0 < q) (hp : 0 < p) (h : p * 2 ^ c = m * 2 ^ u * q) (hm : m < 2 ^ dg) :
    ∃ t : Nat, (t : Int) = (u : Int) - c + rdS dg p q ∧ 2 ≤ t ∧ rdM dg p q = m * 2 ^ t ∧ rdX dg p q = false := by
  obtain ⟨m1, m2, mQ⟩ := rdM_bounds (dg := dg) hp hq
  unfold rdX
  unfold rdM at *
  generalize rdS dg p q = s at *
  obtain ⟨a, ha⟩ : ∃ a : Nat, s.toNat = a := ⟨_, rfl⟩
  obtain ⟨b, hb⟩ : ∃ b : Nat, (-s).toNat = b := ⟨_, rfl⟩
  unfold scP scQ at *
  rw [ha, hb] at m1 m2 ⊢
  rw [hb] at mQ
  rw [Nat.le_div_iff_mul_le mQ] at m1
  have k1 : p * 2 ^ a * 2 ^ c = m * (2 ^ (u + a) * q) := by
    rw [Nat.mul_right_comm, h, Nat.pow_add]
    simp only [Nat.mul_assoc, Nat.mul_comm, Nat.mul_left_comm]
  have k2 : c + b + 1 < u + a := by
    refine Nat.lt_of_not_le fun hn => ?_
    have e1 : 2 ^ (dg + 1) * (q * 2 ^ b) * 2 ^ c ≤ m * (2 ^ (u + a) * q) := by rw [← k1]; exact Nat.mul_le_mul_right _ m1
    have e2 : 2 ^ (dg + 1) * (q * 2 ^ b) * 2 ^ c = 2 ^ (dg + (c + b + 1)) * q := by
      rw [show dg + (c + b + 1) = dg + 1 + b + c by omega, Nat.pow_add _ _ c, Nat.pow_add _ (dg + 1) b]
      simp only [Nat.mul_assoc, Nat.mul_comm, Nat.mul_left_comm]
    have e3 : m * (2 ^ (u + a) * q) < 2 ^ dg * (2 ^ (u + a) * q) := Nat.mul_lt_mul_of_pos_right hm (Nat.mul_pos (Nat.pow_pos (by omega)) hq)
    have e4 : 2 ^ dg * (2 ^ (u + a) * q) = 2 ^ (dg + (u + a)) * q := by rw [Nat.pow_add 2 dg (u + a), Nat.mul_assoc]
    rw [e2] at e1
    rw [e4] at e3
    have e5 := pow2_lt (Nat.lt_of_mul_lt_mul_right (Nat.lt_of_le_of_lt e1 e3))
    omega
  obtain ⟨t, ht⟩ : ∃ t, u + a = c + b + t := ⟨u + a - (c + b), by omega⟩
  have k3 : p * 2 ^ a = m * 2 ^ t * (q * 2 ^ b) := by
    refine Nat.eq_of_mul_eq_mul_right (Nat.pow_pos (n := c) (show 0 < 2 by omega)) ?_
    rw [k1, ht, Nat.pow_add, Nat.pow_add]
    simp only [Nat.mul_assoc, Nat.mul_comm, Nat.mul_left_comm]
  refine ⟨t, by omega, by omega, ?_, ?_⟩
  · rw [k3, Nat.mul_div_cancel _ mQ]
  · rw [k3, Nat.mul_mod_left]; simp
theorem bl_shift {m t : Nat} (hm : 0 < m) : bl (m * 2 ^ t) = bl m + t := by
  obtain ⟨h0, h1, h2⟩ := bl_pow hm
  have h3 : 2 ^ (bl m - 1 + t) ≤ m * 2 ^ t := by rw [Nat.pow_add]; exact Nat.mul_le_mul_right _ h1
  have h4 : m * 2 ^ t < 2 ^ (bl m + t) := by rw [Nat.pow_add]; exact Nat.mul_lt_mul_of_pos_right h2 (Nat.pow_pos (by omega))
  have := bl_between h3 h4
  omega
theorem rUp_exact (k h : Nat) (hh : 0 < h) : rUp k 0 h false 2 = false := by
  have e1 : ¬ (0 = h) := by omega
  simp [rUp, e1]
/-- m 2^(u + lo), where m fits and is as long as it may be, is rounded to itself. -/
theorem rdF_exact {dg : Nat} {lo hi : Int} {p q m u c : Nat} (hf : Fm dg lo hi) (hc : (c : Int) = -lo) (hq : 0 < q) (h0 : 0 < m) (hm : m < 2 ^ dg) (hu : u = 0 ∨ 2 ^ (dg - 1) ≤ m) (hhi : (u : Int) + lo ≤ hi) (h : p * 2 ^ c = m * 2 ^ u * q) :
    rdF dg lo hi p q 2 = u * 2 ^ (dg - 1) + m := by
  obtain ⟨f1, f2, f3, f4, f5, f6⟩ := hf
  have hp : 0 < p := by
    rcases Nat.eq_zero_or_pos p with e | e
    · subst e
      have : 0 < m * 2 ^ u * q := Nat.mul_pos (Nat.mul_pos h0 (Nat.pow_pos (by omega))) hq
      omega
    · exact e
  obtain ⟨t, ht, ht2, hM, hX⟩ := exact_shift hq hp h hm
  have hS : rdS dg p q = (t : Int) - u - lo := by omega
  obtain ⟨-, m2, -⟩ := rdM_bounds (dg := dg) hp hq
  have ht3 : t ≤ 60 := by
    rw [hM] at m2
    have : 2 ^ t < 2 ^ (dg + 3) := Nat.lt_of_le_of_lt (Nat.le_mul_of_pos_left _ h0) m2
    have := pow2_lt this
    omega
  have hbl : bl m ≤ dg := by
    obtain ⟨b0, b1, b2⟩ := bl_pow h0
    have := pow2_lt (Nat.lt_of_le_of_lt b1 hm)
    omega
  have hblu : u = 0 ∨ bl m = dg := by
    rcases hu with e | e
    · exact .inl e
    · right
      have := (bl_between e (bl_pow h0).2.2).1
      omega
  have hU : rdU dg lo p q = (u : Int) + lo := by
    unfold rdU
    rw [hM, bl_shift h0, hS]
    omega
  have hD : rdD dg lo p q = t := by
    unfold rdD
    rw [hU, hS]
    omega
  have ht0 : 0 < 2 ^ t := Nat.pow_pos (by omega)
  unfold rdF
  rw [if_neg (by omega), if_neg (by omega), rdB_eq, hD, hU, hM, hX, Nat.mul_div_cancel _ ht0, Nat.mul_mod_left, rUp_exact _ _ (Nat.pow_pos (by omega))]
  have e : ((u : Int) + lo - lo).toNat = u := by omega
  rw [e]
  simp
theorem fm_back {b : Nat} (hb : b < 18446744073709551616) (h : fx b ≠ 2047) : fup b * 2 ^ 52 + fmag b = b % 9223372036854775808 := by
  have e : (2 : Nat) ^ 52 = 4503599627370496 := by decide +kernel
  rw [e]
  unfold fup fmag fm
  have := fx_lt b
  split
  · rename_i h0
    rw [h0]
    unfold fx at h0
    omega
  · rename_i h0
    have h1 : fx b = b % 9223372036854775808 / 4503599627370496 := by unfold fx; omega
    have h2 : b % 4503599627370496 = b % 9223372036854775808 % 4503599627370496 := by omega
    rw [h2]
    generalize b % 9223372036854775808 = c at *
    rw [h1] at h0 ⊢
    have h3 := Nat.div_add_mod c 4503599627370496
    obtain ⟨k, hk⟩ : ∃ k, c / 4503599627370496 = k + 1 := ⟨c / 4503599627370496 - 1, by omega⟩
    rw [hk] at h3 ⊢
    generalize c % 4503599627370496 = r at h3 ⊢
    rw [← h3, Nat.add_sub_cancel, Nat.mul_add, Nat.mul_one, Nat.mul_comm k, Nat.add_assoc, Nat.add_comm r]
theorem fup_le {b : Nat} (h : fx b ≠ 2047) : fup b ≤ 2045 := by
  have := fx_lt b
  unfold fup
  omega
theorem fI_abs (b : Nat) : (fI b).natAbs = fmag b * 2 ^ fup b := by
  unfold fI
  split
  · rw [Int.natAbs_neg, Int.natAbs_natCast]
  · rw [Int.natAbs_natCast]
theorem fmag_pos {b : Nat} (h : fmag b ≠ 0) : 0 < fmag b * 2 ^ fup b := Nat.mul_pos (by omega) (Nat.pow_pos (by omega))
theorem fI_neg (b : Nat) : decide (fI b < 0) = (fneg b && decide (fmag b ≠ 0)) := by
  by_cases h : fmag b = 0
  · have e : fI b = 0 := by unfold fI; rw [h]; simp
    rw [e, h]; simp
  · have hp := fmag_pos h
    unfold fI
    generalize fmag b * 2 ^ fup b = m at hp
    cases fneg b
    · simp only [h, Bool.false_eq_true, if_false, Bool.false_and, decide_eq_false_iff_not]; omega
    · simp only [if_true, Bool.true_and, decide_eq_decide]; omega
theorem fmag_or (b : Nat) : fup b = 0 ∨ 2 ^ (53 - 1) ≤ fmag b := by
  have e : (2 : Nat) ^ (53 - 1) = 4503599627370496 := by decide +kernel
  rw [e]
  unfold fup fmag
  split
  · left; omega
  · right; omega
theorem or_63 {m : Nat} (h : m < 9223372036854775808) : m ||| 9223372036854775808 = m + 9223372036854775808 := by
  have := Nat.two_pow_add_eq_or_of_lt (i := 63) (b := m) (by simpa using h) 1
  rw [Nat.or_comm]
  simp at this
  omega
/-- a/d is the value of b. -/
def IsF (b : Nat) (a : Int) (d : Nat) : Prop := a * (two74 : Int) = fI b * (d : Int)
/-- The nearest float to a float's value is the float; but -0 becomes 0. -/
theorem nearB_eq {b : Nat} {a : Int} {d : Nat} (hb : b < 18446744073709551616) (hx : fx b ≠ 2047) (hd : 0 < d) (h : IsF b a d) :
    nearB a d = if fmag b = 0 then 0 else b := by
  unfold IsF at h
  have hT := two74_pos
  have hT' : (0 : Int) < (two74 : Int) := by omega
  have hd' : (0 : Int) < (d : Int) := by omega
  have h1 : a.natAbs * two74 = fmag b * 2 ^ fup b * d := by
    have := congrArg Int.natAbs h
    rw [Int.natAbs_mul, Int.natAbs_mul, fI_abs, Int.natAbs_natCast, Int.natAbs_natCast] at this
    exact this
  unfold nearB
  by_cases h0 : fmag b = 0
  · have ha : a.natAbs = 0 := by
      rw [h0, Nat.zero_mul, Nat.zero_mul] at h1
      rcases Nat.mul_eq_zero.1 h1 with e | e <;> omega
    rw [if_pos h0, ha]
    unfold rdF
    rw [if_pos rfl]
    simp [flt]
  · rw [if_neg h0]
    have hlt : fmag b < 2 ^ 53 := by
      have := fmag_lt b
      have e : (2 : Nat) ^ 53 = 9007199254740992 := by decide +kernel
      omega
    have hr := rdF_exact (hi := 971) (p := a.natAbs) (u := fup b) (c := ex74) Fm.double (by rw [ex74_eq]; rfl) hd (by omega) hlt (fmag_or b) (by have := fup_le hx; omega) h1
    rw [hr]
    have hb2 := fm_back hb hx
    have hbk : b = b % 9223372036854775808 + (if fneg b then 9223372036854775808 else 0) := by
      unfold fneg
      split <;> rename_i e <;> simp at e <;> omega
    have hn : decide (a < 0) = fneg b := by
      have := fI_neg b
      rw [decide_eq_true h0, Bool.and_true] at this
      rw [← this, decide_eq_decide]
      constructor
      · intro ha
        have : a * (two74 : Int) < 0 := Int.mul_neg_of_neg_of_pos ha hT'
        rw [h] at this
        refine Int.lt_of_not_ge fun hn => ?_
        have := Int.mul_nonneg hn (Int.le_of_lt hd')
        omega
      · intro hf
        have : fI b * (d : Int) < 0 := Int.mul_neg_of_neg_of_pos hf hd'
        rw [← h] at this
        refine Int.lt_of_not_ge fun hn => ?_
        have := Int.mul_nonneg hn (Int.le_of_lt hT')
        omega
    rw [hn, hb2]
    have hp : b % 9223372036854775808 ≠ 0 := by rw [← hb2]; omega
    unfold flt
    cases hs : fneg b
    · rw [hs] at hbk
      rw [if_neg Bool.false_ne_true, Nat.add_zero] at hbk
      rw [Bool.false_and, if_neg Bool.false_ne_true]
      exact hbk.symm
    · rw [hs] at hbk
      simp [hp]
      rw [or_63 (Nat.mod_lt _ (by omega))]
      simp at hbk
      exact hbk.symm
end Go.Proofs.YtphlmmjlpbledaaGreatDoor
set_option linter.unusedSimpArgs false
set_option linter.unusedVariables false
namespace Go.Proofs.YtphlmmjlpbledaaGreatDoor

theorem compare_scale (x y : Int) (k : Nat) : compare (x * ((2 ^ k : Nat) : Int)) (y * ((2 ^ k : Nat) : Int)) = compare x y := by
  have hk : (0 : Int) < ((2 ^ k : Nat) : Int) := by have := Nat.pow_pos (a := 2) (n := k) (by omega); omega
  generalize ((2 ^ k : Nat) : Int) = c at hk
  show compareOfLessAndEq _ _ = compareOfLessAndEq _ _
  unfold compareOfLessAndEq
  have e1 : x * c < y * c ↔ x < y := ⟨fun h => Int.lt_of_mul_lt_mul_right h (Int.le_of_lt hk), fun h => Int.mul_lt_mul_of_pos_right h hk⟩
  have e2 : x * c = y * c ↔ x = y := ⟨fun h => Int.eq_of_mul_eq_mul_right (by omega) h, fun h => by rw [h]⟩
  simp only [e1, e2]
theorem signed_up {b k : Nat} (h : k ≤ fup b) : Ieee.signed (fneg b) (fmag b) (fup b - k) * ((2 ^ k : Nat) : Int) = fI b := by
  have e : fmag b * 2 ^ (fup b - k) * 2 ^ k = fmag b * 2 ^ fup b := by rw [Nat.mul_assoc, ← Nat.pow_add]; congr 2; omega
  unfold Ieee.signed fI
  rw [Nat.shiftLeft_eq, ← e]
  split
  · rw [Int.neg_mul, ← Int.natCast_mul]
  · rw [← Int.natCast_mul]
theorem order_fI {a b : Nat} (ha : a < 18446744073709551616) (hb : b < 18446744073709551616) (xa : fx a ≠ 2047) (xb : fx b ≠ 2047) : Ieee.double.order a b = some (compare (fI a) (fI b)) := by
  unfold Ieee.Format.order
  rw [read_fin ha xa, read_fin hb xb]
  unfold Ieee.Datum.order
  simp only
  obtain ⟨k, hk⟩ : ∃ k, k = min (fup a) (fup b) := ⟨_, rfl⟩
  have e0 : min ((fup a : Nat) - 1074 : Int) ((fup b : Nat) - 1074) = (k : Int) - 1074 := by omega
  rw [e0]
  have e1 : ((fup a : Nat) - 1074 - ((k : Int) - 1074) : Int).toNat = fup a - k := by omega
  have e2 : ((fup b : Nat) - 1074 - ((k : Int) - 1074) : Int).toNat = fup b - k := by omega
  rw [e1, e2, ← compare_scale _ _ k, signed_up (by omega), signed_up (by omega)]
theorem fI_zero : fI 0 = 0 := by decide
theorem fx_zero : fx 0 = 0 := by decide
theorem fmag_zero : fmag 0 = 0 := by decide
/-- A float without its sign, if it is 0. -/
def fz (b : Nat) : Nat := if fmag b = 0 then 0 else b
theorem fI_of_zero {b : Nat} (h : fmag b = 0) : fI b = 0 := by unfold fI; rw [h]; simp
theorem fz_I (b : Nat) : fI (fz b) = fI b := by
  unfold fz
  split
  · rename_i h; rw [fI_zero, fI_of_zero h]
  · rfl
theorem fz_lt {b : Nat} (h : b < 18446744073709551616) : fz b < 18446744073709551616 := by unfold fz; split <;> omega
theorem fz_fin {b : Nat} (h : fx b ≠ 2047) : fx (fz b) ≠ 2047 := by
  unfold fz
  split
  · rw [fx_zero]; omega
  · exact h
theorem fz_same {b : Nat} (h : b < 18446744073709551616) (hx : fx b ≠ 2047) : (Ieee.double.order (fz b) b == some Ordering.eq) = true := by
  rw [order_fI (fz_lt h) h (fz_fin hx) hx, fz_I]
  have : compare (fI b) (fI b) = Ordering.eq := by show compareOfLessAndEq _ _ = _; simp [compareOfLessAndEq]
  rw [this]; rfl
theorem order_ge {b : Nat} (h : b < 18446744073709551616) (hx : fx b ≠ 2047) : (Ieee.double.order b 0 == some Ordering.gt || Ieee.double.order b 0 == some Ordering.eq) = decide (0 ≤ fI b) := by
  rw [order_fI h (by omega) hx (by rw [fx_zero]; omega), fI_zero]
  show ((some (compareOfLessAndEq (fI b) 0)) == some Ordering.gt || (some (compareOfLessAndEq (fI b) 0)) == some Ordering.eq) = _
  unfold compareOfLessAndEq
  by_cases h1 : fI b < 0
  · rw [if_pos h1, decide_eq_false (by omega)]; rfl
  · rw [if_neg h1, decide_eq_true (by omega)]
    by_cases h2 : fI b = 0
    · rw [if_pos h2]; rfl
    · rw [if_neg h2]; rfl
theorem fz_sign (b : Nat) : (!fneg (fz b)) = decide (0 ≤ fI b) := by
  by_cases h : fmag b = 0
  · have e : fz b = 0 := by unfold fz; rw [if_pos h]
    rw [e, fI_of_zero h]; rfl
  · have e : fz b = b := by unfold fz; rw [if_neg h]
    have h1 := fI_neg b
    rw [decide_eq_true h, Bool.and_true] at h1
    rw [e, ← h1]
    by_cases h2 : fI b < 0
    · rw [decide_eq_true h2, decide_eq_false (by omega)]; rfl
    · rw [decide_eq_false h2, decide_eq_true (by omega)]; rfl
theorem nearB_fz {b : Nat} {a : Int} {d : Nat} (hb : b < 18446744073709551616) (hx : fx b ≠ 2047) (hd : 0 < d) (h : IsF b a d) : nearB a d = fz b := nearB_eq hb hx hd h
end Go.Proofs.YtphlmmjlpbledaaGreatDoor
set_option linter.unusedSimpArgs false
set_option linter.unusedVariables false
namespace Go.Proofs.YtphlmmjlpbledaaGreatDoor

theorem wl_of_two {x k n : Nat} (h : x < 2 ^ k) (hk : k ≤ 32 * n) : wl x ≤ n :=
  wl_le_of (by rw [show (4294967296 : Nat) = 2 ^ 32 from rfl, ← Nat.pow_mul]; exact Nat.lt_of_lt_of_le h (Nat.pow_le_pow_right (by omega) hk))
theorem two74_wl : wl two74 ≤ 34 := wl_of_two (k := ex74 + 1) (Nat.pow_lt_pow_right (by omega) (Nat.lt_succ_self _)) (by rw [ex74_eq]; omega)
theorem fI_wl (b : Nat) : wl (fI b).natAbs ≤ 67 := by
  have h := fmag_lt b
  have hu : fup b ≤ 2046 := by have := fx_lt b; unfold fup; omega
  have hk : fmag b * 2 ^ fup b < 2 ^ (53 + fup b) := by
    rw [Nat.pow_add]
    exact Nat.mul_lt_mul_of_pos_right (by simpa using h) (Nat.pow_pos (by omega))
  rw [fI_abs]
  exact wl_of_two hk (by omega)
theorem div_two74 (z : Int) : (z : Rat) / (two74 : Rat) * (two74 : Rat) = (z : Rat) := by
  have hi := Rat.inv_mul_cancel _ (natCast_ne two74_pos)
  rw [Rat.div_def, Rat.mul_assoc, hi, Rat.mul_one]
theorem cf_sz (x y : Nat) : Sz (cf x y) 67 := Sz.of two74_pos (div_two74 _) (div_two74 _) (fI_wl x) (fI_wl y) (Nat.le_trans two74_wl (by omega))
theorem isF_of {b d : Nat} {a : Int} (h : (fI b : Rat) / (two74 : Rat) * (d : Rat) = (a : Rat)) : IsF b a d := by
  unfold IsF
  refine Rat.intCast_inj.1 ?_
  rw [Rat.intCast_mul, Rat.intCast_mul, Rat.intCast_natCast, Rat.intCast_natCast, ← h]
  have := div_two74 (fI b)
  grind
theorem cf_isF {x y d : Nat} {a b : Int} (h : Low (cf x y) a b d) : 0 < d ∧ IsF x a d ∧ IsF y b d := by
  obtain ⟨h1, -, h3, h4⟩ := h
  exact ⟨h1, isF_of h3, isF_of h4⟩
end Go.Proofs.YtphlmmjlpbledaaGreatDoor
set_option linter.unusedSimpArgs false
set_option linter.unusedVariables false
namespace Go.Proofs.YtphlmmjlpbledaaGreatDoor

/-- The real number that a float means, and its digits with the sign. -/
def dy (b : Nat) : Cx := ⟨(fI b : Rat) / (two74 : Rat), 0⟩
def fS (b : Nat) : Int := if fneg b then -((fmag b : Nat) : Int) else ((fmag b : Nat) : Int)
def ci : Cx := ⟨0, 1⟩
theorem fI_S (b : Nat) : fI b = fS b * ((2 ^ fup b : Nat) : Int) := by
  unfold fI fS
  split
  · rw [Int.neg_mul, Int.natCast_mul]
  · rw [Int.natCast_mul]
theorem fS_abs (b : Nat) : (fS b).natAbs = fmag b := by
  unfold fS
  split
  · rw [Int.natAbs_neg, Int.natAbs_natCast]
  · rw [Int.natAbs_natCast]
theorem fS_neg (b : Nat) : decide (fS b < 0) = (fneg b && decide (fmag b ≠ 0)) := by
  unfold fS
  cases fneg b
  · simp only [Bool.false_eq_true, if_false, Bool.false_and, decide_eq_false_iff_not]; omega
  · simp only [if_true, Bool.true_and, decide_eq_decide]; omega
theorem dy_sz (b : Nat) : Sz (dy b) 67 := Sz.of (b := 0) two74_pos (div_two74 _) (by show (0 : Rat) * _ = _; simp) (fI_wl b) (by simp [wl_zero]) (Nat.le_trans two74_wl (by omega))
theorem ci_low : Low ci 0 1 1 := ⟨by omega, by decide, by show (0 : Rat) * _ = _; simp, by show (1 : Rat) * _ = _; simp⟩
theorem ci_sz : Sz ci 1 := Sz.low ci_low (by simp [wl_zero]) (Nat.le_of_eq wl_one) (Nat.le_of_eq wl_one)
theorem cf_dy (x y : Nat) : (dy x).add ((dy y).mul ci) = cf x y := by
  refine Cx.ext ?_ ?_
  · show (fI x : Rat) / (two74 : Rat) + ((fI y : Rat) / (two74 : Rat) * 0 - 0 * 1) = (fI x : Rat) / (two74 : Rat)
    grind
  · show (0 : Rat) + ((fI y : Rat) / (two74 : Rat) * 1 + 0 * 0) = (fI y : Rat) / (two74 : Rat)
    grind
/-- From 2^1074 on: an integer. -/
theorem dy_big {b k : Nat} (h : fup b = 1074 + k) : Low (dy b) (fS b * ((2 ^ k : Nat) : Int)) 0 1 := by
  refine ⟨by omega, by simp, ?_, by show (0 : Rat) * _ = _; simp⟩
  have e : fS b * ((2 ^ k : Nat) : Int) * (two74 : Int) = fI b := by
    have : (2 : Nat) ^ fup b = 2 ^ k * two74 := by unfold two74; rw [← Nat.pow_add, h, ex74_eq, Nat.add_comm]
    rw [fI_S, this, Int.natCast_mul, Int.mul_assoc]
  have e3 := congrArg (fun t : Int => (t : Rat)) e
  simp only [Rat.intCast_mul, Rat.intCast_natCast] at e3
  have hi := Rat.inv_mul_cancel _ (natCast_ne two74_pos)
  show (fI b : Rat) / (two74 : Rat) * ((1 : Nat) : Rat) = _
  rw [Rat.div_def, ← e3, Rat.intCast_mul, Rat.intCast_natCast]
  have e4 : ((1 : Nat) : Rat) = 1 := rfl
  rw [e4]
  grind
theorem dy_small {b k : Nat} (h : fup b + k = 1074) : (dy b).re * ((2 ^ k : Nat) : Rat) = ((fS b : Int) : Rat) := by
  have e : fI b * ((2 ^ k : Nat) : Int) = fS b * (two74 : Int) := by
    have : two74 = 2 ^ fup b * 2 ^ k := by unfold two74; rw [← Nat.pow_add, h, ex74_eq]
    rw [fI_S, this, Int.natCast_mul, Int.mul_assoc]
  have e3 := congrArg (fun t : Int => (t : Rat)) e
  simp only [Rat.intCast_mul, Rat.intCast_natCast] at e3
  have hi := Rat.inv_mul_cancel _ (natCast_ne two74_pos)
  show (fI b : Rat) / (two74 : Rat) * _ = _
  rw [Rat.div_def]
  grind
theorem dy_im (b k : Nat) : (dy b).im * ((2 ^ k : Nat) : Rat) = ((0 : Int) : Rat) := by show (0 : Rat) * _ = _; simp
end Go.Proofs.YtphlmmjlpbledaaGreatDoor
set_option linter.unusedSimpArgs false
set_option linter.unusedVariables false
namespace Go.Proofs.YtphlmmjlpbledaaGreatDoor

def gx (b : Nat) : Nat := b / 8388608 % 256
def gm (b : Nat) : Nat := b % 8388608
def gmag (b : Nat) : Nat := if gx b = 0 then gm b else gm b + 8388608
def gup (b : Nat) : Nat := gx b - 1
def gneg (b : Nat) : Bool := decide (2147483648 ≤ b)
/-- What a finite single float is worth, in units of 2^-149. -/
def gI (b : Nat) : Int := if gneg b then -((gmag b * 2 ^ gup b : Nat) : Int) else ((gmag b * 2 ^ gup b : Nat) : Int)
theorem gx_lt (b : Nat) : gx b < 256 := Nat.mod_lt _ (by omega)
theorem gm_lt (b : Nat) : gm b < 8388608 := Nat.mod_lt _ (by omega)
theorem gmag_lt (b : Nat) : gmag b < 16777216 := by have := gm_lt b; unfold gmag; split <;> omega
theorem read_fin32 {b : Nat} (hb : b < 4294967296) (h : gx b ≠ 255) : Ieee.single.read b = .number (gneg b) (gmag b) ((gup b : Nat) - 149 : Int) := by
  have e1 : Ieee.single.signWeight = 2147483648 := by decide
  have e2 : Ieee.single.binade = 8388608 := by decide
  have e3 : Ieee.single.infRung = 2139095040 := by decide +kernel
  have e4 : Ieee.single.leastPlace = -149 := by decide +kernel
  have hn : (b / 2147483648 % 2 == 1) = gneg b := by
    unfold gneg
    rw [Bool.eq_iff_iff]
    simp
    omega
  unfold Ieee.Format.read
  simp only [e1, e2, e3, e4, hn]
  unfold gx at h
  by_cases h0 : gx b = 0
  · have h1 := h0
    unfold gx at h1
    have h2 : b % 2147483648 = gm b := by unfold gm; omega
    rw [h2, if_pos (gm_lt b)]
    unfold gmag gup
    rw [if_pos h0, h0]
    rfl
  · have h1 := h0
    unfold gx at h1
    rw [if_neg (by omega), if_pos (by omega)]
    unfold gmag gup gm
    rw [if_neg h0]
    unfold gx
    congr 1
    · omega
    · omega
/-- The bits of the double that a finite single becomes. -/
def cv (b : Nat) : Nat := Ieee.double.write (Ieee.single.read b)
theorem cut_none (neg : Bool) (n : Nat) : Ieee.Toward.even.cut neg n 0 = n := by
  unfold Ieee.Toward.cut
  simp [Nat.mod_one]
theorem cv_word {b : Nat} (hb : b < 4294967296) (h : gx b ≠ 255) (h0 : gmag b ≠ 0) :
    ∃ K T j, cv b = (if gneg b then 9223372036854775808 else 0) + (T * 4503599627370496 + K) ∧ 4503599627370496 ≤ K ∧ K < 9007199254740992 ∧ T ≤ 1150 ∧ K = gmag b * 2 ^ j ∧ T + j = gup b + 925 := by
  have e1 : Ieee.double.signWeight = 9223372036854775808 := by decide
  have e2 : Ieee.double.binade = 4503599627370496 := by decide
  have e3 : Ieee.double.infRung = 9218868437227405312 := by decide +kernel
  have e4 : Ieee.double.leastPlace = -1074 := by decide +kernel
  have e5 : Ieee.double.fractionBits = 52 := rfl
  have hm := gmag_lt b
  have hg : gup b ≤ 254 := by have := gx_lt b; unfold gup; omega
  have hL := (Nat.log2_lt (k := 24) h0).2 hm
  have hL1 := Nat.log2_self_le h0
  have hL2 : gmag b < 2 ^ ((gmag b).log2 + 1) := Nat.lt_log2_self
  unfold cv
  rw [read_fin32 hb h]
  generalize gmag b = m at *
  generalize gup b = g at *
  generalize gneg b = s
  show ∃ K T j, Ieee.double.nearest s m ((g : Int) - 149) = _ ∧ _
  unfold Ieee.Format.nearest
  rw [if_neg h0]
  simp only [e2, e3, e4, e5]
  obtain ⟨L, hLd⟩ : ∃ L, m.log2 = L := ⟨_, rfl⟩
  rw [hLd] at hL hL1 hL2
  have hlast : max ((g : Int) - 149 + (m.log2 : Int) - ((52 : Nat) : Int)) (-1074) = (g : Int) + L - 201 := by rw [hLd]; omega
  rw [hlast]
  have hA : ((g : Int) - 149 - ((g : Int) + L - 201)).toNat = 52 - L := by omega
  have hB : ((g : Int) + L - 201 - ((g : Int) - 149)).toNat = 0 := by omega
  have hC : ((g : Int) + L - 201 - -1074).toNat = g + L + 873 := by omega
  rw [hA, hB, hC, cut_none, Nat.shiftLeft_eq]
  have k1 : 4503599627370496 ≤ m * 2 ^ (52 - L) := by
    have : 2 ^ L * 2 ^ (52 - L) ≤ m * 2 ^ (52 - L) := Nat.mul_le_mul_right _ hL1
    rw [← Nat.pow_add, show L + (52 - L) = 52 by omega] at this
    simpa using this
  have k2 : m * 2 ^ (52 - L) < 9007199254740992 := by
    have : m * 2 ^ (52 - L) < 2 ^ (L + 1) * 2 ^ (52 - L) := Nat.mul_lt_mul_of_pos_right hL2 (Nat.pow_pos (by omega))
    rw [← Nat.pow_add, show L + 1 + (52 - L) = 53 by omega] at this
    simpa using this
  refine ⟨m * 2 ^ (52 - L), g + L + 873, 52 - L, ?_, k1, k2, by omega, rfl, by omega⟩
  generalize m * 2 ^ (52 - L) = K at *
  unfold Ieee.Format.word
  rw [e1, Nat.min_eq_left (by omega)]
  cases s <;> simp
theorem word_parts {s : Bool} {T K b : Nat} (hb : b = (if s then 9223372036854775808 else 0) + (T * 4503599627370496 + K)) (h1 : 4503599627370496 ≤ K) (h2 : K < 9007199254740992) (hT : T ≤ 1150) :
    b < 18446744073709551616 ∧ fx b = T + 1 ∧ fneg b = s ∧ fmag b = K ∧ fup b = T := by
  obtain ⟨r, hr⟩ : ∃ r, K = 4503599627370496 + r := ⟨K - 4503599627370496, by omega⟩
  subst hr
  have hx : fx b = T + 1 := by
    unfold fx
    subst hb
    cases s
    · simp only [Bool.false_eq_true, if_false]; omega
    · simp only [if_true]; omega
  have hm : fm b = r := by
    unfold fm
    subst hb
    cases s
    · simp only [Bool.false_eq_true, if_false]; omega
    · simp only [if_true]; omega
  refine ⟨?_, hx, ?_, ?_, ?_⟩
  · subst hb
    cases s
    · simp only [Bool.false_eq_true, if_false]; omega
    · simp only [if_true]; omega
  · unfold fneg
    subst hb
    cases s
    · simp only [Bool.false_eq_true, if_false, decide_eq_false_iff_not]; omega
    · simp only [if_true, decide_eq_true_eq]; omega
  · unfold fmag
    rw [hx, hm, if_neg (by omega)]
    omega
  · unfold fup
    rw [hx]
    omega
theorem cv_zero {b : Nat} (hb : b < 4294967296) (h : gx b ≠ 255) (h0 : gmag b = 0) : cv b = if gneg b then 9223372036854775808 else 0 := by
  have e1 : Ieee.double.signWeight = 9223372036854775808 := by decide
  unfold cv
  rw [read_fin32 hb h, h0]
  show Ieee.double.nearest _ 0 _ = _
  unfold Ieee.Format.nearest
  rw [if_pos rfl]
  unfold Ieee.Format.word
  rw [e1]
theorem cv_spec {b : Nat} (hb : b < 4294967296) (h : gx b ≠ 255) :
    cv b < 18446744073709551616 ∧ fx (cv b) ≠ 2047 ∧ fI (cv b) = (if gneg b then -((gmag b * 2 ^ (gup b + 925) : Nat) : Int) else ((gmag b * 2 ^ (gup b + 925) : Nat) : Int)) := by
  by_cases h0 : gmag b = 0
  · rw [cv_zero hb h h0, h0]
    cases gneg b
    · refine ⟨by decide, by decide, by simp; decide⟩
    · refine ⟨by decide, by decide, by simp; decide⟩
  · obtain ⟨K, T, j, e, h1, h2, h3, h4, h5⟩ := cv_word hb h h0
    obtain ⟨p1, p2, p3, p4, p5⟩ := word_parts e h1 h2 h3
    refine ⟨p1, by omega, ?_⟩
    unfold fI
    rw [p3, p4, p5, h4, Nat.mul_assoc, ← Nat.pow_add, show j + T = gup b + 925 by omega]
/-- What is not finite stays so. -/
theorem cv_inf (s : Bool) : fx (Ieee.double.write (.infinity s)) = 2047 ∧ Ieee.double.write (.infinity s) < 18446744073709551616 := by
  cases s
  · exact ⟨by decide +kernel, by decide +kernel⟩
  · exact ⟨by decide +kernel, by decide +kernel⟩
theorem read_bad32 {b : Nat} (hb : b < 4294967296) (h : gx b = 255) : (∃ s, Ieee.single.read b = .infinity s) ∨ ∃ s f, Ieee.single.read b = .nan s f := by
  have e1 : Ieee.single.signWeight = 2147483648 := by decide
  have e2 : Ieee.single.binade = 8388608 := by decide
  have e3 : Ieee.single.infRung = 2139095040 := by decide +kernel
  unfold gx at h
  unfold Ieee.Format.read
  simp only [e1, e2, e3]
  rw [if_neg (by omega), if_neg (by omega)]
  split
  · exact .inl ⟨_, rfl⟩
  · exact .inr ⟨_, _, rfl⟩
theorem gm_back {b : Nat} (h : gx b ≠ 255) : gup b * 2 ^ 23 + gmag b = b % 2147483648 := by
  have e : (2 : Nat) ^ 23 = 8388608 := by decide
  rw [e]
  unfold gup gmag gm
  have := gx_lt b
  split
  · rename_i h0
    rw [h0]
    unfold gx at h0
    omega
  · rename_i h0
    have h1 : gx b = b % 2147483648 / 8388608 := by unfold gx; omega
    have h2 : b % 8388608 = b % 2147483648 % 8388608 := by omega
    rw [h2]
    generalize b % 2147483648 = c at *
    rw [h1] at h0 ⊢
    have h3 := Nat.div_add_mod c 8388608
    obtain ⟨k, hk⟩ : ∃ k, c / 8388608 = k + 1 := ⟨c / 8388608 - 1, by omega⟩
    rw [hk] at h3 ⊢
    generalize c % 8388608 = r at h3 ⊢
    rw [← h3, Nat.add_sub_cancel, Nat.mul_add, Nat.mul_one, Nat.mul_comm k, Nat.add_assoc, Nat.add_comm r]
theorem gup_le {b : Nat} (h : gx b ≠ 255) : gup b ≤ 253 := by
  have := gx_lt b
  unfold gup
  omega
theorem gmag_or (b : Nat) : gup b = 0 ∨ 2 ^ (24 - 1) ≤ gmag b := by
  have e : (2 : Nat) ^ (24 - 1) = 8388608 := by decide
  rw [e]
  unfold gup gmag
  split
  · left; omega
  · right; omega
/-- A single without its sign, if it is 0. -/
def gz (b : Nat) : Nat := if gmag b = 0 then 0 else b
/-- The bits of a single of a magnitude and a sign. -/
def flt32 (m : Nat) (neg : Bool) : Nat := if neg && decide (m ≠ 0) then m ||| 2147483648 else m
def nearB32 (a : Int) (d : Nat) : Nat := flt32 (rdF 24 (-149) 104 a.natAbs d 2) (decide (a < 0))
theorem or_31 {m : Nat} (h : m < 2147483648) : m ||| 2147483648 = m + 2147483648 := by
  have := Nat.two_pow_add_eq_or_of_lt (i := 31) (b := m) (by simpa using h) 1
  rw [Nat.or_comm]
  simp at this
  omega
theorem isF_units {b : Nat} {a : Int} {d : Nat} (hb : b < 4294967296) (hx : gx b ≠ 255) (h : IsF (cv b) a d) : a.natAbs * 2 ^ 149 = gmag b * 2 ^ gup b * d := by
  unfold IsF at h
  obtain ⟨-, -, hI⟩ := cv_spec hb hx
  have h1 : a.natAbs * 2 ^ 149 = gmag b * 2 ^ gup b * d := by
    have := congrArg Int.natAbs h
    rw [Int.natAbs_mul, Int.natAbs_mul, hI, Int.natAbs_natCast, Int.natAbs_natCast] at this
    have e : (if gneg b then -((gmag b * 2 ^ (gup b + 925) : Nat) : Int) else ((gmag b * 2 ^ (gup b + 925) : Nat) : Int)).natAbs = gmag b * 2 ^ (gup b + 925) := by
      split
      · rw [Int.natAbs_neg, Int.natAbs_natCast]
      · rw [Int.natAbs_natCast]
    rw [e] at this
    obtain ⟨c, hc⟩ : ∃ c, c = 925 := ⟨_, rfl⟩
    rw [← hc] at this
    have e3 : ex74 = 149 + c := by rw [ex74_eq, hc]
    have e2 : two74 = 2 ^ 149 * 2 ^ c := by unfold two74; rw [e3, Nat.pow_add]
    rw [e2, Nat.pow_add] at this
    refine Nat.eq_of_mul_eq_mul_right (Nat.pow_pos (n := c) (show 0 < 2 by omega)) ?_
    rw [Nat.mul_assoc, this]
    simp only [Nat.mul_assoc, Nat.mul_comm, Nat.mul_left_comm]
  exact h1
theorem rdF32_eq {b : Nat} {a : Int} {d : Nat} (hb : b < 4294967296) (hx : gx b ≠ 255) (hd : 0 < d) (h : IsF (cv b) a d) (h0 : gmag b ≠ 0) : rdF 24 (-149) 104 a.natAbs d 2 = b % 2147483648 := by
  have hlt : gmag b < 2 ^ 24 := by
    have := gmag_lt b
    have e : (2 : Nat) ^ 24 = 16777216 := by decide
    omega
  rw [rdF_exact (hi := 104) (p := a.natAbs) (u := gup b) (c := 149) (show Fm 24 (-149) 104 by unfold Fm; omega) (by rfl) hd (by omega) hlt (gmag_or b) (by have := gup_le hx; omega) (isF_units hb hx h)]
  exact gm_back hx
theorem rdF32_lt {b : Nat} {a : Int} {d : Nat} (hb : b < 4294967296) (hx : gx b ≠ 255) (hd : 0 < d) (h : IsF (cv b) a d) : rdF 24 (-149) 104 a.natAbs d 2 < 2147483648 := by
  by_cases h0 : gmag b = 0
  · have h1 := isF_units hb hx h
    rw [h0, Nat.zero_mul, Nat.zero_mul] at h1
    have ha : a.natAbs = 0 := by
      rcases Nat.mul_eq_zero.1 h1 with e | e
      · exact e
      · have := Nat.pow_pos (a := 2) (n := 149) (by omega); omega
    rw [ha]
    unfold rdF
    rw [if_pos rfl]
    omega
  · rw [rdF32_eq hb hx hd h h0]
    exact Nat.mod_lt _ (by omega)
theorem nearB32_gz {b : Nat} {a : Int} {d : Nat} (hb : b < 4294967296) (hx : gx b ≠ 255) (hd : 0 < d) (h : IsF (cv b) a d) : nearB32 a d = gz b := by
  unfold IsF at h
  have hT := two74_pos
  have hT' : (0 : Int) < (two74 : Int) := by omega
  have hd' : (0 : Int) < (d : Int) := by omega
  obtain ⟨-, -, hI⟩ := cv_spec hb hx
  have h1 : a.natAbs * 2 ^ 149 = gmag b * 2 ^ gup b * d := by
    have := congrArg Int.natAbs h
    rw [Int.natAbs_mul, Int.natAbs_mul, hI, Int.natAbs_natCast, Int.natAbs_natCast] at this
    have e : (if gneg b then -((gmag b * 2 ^ (gup b + 925) : Nat) : Int) else ((gmag b * 2 ^ (gup b + 925) : Nat) : Int)).natAbs = gmag b * 2 ^ (gup b + 925) := by
      split
      · rw [Int.natAbs_neg, Int.natAbs_natCast]
      · rw [Int.natAbs_natCast]
    rw [e] at this
    obtain ⟨c, hc⟩ : ∃ c, c = 925 := ⟨_, rfl⟩
    rw [← hc] at this
    have e3 : ex74 = 149 + c := by rw [ex74_eq, hc]
    have e2 : two74 = 2 ^ 149 * 2 ^ c := by unfold two74; rw [e3, Nat.pow_add]
    rw [e2, Nat.pow_add] at this
    refine Nat.eq_of_mul_eq_mul_right (Nat.pow_pos (n := c) (show 0 < 2 by omega)) ?_
    rw [Nat.mul_assoc, this]
    simp only [Nat.mul_assoc, Nat.mul_comm, Nat.mul_left_comm]
  unfold nearB32 gz
  by_cases h0 : gmag b = 0
  · have ha : a.natAbs = 0 := by
      rw [h0, Nat.zero_mul, Nat.zero_mul] at h1
      rcases Nat.mul_eq_zero.1 h1 with e | e
      · exact e
      · have := Nat.pow_pos (a := 2) (n := 149) (by omega); omega
    rw [if_pos h0, ha]
    unfold rdF
    rw [if_pos rfl]
    simp [flt32]
  · rw [if_neg h0]
    have hlt : gmag b < 2 ^ 24 := by
      have := gmag_lt b
      have e : (2 : Nat) ^ 24 = 16777216 := by decide
      omega
    have hr := rdF_exact (hi := 104) (p := a.natAbs) (u := gup b) (c := 149) (show Fm 24 (-149) 104 by unfold Fm; omega) (by rfl) hd (by omega) hlt (gmag_or b) (by have := gup_le hx; omega) h1
    rw [hr]
    have hb2 := gm_back hx
    have hbk : b = b % 2147483648 + (if gneg b then 2147483648 else 0) := by
      unfold gneg
      split <;> rename_i e <;> simp at e <;> omega
    have hp0 : 0 < gmag b * 2 ^ (gup b + 925) := Nat.mul_pos (by omega) (Nat.pow_pos (by omega))
    have hn : decide (a < 0) = gneg b := by
      generalize gmag b * 2 ^ (gup b + 925) = M at hI hp0
      have hneg : decide (fI (cv b) < 0) = gneg b := by
        rw [hI]
        cases gneg b
        · simp only [Bool.false_eq_true, if_false, decide_eq_false_iff_not]; omega
        · simp only [if_true, decide_eq_true_eq]; omega
      rw [← hneg, decide_eq_decide]
      constructor
      · intro ha
        have : a * (two74 : Int) < 0 := Int.mul_neg_of_neg_of_pos ha hT'
        rw [h] at this
        refine Int.lt_of_not_ge fun hn => ?_
        have := Int.mul_nonneg hn (Int.le_of_lt hd')
        omega
      · intro hf
        have : fI (cv b) * (d : Int) < 0 := Int.mul_neg_of_neg_of_pos hf hd'
        rw [← h] at this
        refine Int.lt_of_not_ge fun hn => ?_
        have := Int.mul_nonneg hn (Int.le_of_lt hT')
        omega
    rw [hn, hb2]
    have hp : b % 2147483648 ≠ 0 := by rw [← hb2]; omega
    unfold flt32
    cases hs : gneg b
    · rw [hs] at hbk
      rw [if_neg Bool.false_ne_true, Nat.add_zero] at hbk
      rw [Bool.false_and, if_neg Bool.false_ne_true]
      exact hbk.symm
    · rw [hs] at hbk
      simp [hp]
      rw [or_31 (Nat.mod_lt _ (by omega))]
      simp at hbk
      exact hbk.symm
theorem gI_zero : gI 0 = 0 := by decide
theorem gz_same {b : Nat} (hb : b < 4294967296) (hx : gx b ≠ 255) : (Ieee.single.order (gz b) b == some Ordering.eq) = true := by
  have hz : gz b < 4294967296 ∧ gx (gz b) ≠ 255 ∧ gup (gz b) = gup b ∨ gmag b = 0 := by
    unfold gz
    by_cases h : gmag b = 0
    · exact .inr h
    · rw [if_neg h]; exact .inl ⟨hb, hx, rfl⟩
  have key : ∀ c, c < 4294967296 → gx c ≠ 255 → Ieee.signed (gneg c) (gmag c) (gup c - min (gup c) (gup b)) = Ieee.signed (gneg b) (gmag b) (gup b - min (gup c) (gup b)) → (Ieee.single.order c b == some Ordering.eq) = true := by
    intro c hc xc hk
    unfold Ieee.Format.order
    rw [read_fin32 hc xc, read_fin32 hb hx]
    unfold Ieee.Datum.order
    simp only
    have e0 : min ((gup c : Nat) - 149 : Int) ((gup b : Nat) - 149) = ((min (gup c) (gup b) : Nat) : Int) - 149 := by omega
    rw [e0]
    have e1 : ((gup c : Nat) - 149 - (((min (gup c) (gup b) : Nat) : Int) - 149) : Int).toNat = gup c - min (gup c) (gup b) := by omega
    have e2 : ((gup b : Nat) - 149 - (((min (gup c) (gup b) : Nat) : Int) - 149) : Int).toNat = gup b - min (gup c) (gup b) := by omega
    rw [e1, e2, hk]
    have : ∀ x : Int, compare x x = Ordering.eq := fun x => by show compareOfLessAndEq _ _ = _; simp [compareOfLessAndEq]
    rw [this]; rfl
  rcases hz with ⟨-, -, -⟩ | h
  · unfold gz
    by_cases h : gmag b = 0
    · rw [if_pos h]
      refine key 0 (by omega) (by decide) ?_
      rw [h]
      unfold Ieee.signed
      simp [show gmag 0 = 0 from rfl]
    · rw [if_neg h]
      exact key b hb hx rfl
  · unfold gz
    rw [if_pos h]
    refine key 0 (by omega) (by decide) ?_
    rw [h]
    unfold Ieee.signed
    simp [show gmag 0 = 0 from rfl]
end Go.Proofs.YtphlmmjlpbledaaGreatDoor
