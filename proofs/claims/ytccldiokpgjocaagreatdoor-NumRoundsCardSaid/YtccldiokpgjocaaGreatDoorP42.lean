import Derived.Test.YtccldiokpgjocaaGreatDoorP01
import Derived.Test.YtccldiokpgjocaaGreatDoorP27
import Derived.Test.YtccldiokpgjocaaGreatDoorP41
set_option linter.unusedSimpArgs false
set_option linter.unusedVariables false
namespace Go.Proofs.YtccldiokpgjocaaGreatDoor
def ex74 : Nat := 1074
theorem ex74_eq : ex74 = 1074 := rfl
def two74 : Nat := 2 ^ ex74
theorem two74_pos : 0 < two74 := Nat.pow_pos (by omega)
def cf (a b : Nat) : Cx := ⟨(fI a : Rat) / (two74 : Rat), (fI b : Rat) / (two74 : Rat)⟩
theorem gcd_two_odd {k m : Nat} (h : m % 2 = 1) : Nat.gcd (2 ^ k) m = 1 := by
  refine Nat.Coprime.pow_left k ?_
  show Nat.gcd 2 m = 1
  rw [Nat.gcd_rec, h, Nat.gcd_one_left]
theorem scale_part {z n low : Int} {f : Int} (h : z * 2 ^ (n + 1074).toNat = f) (h1 : -1074 ≤ n) (h2 : low ≤ n) (h3 : low ≤ 0) :
    (f : Rat) / (two74 : Rat) * ((2 ^ (-low).toNat : Nat) : Rat) = ((z * 2 ^ (n - low).toNat : Int) : Rat) := by
  have hT : (two74 : Rat) ≠ 0 := natCast_ne two74_pos
  have hi := Rat.inv_mul_cancel _ hT
  have e1 : (2 : Int) ^ (n + 1074).toNat * 2 ^ (-low).toNat = 2 ^ (n - low).toNat * (two74 : Int) := by
    unfold two74
    rw [show (((2 ^ ex74 : Nat)) : Int) = (2 : Int) ^ ex74 from by rw [Int.natCast_pow]; rfl, ← Int.pow_add, ← Int.pow_add]
    congr 1
    have := ex74_eq
    omega
  have e2 : f * ((2 ^ (-low).toNat : Nat) : Int) = z * 2 ^ (n - low).toNat * (two74 : Int) := by
    rw [← h, show (((2 ^ (-low).toNat : Nat)) : Int) = (2 : Int) ^ (-low).toNat from by rw [Int.natCast_pow]; rfl, Int.mul_assoc, e1, Int.mul_assoc]
  have e3 := congrArg (fun t : Int => (t : Rat)) e2
  simp only [Rat.intCast_mul, Rat.intCast_natCast] at e3
  rw [Rat.div_def, Rat.intCast_mul]
  grind
theorem cf_low {x y : Nat} {z1 z2 n1 n2 low : Int} (h1 : z1 * 2 ^ (n1 + 1074).toNat = fI x) (h2 : z2 * 2 ^ (n2 + 1074).toNat = fI y) (b1 : -1074 ≤ n1) (b2 : -1074 ≤ n2)
    (o1 : z1 = 0 ∧ n1 = 0 ∨ z1 % 2 ≠ 0) (o2 : z2 = 0 ∧ n2 = 0 ∨ z2 % 2 ≠ 0) (hl : low = min (min n1 n2) 0) :
    Low (cf x y) (z1 * 2 ^ (n1 - low).toNat) (z2 * 2 ^ (n2 - low).toNat) (2 ^ (-low).toNat) := by
  refine ⟨Nat.pow_pos (by omega), ?_, scale_part h1 b1 (by omega) (by omega), scale_part h2 b2 (by omega) (by omega)⟩
  rcases Int.lt_or_le low 0 with h0 | h0
  · rcases (show low = n1 ∨ low = n2 by omega) with h | h
    · rcases o1 with ⟨-, h3⟩ | h3
      · omega
      · have e : (n1 - low).toNat = 0 := by omega
        rw [e, gcd_two_odd (by simp; omega)]
        simp
    · rcases o2 with ⟨-, h3⟩ | h3
      · omega
      · have e : (n2 - low).toNat = 0 := by omega
        rw [e]
        refine Nat.Coprime.coprime_dvd_left (Nat.gcd_dvd_left _ _) (gcd_two_odd (by simp; omega))
  · have e : (-low).toNat = 0 := by omega
    rw [e]
    simp
theorem pow2_lt {a b : Nat} (h : (2 : Nat) ^ a < 2 ^ b) : a < b := (Nat.pow_lt_pow_iff_right (a := 2) (by omega)).1 h
theorem exact_shift {dg p q m u c : Nat} (hq : 0 < q) (hp : 0 < p) (h : p * 2 ^ c = m * 2 ^ u * q) (hm : m < 2 ^ dg) :
    ∃ t : Nat, (t : Int) = (u : Int) - c + rdS dg p q ∧ 2 ≤ t ∧ rdM dg p q = m * 2 ^ t ∧ rdX dg p q = false := by
  obtain ⟨m1, m2, mQ⟩ := rdM_bounds (dg := dg) hp hq
  unfold rdX
  unfold rdM at *
  generalize rdS dg p q = s at *
  obtain ⟨a, ha⟩ : ∃ a : Nat, s.toNat = a := ⟨_, rfl⟩
  obtain ⟨b, hb⟩ : ∃ b : Nat, (-s).toNat = b := ⟨_, rfl⟩
  unfold scP scQ at *
  rw [ha, hb] at m1 m2 ⊢
  rw [hb] at mQ
  rw [Nat.le_div_iff_mul_le mQ] at m1
  have k1 : p * 2 ^ a * 2 ^ c = m * (2 ^ (u + a) * q) := by
    rw [Nat.mul_right_comm, h, Nat.pow_add]
    simp only [Nat.mul_assoc, Nat.mul_comm, Nat.mul_left_comm]
  have k2 : c + b + 1 < u + a := by
    refine Nat.lt_of_not_le fun hn => ?_
    have e1 : 2 ^ (dg + 1) * (q * 2 ^ b) * 2 ^ c ≤ m * (2 ^ (u + a) * q) := by rw [← k1]; exact Nat.mul_le_mul_right _ m1
    have e2 : 2 ^ (dg + 1) * (q * 2 ^ b) * 2 ^ c = 2 ^ (dg + (c + b + 1)) * q := by
      rw [show dg + (c + b + 1) = dg + 1 + b + c by omega, Nat.pow_add _ _ c, Nat.pow_add _ (dg + 1) b]
      simp only [Nat.mul_assoc, Nat.mul_comm, Nat.mul_left_comm]
    have e3 : m * (2 ^ (u + a) * q) < 2 ^ dg * (2 ^ (u + a) * q) := Nat.mul_lt_mul_of_pos_right hm (Nat.mul_pos (Nat.pow_pos (by omega)) hq)
    have e4 : 2 ^ dg * (2 ^ (u + a) * q) = 2 ^ (dg + (u + a)) * q := by rw [Nat.pow_add 2 dg (u + a), Nat.mul_assoc]
    rw [e2] at e1
    rw [e4] at e3
    have e5 := pow2_lt (Nat.lt_of_mul_lt_mul_right (Nat.lt_of_le_of_lt e1 e3))
    omega
  obtain ⟨t, ht⟩ : ∃ t, u + a = c + b + t := ⟨u + a - (c + b), by omega⟩
  have k3 : p * 2 ^ a = m * 2 ^ t * (q * 2 ^ b) := by
    refine Nat.eq_of_mul_eq_mul_right (Nat.pow_pos (n := c) (show 0 < 2 by omega)) ?_
    rw [k1, ht, Nat.pow_add, Nat.pow_add]
    simp only [Nat.mul_assoc, Nat.mul_comm, Nat.mul_left_comm]
  refine ⟨t, by omega, by omega, ?_, ?_⟩
  · rw [k3, Nat.mul_div_cancel _ mQ]
  · rw [k3, Nat.mul_mod_left]; simp
theorem bl_shift {m t : Nat} (hm : 0 < m) : bl (m * 2 ^ t) = bl m + t := by
  obtain ⟨h0, h1, h2⟩ := bl_pow hm
  have h3 : 2 ^ (bl m - 1 + t) ≤ m * 2 ^ t := by rw [Nat.pow_add]; exact Nat.mul_le_mul_right _ h1
  have h4 : m * 2 ^ t < 2 ^ (bl m + t) := by rw [Nat.pow_add]; exact Nat.mul_lt_mul_of_pos_right h2 (Nat.pow_pos (by omega))
  have := bl_between h3 h4
  omega
theorem rUp_exact (k h : Nat) (hh : 0 < h) : rUp k 0 h false 2 = false := by
  have e1 : ¬ (0 = h) := by omega
  simp [rUp, e1]
theorem rdF_exact {dg : Nat} {lo hi : Int} {p q m u c : Nat} (hf : Fm dg lo hi) (hc : (c : Int) = -lo) (hq : 0 < q) (h0 : 0 < m) (hm : m < 2 ^ dg) (hu : u = 0 ∨ 2 ^ (dg - 1) ≤ m) (hhi : (u : Int) + lo ≤ hi) (h : p * 2 ^ c = m * 2 ^ u * q) :
    rdF dg lo hi p q 2 = u * 2 ^ (dg - 1) + m := by
  obtain ⟨f1, f2, f3, f4, f5, f6⟩ := hf
  have hp : 0 < p := by
    rcases Nat.eq_zero_or_pos p with e | e
    · subst e
      have : 0 < m * 2 ^ u * q := Nat.mul_pos (Nat.mul_pos h0 (Nat.pow_pos (by omega))) hq
      omega
    · exact e
  obtain ⟨t, ht, ht2, hM, hX⟩ := exact_shift hq hp h hm
  have hS : rdS dg p q = (t : Int) - u - lo := by omega
  obtain ⟨-, m2, -⟩ := rdM_bounds (dg := dg) hp hq
  have ht3 : t ≤ 60 := by
    rw [hM] at m2
    have : 2 ^ t < 2 ^ (dg + 3) := Nat.lt_of_le_of_lt (Nat.le_mul_of_pos_left _ h0) m2
    have := pow2_lt this
    omega
  have hbl : bl m ≤ dg := by
    obtain ⟨b0, b1, b2⟩ := bl_pow h0
    have := pow2_lt (Nat.lt_of_le_of_lt b1 hm)
    omega
  have hblu : u = 0 ∨ bl m = dg := by
    rcases hu with e | e
    · exact .inl e
    · right
      have := (bl_between e (bl_pow h0).2.2).1
      omega
  have hU : rdU dg lo p q = (u : Int) + lo := by
    unfold rdU
    rw [hM, bl_shift h0, hS]
    omega
  have hD : rdD dg lo p q = t := by
    unfold rdD
    rw [hU, hS]
    omega
  have ht0 : 0 < 2 ^ t := Nat.pow_pos (by omega)
  unfold rdF
  rw [if_neg (by omega), if_neg (by omega), rdB_eq, hD, hU, hM, hX, Nat.mul_div_cancel _ ht0, Nat.mul_mod_left, rUp_exact _ _ (Nat.pow_pos (by omega))]
  have e : ((u : Int) + lo - lo).toNat = u := by omega
  rw [e]
  simp
theorem fm_back {b : Nat} (hb : b < 18446744073709551616) (h : fx b ≠ 2047) : fup b * 2 ^ 52 + fmag b = b % 9223372036854775808 := by
  have e : (2 : Nat) ^ 52 = 4503599627370496 := by decide +kernel
  rw [e]
  unfold fup fmag fm
  have := fx_lt b
  split
  · rename_i h0
    rw [h0]
    unfold fx at h0
    omega
  · rename_i h0
    have h1 : fx b = b % 9223372036854775808 / 4503599627370496 := by unfold fx; omega
    have h2 : b % 4503599627370496 = b % 9223372036854775808 % 4503599627370496 := by omega
    rw [h2]
    generalize b % 9223372036854775808 = c at *
    rw [h1] at h0 ⊢
    have h3 := Nat.div_add_mod c 4503599627370496
    obtain ⟨k, hk⟩ : ∃ k, c / 4503599627370496 = k + 1 := ⟨c / 4503599627370496 - 1, by omega⟩
    rw [hk] at h3 ⊢
    generalize c % 4503599627370496 = r at h3 ⊢
    rw [← h3, Nat.add_sub_cancel, Nat.mul_add, Nat.mul_one, Nat.mul_comm k, Nat.add_assoc, Nat.add_comm r]
theorem fup_le {b : Nat} (h : fx b ≠ 2047) : fup b ≤ 2045 := by
  have := fx_lt b
  unfold fup
  omega
theorem fI_abs (b : Nat) : (fI b).natAbs = fmag b * 2 ^ fup b := by
  unfold fI
  split
  · rw [Int.natAbs_neg, Int.natAbs_natCast]
  · rw [Int.natAbs_natCast]
theorem fmag_pos {b : Nat} (h : fmag b ≠ 0) : 0 < fmag b * 2 ^ fup b := Nat.mul_pos (by omega) (Nat.pow_pos (by omega))
theorem fI_neg (b : Nat) : decide (fI b < 0) = (fneg b && decide (fmag b ≠ 0)) := by
  by_cases h : fmag b = 0
  · have e : fI b = 0 := by unfold fI; rw [h]; simp
    rw [e, h]; simp
  · have hp := fmag_pos h
    unfold fI
    generalize fmag b * 2 ^ fup b = m at hp
    cases fneg b
    · simp only [h, Bool.false_eq_true, if_false, Bool.false_and, decide_eq_false_iff_not]; omega
    · simp only [if_true, Bool.true_and, decide_eq_decide]; omega
theorem fmag_or (b : Nat) : fup b = 0 ∨ 2 ^ (53 - 1) ≤ fmag b := by
  have e : (2 : Nat) ^ (53 - 1) = 4503599627370496 := by decide +kernel
  rw [e]
  unfold fup fmag
  split
  · left; omega
  · right; omega
theorem or_63 {m : Nat} (h : m < 9223372036854775808) : m ||| 9223372036854775808 = m + 9223372036854775808 := by
  have := Nat.two_pow_add_eq_or_of_lt (i := 63) (b := m) (by simpa using h) 1
  rw [Nat.or_comm]
  simp at this
  omega
def IsF (b : Nat) (a : Int) (d : Nat) : Prop := a * (two74 : Int) = fI b * (d : Int)
theorem nearB_eq {b : Nat} {a : Int} {d : Nat} (hb : b < 18446744073709551616) (hx : fx b ≠ 2047) (hd : 0 < d) (h : IsF b a d) :
    nearB a d = if fmag b = 0 then 0 else b := by
  unfold IsF at h
  have hT := two74_pos
  have hT' : (0 : Int) < (two74 : Int) := by omega
  have hd' : (0 : Int) < (d : Int) := by omega
  have h1 : a.natAbs * two74 = fmag b * 2 ^ fup b * d := by
    have := congrArg Int.natAbs h
    rw [Int.natAbs_mul, Int.natAbs_mul, fI_abs, Int.natAbs_natCast, Int.natAbs_natCast] at this
    exact this
  unfold nearB
  by_cases h0 : fmag b = 0
  · have ha : a.natAbs = 0 := by
      rw [h0, Nat.zero_mul, Nat.zero_mul] at h1
      rcases Nat.mul_eq_zero.1 h1 with e | e <;> omega
    rw [if_pos h0, ha]
    unfold rdF
    rw [if_pos rfl]
    simp [flt]
  · rw [if_neg h0]
    have hlt : fmag b < 2 ^ 53 := by
      have := fmag_lt b
      have e : (2 : Nat) ^ 53 = 9007199254740992 := by decide +kernel
      omega
    have hr := rdF_exact (hi := 971) (p := a.natAbs) (u := fup b) (c := ex74) Fm.double (by rw [ex74_eq]; rfl) hd (by omega) hlt (fmag_or b) (by have := fup_le hx; omega) h1
    rw [hr]
    have hb2 := fm_back hb hx
    have hbk : b = b % 9223372036854775808 + (if fneg b then 9223372036854775808 else 0) := by
      unfold fneg
      split <;> rename_i e <;> simp at e <;> omega
    have hn : decide (a < 0) = fneg b := by
      have := fI_neg b
      rw [decide_eq_true h0, Bool.and_true] at this
      rw [← this, decide_eq_decide]
      constructor
      · intro ha
        have : a * (two74 : Int) < 0 := Int.mul_neg_of_neg_of_pos ha hT'
        rw [h] at this
        refine Int.lt_of_not_ge fun hn => ?_
        have := Int.mul_nonneg hn (Int.le_of_lt hd')
        omega
      · intro hf
        have : fI b * (d : Int) < 0 := Int.mul_neg_of_neg_of_pos hf hd'
        rw [← h] at this
        refine Int.lt_of_not_ge fun hn => ?_
        have := Int.mul_nonneg hn (Int.le_of_lt hT')
        omega
    rw [hn, hb2]
    have hp : b % 9223372036854775808 ≠ 0 := by rw [← hb2]; omega
    unfold flt
    cases hs : fneg b
    · rw [hs] at hbk
      rw [if_neg Bool.false_ne_true, Nat.add_zero] at hbk
      rw [Bool.false_and, if_neg Bool.false_ne_true]
      exact hbk.symm
    · rw [hs] at hbk
      simp [hp]
      rw [or_63 (Nat.mod_lt _ (by omega))]
      simp at hbk
      exact hbk.symm
theorem compare_scale (x y : Int) (k : Nat) : compare (x * ((2 ^ k : Nat) : Int)) (y * ((2 ^ k : Nat) : Int)) = compare x y := by
  have hk : (0 : Int) < ((2 ^ k : Nat) : Int) := by have := Nat.pow_pos (a := 2) (n := k) (by omega); omega
  generalize ((2 ^ k : Nat) : Int) = c at hk
  show compareOfLessAndEq _ _ = compareOfLessAndEq _ _
  unfold compareOfLessAndEq
  have e1 : x * c < y * c ↔ x < y := ⟨fun h => Int.lt_of_mul_lt_mul_right h (Int.le_of_lt hk), fun h => Int.mul_lt_mul_of_pos_right h hk⟩
  have e2 : x * c = y * c ↔ x = y := ⟨fun h => Int.eq_of_mul_eq_mul_right (by omega) h, fun h => by rw [h]⟩
  simp only [e1, e2]
theorem signed_up {b k : Nat} (h : k ≤ fup b) : Ieee.signed (fneg b) (fmag b) (fup b - k) * ((2 ^ k : Nat) : Int) = fI b := by
  have e : fmag b * 2 ^ (fup b - k) * 2 ^ k = fmag b * 2 ^ fup b := by rw [Nat.mul_assoc, ← Nat.pow_add]; congr 2; omega
  unfold Ieee.signed fI
  rw [Nat.shiftLeft_eq, ← e]
  split
  · rw [Int.neg_mul, ← Int.natCast_mul]
  · rw [← Int.natCast_mul]
theorem order_fI {a b : Nat} (ha : a < 18446744073709551616) (hb : b < 18446744073709551616) (xa : fx a ≠ 2047) (xb : fx b ≠ 2047) : Ieee.double.order a b = some (compare (fI a) (fI b)) := by
  unfold Ieee.Format.order
  rw [read_fin ha xa, read_fin hb xb]
  unfold Ieee.Datum.order
  simp only
  obtain ⟨k, hk⟩ : ∃ k, k = min (fup a) (fup b) := ⟨_, rfl⟩
  have e0 : min ((fup a : Nat) - 1074 : Int) ((fup b : Nat) - 1074) = (k : Int) - 1074 := by omega
  rw [e0]
  have e1 : ((fup a : Nat) - 1074 - ((k : Int) - 1074) : Int).toNat = fup a - k := by omega
  have e2 : ((fup b : Nat) - 1074 - ((k : Int) - 1074) : Int).toNat = fup b - k := by omega
  rw [e1, e2, ← compare_scale _ _ k, signed_up (by omega), signed_up (by omega)]
theorem fI_zero : fI 0 = 0 := by decide
def fz (b : Nat) : Nat := if fmag b = 0 then 0 else b
theorem wl_of_two {x k n : Nat} (h : x < 2 ^ k) (hk : k ≤ 32 * n) : wl x ≤ n :=
  wl_le_of (by rw [show (4294967296 : Nat) = 2 ^ 32 from rfl, ← Nat.pow_mul]; exact Nat.lt_of_lt_of_le h (Nat.pow_le_pow_right (by omega) hk))
theorem two74_wl : wl two74 ≤ 34 := wl_of_two (k := ex74 + 1) (Nat.pow_lt_pow_right (by omega) (Nat.lt_succ_self _)) (by rw [ex74_eq]; omega)
theorem fI_wl (b : Nat) : wl (fI b).natAbs ≤ 67 := by
  have h := fmag_lt b
  have hu : fup b ≤ 2046 := by have := fx_lt b; unfold fup; omega
  have hk : fmag b * 2 ^ fup b < 2 ^ (53 + fup b) := by
    rw [Nat.pow_add]
    exact Nat.mul_lt_mul_of_pos_right (by simpa using h) (Nat.pow_pos (by omega))
  rw [fI_abs]
  exact wl_of_two hk (by omega)
theorem div_two74 (z : Int) : (z : Rat) / (two74 : Rat) * (two74 : Rat) = (z : Rat) := by
  have hi := Rat.inv_mul_cancel _ (natCast_ne two74_pos)
  rw [Rat.div_def, Rat.mul_assoc, hi, Rat.mul_one]
theorem cf_sz (x y : Nat) : Sz (cf x y) 67 := Sz.of two74_pos (div_two74 _) (div_two74 _) (fI_wl x) (fI_wl y) (Nat.le_trans two74_wl (by omega))
def dy (b : Nat) : Cx := ⟨(fI b : Rat) / (two74 : Rat), 0⟩
end Go.Proofs.YtccldiokpgjocaaGreatDoor
