import Derived.IntWalk
import Derived.Laws.FloatBits
import Derived.Test.YtccldiokpgjocaaGreatDoorR14
import Derived.Test.YtccldiokpgjocaaGreatDoorR17
import Derived.Test.YtccldiokpgjocaaGreatDoorR25
import Derived.Test.YtccldiokpgjocaaGreatDoorR26
import Derived.Test.YtccldiokpgjocaaGreatDoorR28
import Derived.Test.YtccldiokpgjocaaGreatDoorR31
import Derived.Test.YtccldiokpgjocaaGreatDoorR32
import Derived.Test.YtccldiokpgjocaaGreatDoorR33
import Derived.Test.YtccldiokpgjocaaGreatDoorR34
import Derived.Test.YtccldiokpgjocaaGreatDoorR35
import GoSem.Core.Float
import Derived.Deep.LoopGhost
set_option linter.unusedSimpArgs false
set_option linter.unusedVariables false
namespace Go.Proofs.YtccldiokpgjocaaGreatDoor
def IsRt (s x : Nat) : Prop := s * s ≤ x ∧ x < (s + 1) * (s + 1)
theorem IsRt.le {s x r : Nat} (a : IsRt s x) (h : r * r ≤ x) : r ≤ s := by
  rcases Nat.lt_or_ge s r with k | k
  · have := Nat.mul_le_mul (show s + 1 ≤ r from k) (show s + 1 ≤ r from k)
    have := a.2
    omega
  · exact k
theorem IsRt.lt {s x r : Nat} (a : IsRt s x) (h : x < r * r) : s < r := by
  rcases Nat.lt_or_ge s r with k | k
  · exact k
  · have := Nat.mul_le_mul k k
    have := a.1
    omega
theorem IsRt.uniq {s r x : Nat} (a : IsRt s x) (b : IsRt r x) : s = r := Nat.le_antisymm (b.le a.1) (a.le b.1)
theorem mid_sq (a b : Nat) : 4 * (a * b) ≤ (a + b) * (a + b) := by
  rcases Nat.le_total a b with h | h
  · obtain ⟨d, rfl⟩ := Nat.exists_eq_add_of_le h
    have e : (a + (a + d)) * (a + (a + d)) = 4 * (a * (a + d)) + d * d := by
      simp only [Nat.mul_add, Nat.add_mul]
      have := Nat.mul_comm a d
      omega
    omega
  · obtain ⟨d, rfl⟩ := Nat.exists_eq_add_of_le h
    have e : (b + d + b) * (b + d + b) = 4 * ((b + d) * b) + d * d := by
      simp only [Nat.mul_add, Nat.add_mul]
      have := Nat.mul_comm b d
      omega
    omega
theorem newton_ge {s r x : Nat} (a : IsRt s x) (hr : 0 < r) : s ≤ (r + x / r) / 2 := by
  rcases Nat.lt_or_ge ((r + x / r) / 2) s with k | k
  · exfalso
    have hq : x < (x / r + 1) * r := by
      have := Nat.lt_div_mul_add (a := x) hr
      rw [Nat.add_mul, Nat.one_mul]
      exact this
    have hm := mid_sq (x / r + 1) r
    have h2 : x / r + 1 + r ≤ 2 * s := by omega
    have h3 := Nat.mul_le_mul h2 h2
    have h4 : 2 * s * (2 * s) = 4 * (s * s) := by
      rw [Nat.mul_mul_mul_comm]
    have := a.1
    omega
  · exact k
theorem newton_stop {s r x : Nat} (a : IsRt s x) (hs : s ≤ r) (h : r ≤ (r + x / r) / 2) : r = s := by
  refine Nat.le_antisymm (a.le ?_) hs
  have h1 : r ≤ x / r := by omega
  exact Nat.le_trans (Nat.mul_le_mul_right r h1) (Nat.div_mul_le_self x r)
theorem newton_from {s t x h : Nat} (a : IsRt s x) (b : IsRt t (x / 2 ^ (2 * h))) : s ≤ (t + 1) * 2 ^ h := by
  refine Nat.le_of_lt (a.lt ?_)
  have hp : 0 < 2 ^ (2 * h) := Nat.pow_pos (by omega)
  have h1 : x < (t + 1) * (t + 1) * 2 ^ (2 * h) := (Nat.div_lt_iff_lt_mul hp).1 b.2
  have e : (t + 1) * 2 ^ h * ((t + 1) * 2 ^ h) = (t + 1) * (t + 1) * 2 ^ (2 * h) := by
    rw [Nat.mul_mul_mul_comm, ← Nat.pow_add, Nat.two_mul]
  rw [e]
  exact h1
theorem rootFrom_is (n : Nat) : ∀ (t r : Nat), r * r ≤ n → n < (r + 2 ^ t) * (r + 2 ^ t) → IsRt (Ieee.Datum.rootFrom n t r) n
  | 0, r, h1, h2 => ⟨h1, by simpa [Ieee.Datum.rootFrom] using h2⟩
  | t + 1, r, h1, h2 => by
    unfold Ieee.Datum.rootFrom
    simp only [Nat.one_shiftLeft]
    by_cases k : (r + 2 ^ t) * (r + 2 ^ t) ≤ n
    · rw [if_pos k]
      refine rootFrom_is n t _ k ?_
      rw [show r + 2 ^ t + 2 ^ t = r + 2 ^ (t + 1) by rw [Nat.pow_succ]; omega]
      exact h2
    · rw [if_neg k]
      exact rootFrom_is n t r h1 (Nat.lt_of_not_ge k)
theorem rootFrom_root (n : Nat) : IsRt (Ieee.Datum.rootFrom n (n.log2 / 2 + 1) 0) n := by
  refine rootFrom_is n _ 0 (by omega) ?_
  rw [Nat.zero_add, ← Nat.pow_add]
  exact Nat.lt_of_lt_of_le Nat.lt_log2_self (Nat.pow_le_pow_right (by omega) (by omega))
theorem IsRt.ex (x : Nat) : ∃ s, IsRt s x := ⟨_, rootFrom_root x⟩
end Go.Proofs.YtccldiokpgjocaaGreatDoor
set_option linter.unusedSimpArgs false
set_option linter.unusedVariables false
namespace Go.Proofs.YtccldiokpgjocaaGreatDoor
open Ieee
set_option maxRecDepth 100000
theorem d_sw : Ieee.double.signWeight = 9223372036854775808 := by decide
theorem d_bin : Ieee.double.binade = 4503599627370496 := by decide
theorem d_inf : Ieee.double.infRung = 9218868437227405312 := by decide +kernel
theorem d_low : Ieee.double.leastPlace = -1074 := by decide +kernel
theorem read_lt {T K : Nat} (h1 : 4503599627370496 ≤ K) (h2 : K < 9007199254740992) (hT : T ≤ 1901) : Ieee.double.read (T * 4503599627370496 + K) = .number false K ((T : Int) - 1074) := by
  unfold Format.read
  simp only [d_sw, d_bin, d_inf, d_low]
  have e1 : (T * 4503599627370496 + K) / 9223372036854775808 % 2 = 0 := by omega
  have e2 : (T * 4503599627370496 + K) % 9223372036854775808 = T * 4503599627370496 + K := by omega
  rw [e1, e2, if_neg (by omega), if_pos (by omega)]
  have e3 : 4503599627370496 + (T * 4503599627370496 + K) % 4503599627370496 = K := by omega
  have e4 : (T * 4503599627370496 + K) / 4503599627370496 - 1 = T := by omega
  rw [e3, e4, show ((T : Int) - 1074) = -1074 + (T : Int) by omega]
  rfl
theorem read_word {T K : Nat} (h1 : 4503599627370496 ≤ K) (h2 : K ≤ 9007199254740992) (hT : T ≤ 1900) :
    ∃ K' T' : Nat, Ieee.double.read (T * 4503599627370496 + K) = .number false K' ((T' : Int) - 1074) ∧ K' * 2 ^ T' = K * 2 ^ T ∧ 4503599627370496 ≤ K' ∧ K' < 9007199254740992 ∧ T ≤ T' ∧ T' ≤ T + 1 := by
  by_cases k : K = 9007199254740992
  · subst k
    refine ⟨4503599627370496, T + 1, ?_, ?_, by omega, by omega, by omega, by omega⟩
    · have := read_lt (T := T + 1) (K := 4503599627370496) (by omega) (by omega) (by omega)
      rw [show T * 4503599627370496 + 9007199254740992 = (T + 1) * 4503599627370496 + 4503599627370496 by omega]
      exact this
    · rw [Nat.pow_succ]
      have : 4503599627370496 * (2 ^ T * 2) = (4503599627370496 * 2) * 2 ^ T := by ac_rfl
      rw [this]
  · exact ⟨K, T, read_lt h1 (by omega) (by omega), rfl, h1, by omega, by omega, by omega⟩
theorem cut_zero (n : Nat) : Toward.even.cut false n 0 = n := by
  unfold Toward.cut
  simp [Nat.mod_one]
theorem f64_whole {a : Nat} (h0 : 0 < a) (h1 : a < 4503599627370496) :
    ∃ m, FloatKind.f64.nearest (a : Int) = (a.log2 + 1022) * 4503599627370496 + m ∧ m = a * 2 ^ (52 - a.log2) ∧ 4503599627370496 ≤ m ∧ m < 9007199254740992 ∧ a.log2 ≤ 51 := by
  have hL := (Nat.log2_lt (k := 52) (by omega)).2 (show a < 2 ^ 52 by simpa using h1)
  have hL1 := Nat.log2_self_le (n := a) (by omega)
  have hL2 : a < 2 ^ (a.log2 + 1) := Nat.lt_log2_self
  refine ⟨a * 2 ^ (52 - a.log2), ?_, rfl, ?_, ?_, by omega⟩
  · show Ieee.double.nearest (decide ((a : Int) < 0)) (Int.natAbs (a : Int)) 0 = _
    rw [decide_eq_false (by omega), Int.natAbs_natCast]
    unfold Format.nearest
    rw [if_neg (by omega)]
    simp only [d_bin, d_inf, d_low, show Ieee.double.fractionBits = 52 from rfl]
    have hlast : max ((0 : Int) + (a.log2 : Int) - ((52 : Nat) : Int)) (-1074) = (a.log2 : Int) - 52 := by omega
    rw [hlast]
    rw [show ((0 : Int) - ((a.log2 : Int) - 52)).toNat = 52 - a.log2 by omega, show ((a.log2 : Int) - 52 - 0).toNat = 0 by omega, show ((a.log2 : Int) - 52 - -1074).toNat = a.log2 + 1022 by omega, cut_zero, Nat.shiftLeft_eq]
    have k2 : a * 2 ^ (52 - a.log2) < 9007199254740992 := by
      have : a * 2 ^ (52 - a.log2) < 2 ^ (a.log2 + 1) * 2 ^ (52 - a.log2) := Nat.mul_lt_mul_of_pos_right hL2 (Nat.pow_pos (by omega))
      rw [← Nat.pow_add, show a.log2 + 1 + (52 - a.log2) = 53 by omega] at this
      simpa using this
    unfold Format.word
    rw [if_neg (by simp), Nat.min_eq_left (by omega)]
  · have : 2 ^ a.log2 * 2 ^ (52 - a.log2) ≤ a * 2 ^ (52 - a.log2) := Nat.mul_le_mul_right _ hL1
    rw [← Nat.pow_add, show a.log2 + (52 - a.log2) = 52 by omega] at this
    simpa using this
  · have : a * 2 ^ (52 - a.log2) < 2 ^ (a.log2 + 1) * 2 ^ (52 - a.log2) := Nat.mul_lt_mul_of_pos_right hL2 (Nat.pow_pos (by omega))
    rw [← Nat.pow_add, show a.log2 + 1 + (52 - a.log2) = 53 by omega] at this
    simpa using this
theorem root_cut {a s w K h : Nat} (hs : IsRt s a) (hw : IsRt w (a * 2 ^ (2 * (54 - h)))) (hh : h ≤ 25) (ha : a < 2 ^ (2 * h + 2)) (k1 : w / 4 ≤ K) (k2 : K ≤ w / 4 + 1) :
    K / 2 ^ (52 - h) = s := by
  obtain ⟨g, hg⟩ : ∃ g, 52 - h = g := ⟨_, rfl⟩
  have eg : 2 * (54 - h) = (g + 2) + (g + 2) := by omega
  rw [eg, Nat.pow_add] at hw
  rw [hg]
  have e4 : (2 : Nat) ^ (g + 2) = 4 * 2 ^ g := by rw [Nat.pow_add]; omega
  have hp : 0 < 2 ^ g := Nat.pow_pos (by omega)
  have hs1 : s + 1 ≤ 2 ^ (h + 1) := by
    refine hs.lt ?_
    rw [← Nat.pow_add, show h + 1 + (h + 1) = 2 * h + 2 by omega]
    exact ha
  -- w lies between s 2^(g+2) and (s+1) 2^(g+2) - 4
  have l1 : s * 2 ^ (g + 2) ≤ w := by
    refine hw.le ?_
    have := Nat.mul_le_mul_right (2 ^ (g + 2) * 2 ^ (g + 2)) hs.1
    rw [Nat.mul_mul_mul_comm]
    exact this
  have l2 : w + 4 < (s + 1) * 2 ^ (g + 2) := by
    rcases Nat.lt_or_ge (w + 4) ((s + 1) * 2 ^ (g + 2)) with k | k
    · exact k
    · exfalso
      have u1 : (s + 1) * 2 ^ (g + 2) * ((s + 1) * 2 ^ (g + 2)) = (s + 1) * (s + 1) * (2 ^ (g + 2) * 2 ^ (g + 2)) := Nat.mul_mul_mul_comm ..
      have u2 : (a + 1) * (2 ^ (g + 2) * 2 ^ (g + 2)) ≤ (s + 1) * (s + 1) * (2 ^ (g + 2) * 2 ^ (g + 2)) := Nat.mul_le_mul_right _ hs.2
      have u4 := hw.1
      rw [Nat.add_mul, Nat.one_mul] at u2
      have u7 : (s + 1) * 2 ^ (g + 2) ≤ 2 ^ (h + 1) * 2 ^ (g + 2) := Nat.mul_le_mul_right _ hs1
      have u8 : (2 : Nat) ^ (h + 1) * 8 ≤ 2 ^ (g + 2) := by
        rw [show (8 : Nat) = 2 ^ 3 from rfl, ← Nat.pow_add]
        exact Nat.pow_le_pow_right (by omega) (by omega)
      have u9 := Nat.mul_le_mul_right (2 ^ (g + 2)) u8
      have u10 : 2 ^ (h + 1) * 8 * 2 ^ (g + 2) = 8 * (2 ^ (h + 1) * 2 ^ (g + 2)) := by ac_rfl
      rw [u10] at u9
      have u11 : 4 ≤ (s + 1) * 2 ^ (g + 2) := by
        rw [e4, ← Nat.mul_assoc]
        exact Nat.le_trans (by omega) (Nat.le_mul_of_pos_right _ hp)
      obtain ⟨y, hy⟩ := Nat.exists_eq_add_of_le' u11
      rw [hy] at u1 u7 k
      have u12 : y * y ≤ w * w := Nat.mul_le_mul (by omega) (by omega)
      have u13 : (y + 4) * (y + 4) = y * y + 8 * y + 16 := by
        simp only [Nat.mul_add, Nat.add_mul]
        omega
      omega
  have m1 : s * 2 ^ g ≤ K := by
    refine Nat.le_trans ?_ k1
    rw [Nat.le_div_iff_mul_le (by omega)]
    rw [e4] at l1
    have : s * (4 * 2 ^ g) = s * 2 ^ g * 4 := by ac_rfl
    omega
  have m2 : K < (s + 1) * 2 ^ g := by
    rw [e4] at l2
    have : (s + 1) * (4 * 2 ^ g) = (s + 1) * 2 ^ g * 4 := by ac_rfl
    omega
  exact Nat.div_eq_of_lt_le m1 m2
theorem whole_part {K T h s : Nat} (h1 : 4503599627370496 ≤ K) (h2 : K ≤ 9007199254740992) (hT : T = h + 1022) (hh : h ≤ 25) (hs : K / 2 ^ (52 - h) = s) :
    (Ieee.double.read (T * 4503599627370496 + K)).toInt .zero = some (s : Int) := by
  obtain ⟨K', T', e, e1, e2, e3, e4, e5⟩ := read_word h1 h2 (by omega : T ≤ 1900)
  rw [e]
  unfold Datum.toInt Datum.integral
  simp only
  rw [show (((T' : Int) - 1074).toNat) = 0 by omega, show (-((T' : Int) - 1074)).toNat = 1074 - T' by omega, Nat.shiftLeft_zero]
  have hl : K'.log2 = 52 := by
    have a := (Nat.le_log2 (n := K') (k := 52) (by omega)).2 (by simpa using e2)
    have b := (Nat.log2_lt (n := K') (k := 53) (by omega)).2 (by simpa using e3)
    omega
  unfold Toward.cut
  simp only [hl, Nat.one_shiftLeft, Bool.toNat_false, Nat.add_zero]
  rw [Nat.min_eq_left (by omega)]
  have hq : K' / 2 ^ (1074 - T') = s := by
    rw [← hs]
    rcases Nat.lt_or_ge T T' with k | k
    · have eT : T' = T + 1 := by omega
      rw [eT, Nat.pow_succ] at e1
      have e6 : K' * 2 = K := by
        refine Nat.eq_of_mul_eq_mul_right (Nat.pow_pos (n := T) (by omega : 0 < 2)) ?_
        rw [← e1]
        ac_rfl
      rw [show 52 - h = (1074 - T') + 1 by omega, Nat.pow_succ, Nat.mul_comm (2 ^ (1074 - T')) 2, ← Nat.div_div_eq_div_mul, ← e6, Nat.mul_div_cancel _ (by omega)]
    · have eT : T' = T := by omega
      rw [eT] at e1
      have e6 : K' = K := Nat.eq_of_mul_eq_mul_right (Nat.pow_pos (n := T) (by omega : 0 < 2)) e1
      rw [e6, show 52 - h = 1074 - T' by omega]
  rw [hq]
  simp [signed]
theorem f64_root {a s : Nat} (hs : IsRt s a) (ha : a < 4503599627370496) :
    ∃ F B, FloatKind.f64.nearest (a : Int) = F ∧ Ieee.double.sqrt F = some B ∧ (Ieee.double.read B).toInt .zero = some (s : Int) := by
  rcases Nat.eq_zero_or_pos a with h0 | h0
  · subst h0
    have : s = 0 := hs.uniq ⟨by omega, by omega⟩
    subst this
    exact ⟨0, 0, by decide +kernel, by decide +kernel, by decide +kernel⟩
  obtain ⟨m, e1, e2, m1, m2, hL⟩ := f64_whole h0 ha
  suffices H : ∃ B, Ieee.double.sqrt ((a.log2 + 1022) * 4503599627370496 + m) = some B ∧ (Ieee.double.read B).toInt .zero = some (s : Int) by
    obtain ⟨B, hB⟩ := H
    exact ⟨_, B, e1, hB⟩
  unfold Format.sqrt
  rw [read_lt m1 m2 (by omega)]
  have hl : m.log2 = 52 := by
    have a := (Nat.le_log2 (n := m) (k := 52) (by omega)).2 (by simpa using m1)
    have b := (Nat.log2_lt (n := m) (k := 53) (by omega)).2 (by simpa using m2)
    omega
  obtain ⟨h, r, hr, hk⟩ : ∃ h r : Nat, r ≤ 1 ∧ a.log2 = 2 * h + r := ⟨a.log2 / 2, a.log2 % 2, by omega, by omega⟩
  have hlog := hk
  unfold Datum.root
  simp only [show Ieee.double.fractionBits = 52 from rfl]
  rw [if_neg (by omega), if_neg (by simp), hl]
  have f1 : (((a.log2 + 1022 : Nat) : Int) - 1074 - ((2 * (52 + 2) - 52 : Nat) : Int)) % 2 = (r : Int) := by omega
  rw [f1, Int.toNat_natCast]
  have f2 : m <<< (2 * (52 + 2) - 52 + r) = a * 2 ^ (2 * (54 - h)) := by
    rw [Nat.shiftLeft_eq, e2, Nat.mul_assoc, ← Nat.pow_add, show 52 - a.log2 + (2 * (52 + 2) - 52 + r) = 2 * (54 - h) by omega]
  rw [f2]
  have f3 : (((a.log2 + 1022 : Nat) : Int) - 1074 - ((2 * (52 + 2) - 52 + r : Nat) : Int)) / 2 - 1 = (h : Int) - 55 := by omega
  rw [f3]
  have hw := rootFrom_root (a * 2 ^ (2 * (54 - h)))
  generalize Datum.rootFrom (a * 2 ^ (2 * (54 - h))) ((a * 2 ^ (2 * (54 - h))).log2 / 2 + 1) 0 = w at hw
  refine ⟨_, rfl, ?_⟩
  have hst : ∃ st, (w * w != a * 2 ^ (2 * (54 - h))).toNat = st ∧ st ≤ 1 := ⟨_, rfl, by cases (w * w != a * 2 ^ (2 * (54 - h))) <;> decide⟩
  obtain ⟨st, est, hst⟩ := hst
  rw [est]
  -- the root has 55 digits
  have w1 : 18014398509481984 ≤ w := by
    refine hw.le ?_
    have : 2 ^ (2 * h) ≤ a := Nat.le_trans (Nat.pow_le_pow_right (by omega) (by omega)) (Nat.log2_self_le (n := a) (by omega))
    have := Nat.mul_le_mul_right (2 ^ (2 * (54 - h))) this
    rw [← Nat.pow_add, show 2 * h + 2 * (54 - h) = 108 by omega] at this
    exact Nat.le_trans (by decide) this
  have hA : a < 2 ^ (2 * h + 2) := Nat.lt_of_lt_of_le (Nat.lt_log2_self (n := a)) (Nat.pow_le_pow_right (by omega) (by omega))
  have w2 : w < 36028797018963968 := by
    refine hw.lt ?_
    have := Nat.mul_lt_mul_of_pos_right hA (Nat.pow_pos (n := 2 * (54 - h)) (by omega : 0 < 2))
    rw [← Nat.pow_add, show 2 * h + 2 + 2 * (54 - h) = 110 by omega] at this
    exact Nat.lt_of_lt_of_le this (by decide)
  show (Ieee.double.read (Ieee.double.nearest false (2 * w + st) ((h : Int) - 55))).toInt .zero = _
  unfold Format.nearest
  rw [if_neg (by omega)]
  simp only [d_bin, d_inf, d_low, show Ieee.double.fractionBits = 52 from rfl]
  have hl2 : (2 * w + st).log2 = 55 := by
    have a := (Nat.le_log2 (n := 2 * w + st) (k := 55) (by omega)).2 (by simpa using (by omega : 36028797018963968 ≤ 2 * w + st))
    have b := (Nat.log2_lt (n := 2 * w + st) (k := 56) (by omega)).2 (by simpa using (by omega : 2 * w + st < 72057594037927936))
    omega
  rw [hl2, show max ((h : Int) - 55 + ((55 : Nat) : Int) - ((52 : Nat) : Int)) (-1074) = (h : Int) - 52 by omega,
    show ((h : Int) - 55 - ((h : Int) - 52)).toNat = 0 by omega, show ((h : Int) - 52 - ((h : Int) - 55)).toNat = 3 by omega,
    show ((h : Int) - 52 - -1074).toNat = h + 1022 by omega, Nat.shiftLeft_zero]
  have hc : ∃ K, Toward.even.cut false (2 * w + st) 3 = K ∧ w / 4 ≤ K ∧ K ≤ w / 4 + 1 := by
    refine ⟨_, rfl, ?_⟩
    unfold Toward.cut
    simp only [hl2]
    rw [show (1 <<< min 3 (55 + 2)) = 8 from rfl]
    have : (2 * w + st) / 8 = w / 4 := by omega
    rw [this]
    have hb : ∀ b : Bool, b.toNat ≤ 1 := by decide
    refine ⟨by omega, ?_⟩
    exact Nat.add_le_add_left (hb _) _
  obtain ⟨K, eK, c1, c2⟩ := hc
  rw [eK]
  have hK := root_cut hs hw (by omega) hA c1 c2
  unfold Format.word
  rw [if_neg (by simp), Nat.min_eq_left (by omega)]
  exact whole_part (by omega) (by omega) rfl (by omega) hK
end Go.Proofs.YtccldiokpgjocaaGreatDoor
set_option linter.unusedSimpArgs false
set_option linter.unusedVariables false
namespace Go.Proofs.YtccldiokpgjocaaGreatDoor
open Go.RowKit
set_option maxRecDepth 100000
theorem msqrt_run {F B : Nat} (h : Ieee.double.sqrt F = some B) (W : World) : (callFunc 175 #[.float .f64 F]).run Tryz.prog W = .ok (.value (.float .f64 B)) W := by
  have h' : FloatKind.f64.format.sqrt F = some B := h
  rw [run_callFunc_extern (f := 175) (fn := Tryz.f175) (e := Extern.MathSqrt.sqrt) (by kernel_rfl) (by kernel_rfl) (by kernel_rfl) (by kernel_rfl) (by kernel_rfl)]
  have e : Extern.MathSqrt.sqrt #[.float .f64 F] = pure (.float .f64 B) := by
    show (match FloatKind.f64.format.sqrt F with
      | some r => (pure (.float .f64 r) : Sem Value)
      | none => do pure (.float .f64 (← choose (.nanBits .f64 F F)))) = _
    rw [h']
  rw [e]
  rfl
theorem mathSqrt_any {F B : Nat} (h : Ieee.double.sqrt F = some B) (w : World) : Calls Tryz.prog 165 #[.float .f64 F] w fun e w' => e = .returned (.float .f64 B) ∧ w = w' := by
  have k := fun W => msqrt_run h W
  clear h
  go_enter Tryz.func165, Tryz.ntmps165
  go_wp2
  go_ret
  exact ⟨rfl, rfl⟩
theorem f2u_run {A : Nat} {n : Int} (h : (Ieee.double.read A).toInt .zero = some n) (h2 : 0 ≤ n ∧ n ≤ 18446744073709551615) (W : World) : (convert 44 77 (.float .f64 A)).run Tryz.prog W = .ok (.int .u64 n) W := by
  have h' : (FloatKind.f64.decode A).toInt .zero = some n := h
  have e1 : IntKind.u64.min = 0 := by decide
  have e2 : IntKind.u64.max = 18446744073709551615 := by decide
  simp [convert, go_sem, Conv.floatToInt, h', e1, e2, h2]
theorem u2f_run {R : Nat} {n : Int} (h : FloatKind.f64.nearest n = R) (W : World) : (convert 77 44 (.int .u64 n)).run Tryz.prog W = .ok (.float .f64 R) W := by
  simp [convert, go_sem, Conv.intToFloat, h]
theorem root_small (v : Value) (x s : Nat) (w : World) (h : IsNat w v x) (hs : IsRt s x) (hx : x < 4503599627370496) :
    Calls Tryz.prog 141 #[v] w (RetNat w s) := by
  obtain ⟨F, B, e1, e2, e3⟩ := f64_root hs hx
  have hsx : s ≤ x := by
    rcases Nat.eq_zero_or_pos s with k | k
    · omega
    · exact Nat.le_trans (Nat.le_mul_of_pos_left s k) hs.1
  have hw2 := wl_le_two (x := x) (by omega)
  have hb : (decide (((bl x : Nat) : Int) ≤ 52)) = true := decide_eq_true (by have := bl_le (x := x) (n := 52) (by simpa using hx); omega)
  have HL := hid (length_any v x w h (by omega))
  have hS : ∀ q, Calls Tryz.prog 147 #[v] (w.drewN q) fun e w' => e = .returned (.tuple #[.int .u64 (x : Int), .bool true]) ∧ ∃ q', w' = (w.drewN q).drewN q' := by
    intro q
    have := small_any v x (w.drewN q) (h.drewN q)
    rw [if_pos (by omega), decide_eq_true (by omega)] at this
    exact this
  have HS := hid hS
  have k1 := fun W => u2f_run e1 W
  have HQ := hid (fun W => mathSqrt_any e2 W)
  have k3 := fun W => f2u_run e3 (by omega) W
  have HF := hid (fun W => fromUint_any s W (by omega))
  clear hS e1 e2 e3 hsx hw2 h hs hx
  generalize bl x = bx at *
  go_enter Tryz.func141, Tryz.ntmps141
  go_wp2_with fail
  refine HL.out.mono ?_
  rintro e w1 ⟨rfl, q, rfl⟩
  go_wp2_with fail
  refine (HS.out q).mono ?_
  rintro e w1 ⟨rfl, q', rfl⟩
  go_wp2_with fail
  refine (HQ.out _).mono ?_
  rintro e w1 ⟨rfl, rfl⟩
  go_wp2_with fail
  refine (HF.out _).mono ?_
  rintro e w2 ⟨u, rfl, hu, hb2⟩
  have HU := hid hu
  have HB := hid hb2
  clear hu hb2
  go_wp2
  go_ret
  exact ⟨_, rfl, HU.out, below_trans (below_drewN _ _) HB.out⟩
theorem wl_1 : wl 1 ≤ 1 := wl_le_of (by decide)
theorem wl_pow2 (k : Nat) : wl (2 ^ k) ≤ k / 32 + 1 := by
  refine wl_le_of ?_
  rw [show (4294967296 : Nat) = 2 ^ 32 from by decide, ← Nat.pow_mul]
  exact Nat.pow_lt_pow_right (by omega) (by omega)
theorem IsRt.le_self {s x : Nat} (h : IsRt s x) : s ≤ x := by
  rcases Nat.eq_zero_or_pos s with k | k
  · omega
  · exact Nat.le_trans (Nat.le_mul_of_pos_left s k) h.1
theorem root_any : ∀ (n x s : Nat) (v : Value) (w : World), x ≤ n → IsNat w v x → IsRt s x → wl x < 8589934592 →
    Calls Tryz.prog 141 #[v] w (RetNat w s) := by
  intro n
  induction n with
  | zero =>
    intro x s v w hx h hs hn
    exact root_small v x s w h hs (by omega)
  | succ n ih =>
    intro x s v w hx h hs hn
    rcases Nat.lt_or_ge x 4503599627370496 with k | k
    · exact root_small v x s w h hs k
    have hbl := (bl_pow (x := x) (by omega)).2.2
    have hb53 : 53 ≤ bl x := by
      rcases Nat.lt_or_ge (bl x) 53 with c | c
      · have : 2 ^ bl x ≤ 2 ^ 52 := Nat.pow_le_pow_right (by omega) (by omega)
        have : (2 : Nat) ^ 52 = 4503599627370496 := by decide
        omega
      · exact c
    have hb2 : decide (((bl x : Nat) : Int) ≤ 52) = false := decide_eq_false (by omega)
    have hbw := bl_wl x
    have hq : ((bl x : Nat) : Int).tdiv 4 = ((bl x / 4 : Nat) : Int) := by
      rw [show (4 : Int) = ((4 : Nat) : Int) from rfl, Int.ofNat_tdiv]
    obtain ⟨hf, ehf⟩ : ∃ hf, bl x / 4 = hf := ⟨_, rfl⟩
    obtain ⟨hm, ehm⟩ : ∃ hm, 2 * hf = hm := ⟨_, rfl⟩
    obtain ⟨t, ht⟩ := IsRt.ex (x / 2 ^ (2 * hf))
    have hdn : x / 2 ^ (2 * hf) ≤ n := by
      have h2 : 2 ≤ 2 ^ (2 * hf) := by
        have : 2 ^ 1 ≤ 2 ^ (2 * hf) := Nat.pow_le_pow_right (by omega) (by omega)
        omega
      have := Nat.div_le_div_left h2 (by omega) (a := x)
      omega
    have hwd : wl (x / 2 ^ (2 * hf)) ≤ wl x := wl_mono (Nat.div_le_self _ _)
    have hwt : wl t ≤ wl x := Nat.le_trans (wl_mono ht.le_self) hwd
    have hwt1 : wl (t + 1) ≤ wl x + 2 := by
      have := wl_add t 1
      have := wl_1
      omega
    have hr0 : s ≤ (t + 1) * 2 ^ hf := newton_from hs ht
    have hwr : wl ((t + 1) * 2 ^ hf) < 137438953472 := by
      have := wl_mul (t + 1) (2 ^ hf)
      have := wl_pow2 hf
      omega
    have hs0 : 0 < s := by
      rcases Nat.eq_zero_or_pos s with c | c
      · subst c
        have := hs.2
        omega
      · exact c
    have HL := hid (length_any v x w h (by omega))
    have HD := hid (fun W (hb : Below w.heap.size w W) => down_any v x (2 * hf) W (h.below hb) (by omega) (by omega))
    have HR := hid (fun u W (hu : IsNat W u (x / 2 ^ (2 * hf))) => ih (x / 2 ^ (2 * hf)) t u W hdn hu ht (by omega))
    have HA := hid (fun u u1 W (hu : IsNat W u t) (h1 : IsNat W u1 1) => add_any u u1 t 1 W hu h1 (by omega) (by have := wl_1; omega))
    have HU := hid (fun u W (hu : IsNat W u (t + 1)) => up_any u (t + 1) hf W hu (by omega) (by omega))
    have HV := hid (fun k u W (hb : Below w.heap.size w W) (hu : IsNat W u k) (h0 : 0 < k) (hk : wl k < 137438953472) => div_any v u x k W (h.below hb) hu h0 (by omega) (by omega))
    have HX := hid h
    have HS := hid hs
    have HR0 := hid hr0
    have HWR := hid hwr
    have HWX := hid hn
    have hi : wrap64 (2 * (hf : Int)) = (hm : Int) := by unfold wrap64; omega
    have hi0 : wrap64 (hf : Int) = (hf : Int) := IntWalk.wrap64_in _ (by omega)
    rw [ehm] at HD HR
    rw [ehf] at hq
    clear h hs hn k hbl hbw hb53 ht hdn hwd hwt hwt1 hr0 hwr ih hx
    generalize bl x = bx at *
    clear ehf ehm
    go_enter Tryz.func141, Tryz.ntmps141
    go_wp2_with fail
    refine HL.out.mono ?_
    rintro e w1 ⟨rfl, q, rfl⟩
    have B1 := hid (below_drewN w q)
    go_wp2_with fail
    refine (HD.out _ B1.out).mono ?_
    rintro e w2 ⟨u1, rfl, hu1, hb1⟩
    have HU1 := hid hu1
    have B2 := hid (below_trans B1.out hb1)
    clear hu1 hb1
    go_wp2_with fail
    refine (HR.out _ _ HU1.out).mono ?_
    rintro e w3 ⟨u2, rfl, hu2, hb2⟩
    have HU2 := hid hu2
    have B3 := hid (below_trans B2.out hb2)
    clear hu2 hb2
    go_wp2_with fail
    refine (HA.out _ _ _ (HU2.out.below (below_alloc _ _)) (IsNat.one _ _ (by simp) (by simp [go_sem]) 1 (Nat.le_refl _))).mono ?_
    rintro e w4 ⟨u3, rfl, hu3, hb3⟩
    have HU3 := hid hu3
    have B4 := hid (below_trans (below_trans B3.out (below_alloc _ _)) hb3)
    clear hu3 hb3
    go_wp2_with fail
    refine (HU.out _ _ HU3.out).mono ?_
    rintro e w5 ⟨u4, rfl, hu4, hb4⟩
    have HU4 := hid hu4
    have B5 := hid (below_trans B4.out hb4)
    clear hu4 hb4 hi hi0 hq hb2
    go_wp2
    go_loopg [7] ((t + 1) * 2 ^ hf) (fun k vr wr => IsNat wr vr k ∧ s ≤ k ∧ wl k < 137438953472 ∧ Below w.heap.size w wr)
    case atStart => exact ⟨HU4.out, HR0.out, HWR.out, B5.out⟩
    case round =>
      obtain ⟨hk, hsk, hlk, hb⟩ := hrel
      have HK := hid hk
      have HSK := hid hsk
      have HLK := hid hlk
      have HB := hid hb
      have HDV := hid (HV.out gk _ _ hb hk (by omega) hlk)
      have hwq : wl (x / gk) < 8589934592 := Nat.lt_of_le_of_lt (wl_mono (Nat.div_le_self _ _)) HWX.out
      have hwn : wl (gk + x / gk) < 1099511627776 := by
        have := wl_add gk (x / gk)
        omega
      have HA2 := hid (fun u u1 W (hu : IsNat W u gk) (h1 : IsNat W u1 (x / gk)) => add_any u u1 gk (x / gk) W hu h1 (by omega) (by omega))
      have HD2 := hid (fun u W (hu : IsNat W u (gk + x / gk)) => (show Calls Tryz.prog 163 #[u, .int .i64 1] W (RetNat W ((gk + x / gk) / 2)) from down_any u (gk + x / gk) 1 W hu hwn (by omega)))
      have hln : wl ((gk + x / gk) / 2) < 1099511627776 := Nat.lt_of_le_of_lt (wl_mono (Nat.div_le_self _ _)) hwn
      have HC := hid (fun u u1 W (hu : IsNat W u ((gk + x / gk) / 2)) (h1 : IsNat W u1 gk) => compare_any u u1 ((gk + x / gk) / 2) gk W hu h1 (by omega) (by omega))
      have HGE := hid (newton_ge (x := x) (r := gk) HS.out (by omega))
      have HST := hid (fun h => newton_stop (x := x) (r := gk) HS.out hsk h)
      clear hk hsk hlk hb hwq hwn hln
      go_wp2_with fail
      refine HDV.out.mono ?_
      rintro e w1 ⟨vq, vr, rfl, hq1, hr1, hb1⟩
      have HQ := hid hq1
      have HB1 := hid hb1
      clear hq1 hr1 hb1
      go_wp2_with fail
      refine (HA2.out _ _ _ (HK.out.below HB1.out) HQ.out).mono ?_
      rintro e w2 ⟨va, rfl, ha, hb2⟩
      have HA3 := hid ha
      have HB2 := hid (below_trans HB1.out hb2)
      clear ha hb2
      go_wp2_with fail
      refine (HD2.out _ _ HA3.out).mono ?_
      rintro e w3 ⟨vn, rfl, hn, hb3⟩
      have HN := hid hn
      have HB3 := hid (below_trans HB2.out hb3)
      clear hn hb3
      by_cases c : (gk + x / gk) / 2 < gk
      · have hcm : cmpN ((gk + x / gk) / 2) gk = -1 := by simp [cmpN, c]
        have HCC := hid (HC.out _ _ _ HN.out (HK.out.below HB3.out))
        rw [hcm] at HCC
        have C := hid c
        clear c hcm
        go_wp2_with fail
        refine HCC.out.mono ?_
        rintro e w4 ⟨rfl, q4, rfl⟩
        go_wp2
        go_roundg ((gk + x / gk) / 2)
        case measure => exact C.out
        case rel => exact ⟨HN.out.drewN q4, HGE.out, Nat.lt_of_le_of_lt (wl_mono (Nat.le_of_lt C.out)) HLK.out, below_trans (below_trans HB.out HB3.out) (below_drewN _ _)⟩
      · have hcm : 0 ≤ cmpN ((gk + x / gk) / 2) gk := by
          unfold cmpN
          rw [if_neg c]
          split <;> omega
        have HCC := hid (HC.out _ _ _ HN.out (HK.out.below HB3.out))
        have HE := hid (HST.out (by omega))
        clear c
        generalize cmpN ((gk + x / gk) / 2) gk = cm at *
        go_wp2_with fail
        refine HCC.out.mono ?_
        rintro e w4 ⟨rfl, q4, rfl⟩
        go_wp2
        go_ret
        exact ⟨_, rfl, by have := HK.out; rw [HE.out] at this; exact (this.below HB3.out).drewN q4, below_trans (below_trans HB.out HB3.out) (below_drewN _ _)⟩
def RetRoot (w : World) (s : Nat) (ok : Bool) (e : Ending) (w' : World) : Prop := ∃ v, e = .returned (.tuple #[v, .bool ok]) ∧ IsNat w' v s ∧ Below w.heap.size w w'
theorem squareRoot_any (v : Value) (x s : Nat) (w : World) (h : IsNat w v x) (hs : IsRt s x) (hn : wl x < 8589934592) :
    Calls Tryz.prog 89 #[v] w (RetRoot w s (decide (s * s = x))) := by
  have hws : wl s ≤ wl x := wl_mono hs.le_self
  have hwm : wl (s * s) ≤ wl s + wl s := wl_mul s s
  have HR := hid (root_any x x s v w (Nat.le_refl _) h hs hn)
  have HM := hid (fun u W (hu : IsNat W u s) => mul_any u u s s W hu hu (by omega))
  have HC := hid (fun u W (hb : Below w.heap.size w W) (hu : IsNat W u (s * s)) => compare_any u v (s * s) x W hu (h.below hb) (by omega) (by omega))
  have hcm : (cmpN (s * s) x == 0) = decide (s * s = x) := by
    have h1 := hs.1
    unfold cmpN
    by_cases c : s * s = x
    · rw [if_neg (by omega), if_pos c, decide_eq_true c]
      rfl
    · rw [if_pos (by omega), decide_eq_false c]
      rfl
  clear h hs hn hws hwm
  unfold RetRoot
  generalize decide (s * s = x) = ok at *
  generalize cmpN (s * s) x = cm at *
  go_enter Tryz.func89, Tryz.ntmps89
  go_wp2_with fail
  refine HR.out.mono ?_
  rintro e w1 ⟨r, rfl, hr, hb1⟩
  have HX := hid hr
  have HB1 := hid hb1
  clear hr hb1
  go_wp2_with fail
  refine (HM.out _ _ HX.out).mono ?_
  rintro e w2 ⟨m, rfl, hm, hb2⟩
  have HMM := hid hm
  have HB2 := hid hb2
  clear hm hb2
  go_wp2_with fail
  refine (HC.out _ _ (below_trans HB1.out HB2.out) HMM.out).mono ?_
  rintro e w3 ⟨rfl, q, rfl⟩
  go_wp2
  go_ret2
  exact ⟨_, rfl, (HX.out.below HB2.out).drewN q, below_trans (below_trans HB1.out HB2.out) (below_drewN _ _)⟩
theorem rNatRoot_any (v : Value) (x s : Nat) (w : World) (h : IsNat w v x) (hs : IsRt s x) (hn : wl x < 8589934592) :
    Calls Tryz.prog 142 #[v] w (RetNat w s) := by
  by_cases h0 : x = 0
  · subst h0
    obtain rfl : s = 0 := hs.uniq ⟨by omega, by omega⟩
    obtain ⟨A, c, rfl, -⟩ := h
    rw [wl_zero]
    clear hn hs
    go_enter Tryz.func142, Tryz.ntmps142
    go_wp2
    go_ret
    exact ⟨_, rfl, IsNat.zero _ _ _, Below.refl _ _⟩
  have hl0 : (((wl x : Nat) : Int) == 0) = false := by
    have := wl_eq_zero (x := x)
    rw [beq_eq_false_iff_ne]
    omega
  have hbl := (bl_pow (x := x) (by omega)).2.2
  have hbw := bl_wl x
  have hq : ((bl x : Nat) + 1 : Int).tdiv 2 = (((bl x + 1) / 2 : Nat) : Int) := by
    rw [Int.tdiv_eq_ediv_of_nonneg (by omega)]
    omega
  obtain ⟨hf, ehf⟩ : ∃ hf, (bl x + 1) / 2 = hf := ⟨_, rfl⟩
  have hi0 : wrap64 (hf : Int) = (hf : Int) := IntWalk.wrap64_in _ (by omega)
  have hi : wrap64 ((bl x : Nat) + 1 : Int) = ((bl x : Nat) + 1 : Int) := IntWalk.wrap64_in _ (by omega)
  have hr0 : s ≤ 1 * 2 ^ hf := by
    rw [Nat.one_mul]
    refine Nat.le_of_lt (hs.lt ?_)
    rw [← Nat.pow_add]
    exact Nat.lt_of_lt_of_le hbl (Nat.pow_le_pow_right (by omega) (by omega))
  have hwr : wl (1 * 2 ^ hf) < 137438953472 := by
    have := wl_pow2 hf
    rw [Nat.one_mul]
    omega
  have hs0 : 0 < s := by
    rcases Nat.eq_zero_or_pos s with c | c
    · subst c
      have := hs.2
      omega
    · exact c
  have HL := hid (fun W (hb : Below w.heap.size w W) => rBits_any v x W (h.below hb) (by omega))
  have HU := hid (fun u W (hu : IsNat W u 1) => rNatShl_any u 1 hf W hu (by have := wl_1; omega) (by omega))
  have HV := hid (fun k u W (hb : Below w.heap.size w W) (hu : IsNat W u k) (h0 : 0 < k) (hk : wl k < 137438953472) => rNatDiv_any v u x k W (h.below hb) hu h0 (by omega) (by omega))
  have HS := hid hs
  have HR0 := hid hr0
  have HWR := hid hwr
  have HWQ := hid (fun k => (show wl (x / k) < 8589934592 from Nat.lt_of_le_of_lt (wl_mono (Nat.div_le_self _ _)) hn))
  rw [ehf] at hq
  obtain ⟨A, c, rfl, -⟩ := h
  clear hs hn hbl hbw hr0 hwr ehf h0
  generalize bl x = bx at *
  generalize wl x = lx at *
  go_enter Tryz.func142, Tryz.ntmps142
  go_wp2_with fail
  refine (HL.out _ (below_alloc _ _)).mono ?_
  rintro e w1 ⟨rfl, rfl⟩
  go_wp2_with fail
  refine (HU.out _ _ (IsNat.one _ _ (by simp) (by simp [go_sem]) 1 (Nat.le_refl _))).mono ?_
  rintro e w5 ⟨u4, rfl, hu4, hb4⟩
  have HU4 := hid hu4
  have B5 := hid (below_trans (below_alloc _ _) hb4)
  clear hu4 hb4 hi hi0 hq hl0
  go_wp2
  go_loopg [3] (1 * 2 ^ hf) (fun k vr wr => IsNat wr vr k ∧ s ≤ k ∧ wl k < 137438953472 ∧ Below w.heap.size w wr)
  case atStart => exact ⟨HU4.out, HR0.out, HWR.out, B5.out⟩
  case round =>
    obtain ⟨hk, hsk, hlk, hb⟩ := hrel
    have HK := hid hk
    have HSK := hid hsk
    have HLK := hid hlk
    have HB := hid hb
    have HDV := hid (HV.out gk _ _ hb hk (by omega) hlk)
    have hwq := HWQ.out gk
    have hwn : wl (gk + x / gk) < 1099511627776 := by
      have := wl_add gk (x / gk)
      omega
    have HA2 := hid (fun u u1 W (hu : IsNat W u gk) (h1 : IsNat W u1 (x / gk)) => rNatAdd_any u u1 gk (x / gk) W hu h1 (by omega) (by omega))
    have HD2 := hid (fun u W (hu : IsNat W u (gk + x / gk)) => (show Calls Tryz.prog 109 #[u, .int .i64 1] W (RetNat W ((gk + x / gk) / 2)) from rNatShr_any u (gk + x / gk) 1 W hu hwn (by omega)))
    have hln : wl ((gk + x / gk) / 2) < 1099511627776 := Nat.lt_of_le_of_lt (wl_mono (Nat.div_le_self _ _)) hwn
    have HC := hid (fun u u1 W (hu : IsNat W u ((gk + x / gk) / 2)) (h1 : IsNat W u1 gk) => rNatCmp_any u u1 ((gk + x / gk) / 2) gk W hu h1 (by omega) (by omega))
    have HGE := hid (newton_ge (x := x) (r := gk) HS.out (by omega))
    have HST := hid (fun h => newton_stop (x := x) (r := gk) HS.out hsk h)
    clear hk hsk hlk hb hwq hwn hln
    go_wp2_with fail
    refine HDV.out.mono ?_
    rintro e w1 ⟨vq, vr, rfl, hq1, hr1, hb1⟩
    have HQ := hid hq1
    have HB1 := hid hb1
    clear hq1 hr1 hb1
    go_wp2_with fail
    refine (HA2.out _ _ _ (HK.out.below HB1.out) HQ.out).mono ?_
    rintro e w2 ⟨va, rfl, ha, hb2⟩
    have HA3 := hid ha
    have HB2 := hid (below_trans HB1.out hb2)
    clear ha hb2
    go_wp2_with fail
    refine (HD2.out _ _ HA3.out).mono ?_
    rintro e w3 ⟨vn, rfl, hn, hb3⟩
    have HN := hid hn
    have HB3 := hid (below_trans HB2.out hb3)
    clear hn hb3
    by_cases c : (gk + x / gk) / 2 < gk
    · have hcm : cmpN ((gk + x / gk) / 2) gk = -1 := by simp [cmpN, c]
      have HCC := hid (HC.out _ _ _ HN.out (HK.out.below HB3.out))
      rw [hcm] at HCC
      have C := hid c
      clear c hcm
      go_wp2_with fail
      refine HCC.out.mono ?_
      rintro e w4 ⟨rfl, q4, rfl⟩
      go_wp2
      go_roundg ((gk + x / gk) / 2)
      case measure => exact C.out
      case rel => exact ⟨HN.out.drewN q4, HGE.out, Nat.lt_of_le_of_lt (wl_mono (Nat.le_of_lt C.out)) HLK.out, below_trans (below_trans HB.out HB3.out) (below_drewN _ _)⟩
    · have hcm : 0 ≤ cmpN ((gk + x / gk) / 2) gk := by
        unfold cmpN
        rw [if_neg c]
        split <;> omega
      have HCC := hid (HC.out _ _ _ HN.out (HK.out.below HB3.out))
      have HE := hid (HST.out (by omega))
      clear c
      generalize cmpN ((gk + x / gk) / 2) gk = cm at *
      go_wp2_with fail
      refine HCC.out.mono ?_
      rintro e w4 ⟨rfl, q4, rfl⟩
      go_wp2
      go_ret
      exact ⟨_, rfl, by have := HK.out; rw [HE.out] at this; exact (this.below HB3.out).drewN q4, below_trans (below_trans HB.out HB3.out) (below_drewN _ _)⟩
end Go.Proofs.YtccldiokpgjocaaGreatDoor
set_option linter.unusedSimpArgs false
set_option linter.unusedVariables false
namespace Go.Proofs.YtccldiokpgjocaaGreatDoor
def IsRoot (r q : Rat) : Prop := 0 ≤ r ∧ r * r = q
theorem IsRoot.uniq {r s q : Rat} (h : IsRoot r q) (k : IsRoot s q) : r = s := by
  obtain ⟨h1, h2⟩ := h
  obtain ⟨k1, k2⟩ := k
  have e : (r - s) * (r + s) = 0 := by grind
  rcases Rat.mul_eq_zero.1 e with e | e
  · grind
  · grind
theorem sq_zero {r : Rat} (h : r * r = 0) : r = 0 := by
  rcases Rat.mul_eq_zero.1 h with e | e <;> exact e
theorem sq_nonneg (r : Rat) : 0 ≤ r * r := by
  rcases Rat.le_total (a := 0) (b := r) with h | h
  · exact Rat.mul_nonneg h h
  · have : 0 ≤ (-r) * (-r) := Rat.mul_nonneg (by grind) (by grind)
    grind
def rabs (r : Rat) : Rat := if 0 ≤ r then r else -r
theorem rabs_root (r : Rat) : IsRoot (rabs r) (r * r) := by
  unfold rabs
  split
  · exact ⟨by assumption, rfl⟩
  · exact ⟨by grind, by grind⟩
def Pri (y x : Cx) : Prop := y.mul y = x ∧ (0 < y.re ∨ y.re = 0 ∧ 0 ≤ y.im)
theorem root_three {y x : Cx} (h : y.mul y = x) :
    IsRoot (y.re * y.re + y.im * y.im) (x.re * x.re + x.im * x.im) ∧ IsRoot (rabs y.re) ((y.re * y.re + y.im * y.im + x.re) / 2) ∧
      IsRoot (rabs y.im) ((y.re * y.re + y.im * y.im - x.re) / 2) := by
  subst h
  have h1 := sq_nonneg y.re
  have h2 := sq_nonneg y.im
  have a1 := rabs_root y.re
  have a2 := rabs_root y.im
  refine ⟨⟨by grind, ?_⟩, ⟨a1.1, ?_⟩, ⟨a2.1, ?_⟩⟩
  · simp only [Cx.mul]
    grind
  · rw [a1.2]
    simp only [Cx.mul]
    grind
  · rw [a2.2]
    simp only [Cx.mul]
    grind
theorem Pri.uniq {y z x : Cx} (h : Pri y x) (k : Pri z x) : y = z := by
  obtain ⟨a1, a2, a3⟩ := root_three h.1
  obtain ⟨b1, b2, b3⟩ := root_three k.1
  rw [← a1.uniq b1] at b2 b3
  have e2 := a2.uniq b2
  have e3 := a3.uniq b3
  have e4 : y.re * y.im = z.re * z.im := by
    have := congrArg Cx.im (h.1.trans k.1.symm)
    simp only [Cx.mul] at this
    grind
  have hy := h.2
  have hz := k.2
  have e5 : y.re = z.re := by
    unfold rabs at e2
    grind
  refine Cx.ext e5 ?_
  by_cases c : y.re = 0
  · unfold rabs at e3
    grind
  · rw [← e5] at e4
    have : y.re * (y.im - z.im) = 0 := by grind
    rcases Rat.mul_eq_zero.1 this with e | e
    · exact absurd e c
    · grind
theorem pri_three {x : Cx} {m u v : Rat} (hm : IsRoot m (x.re * x.re + x.im * x.im)) (hu : IsRoot u ((m + x.re) / 2)) (hv : IsRoot v ((m - x.re) / 2)) :
    Pri ⟨u, if x.im < 0 then -v else v⟩ x := by
  obtain ⟨m0, m1⟩ := hm
  obtain ⟨u0, u1⟩ := hu
  obtain ⟨v0, v1⟩ := hv
  have e : (2 * (u * v)) * (2 * (u * v)) = x.im * x.im := by
    have : (2 * (u * v)) * (2 * (u * v)) = 4 * (u * u) * (v * v) := by grind
    rw [this, u1, v1]
    grind
  have h0 : IsRoot (2 * (u * v)) (x.im * x.im) := ⟨by have := Rat.mul_nonneg u0 v0; grind, e⟩
  have h1 := h0.uniq (rabs_root x.im)
  unfold rabs at h1
  refine ⟨Cx.ext ?_ ?_, ?_⟩
  · simp only [Cx.mul]
    split <;> grind
  · simp only [Cx.mul]
    split <;> grind
  · by_cases c : u = 0
    · right
      refine ⟨c, ?_⟩
      simp only
      split
      · subst c
        grind
      · exact v0
    · left
      grind
theorem pri_pos {x : Cx} {m u : Rat} (hm : IsRoot m (x.re * x.re + x.im * x.im)) (hu : IsRoot u ((m + x.re) / 2)) (h : u ≠ 0) : Pri ⟨u, x.im / 2 / u⟩ x := by
  obtain ⟨m0, m1⟩ := hm
  obtain ⟨u0, u1⟩ := hu
  have e1 : x.im / 2 / u * u = x.im / 2 := Rat.div_mul_cancel h
  refine ⟨Cx.ext ?_ ?_, .inl (by grind)⟩
  · simp only [Cx.mul]
    have e2 : (u * u) * (x.im / 2 / u * (x.im / 2 / u)) = x.im * x.im / 4 := by grind
    have e3 : (u * u) * (u * u - x.im / 2 / u * (x.im / 2 / u) - x.re) = 0 := by
      have : (u * u) * (u * u - x.im / 2 / u * (x.im / 2 / u) - x.re) = (u * u) * (u * u) - (u * u) * (x.im / 2 / u * (x.im / 2 / u)) - (u * u) * x.re := by grind
      rw [this, e2, u1]
      grind
    rcases Rat.mul_eq_zero.1 e3 with e | e
    · exact absurd (sq_zero e) h
    · grind
  · simp only [Cx.mul]
    grind
theorem pri_zero {x : Cx} {m v : Rat} (hm : IsRoot m (x.re * x.re + x.im * x.im)) (hu : IsRoot 0 ((m + x.re) / 2)) (hv : IsRoot v (-x.re)) : Pri ⟨0, v⟩ x ∧ x.im = 0 := by
  obtain ⟨m0, m1⟩ := hm
  obtain ⟨v0, v1⟩ := hv
  have e := hu.2
  have e1 : m = -x.re := by grind
  have e2 : x.im * x.im = 0 := by rw [e1] at m1; grind
  have e3 := sq_zero e2
  refine ⟨⟨Cx.ext ?_ ?_, .inr ⟨rfl, v0⟩⟩, e3⟩
  · simp only [Cx.mul]
    grind
  · simp only [Cx.mul]
    grind
theorem sq_frac {n d p q : Nat} (hg : Nat.gcd n d = 1) (hpq : Nat.gcd p q = 1) (h : p * p * d = n * (q * q)) : p * p = n ∧ q * q = d := by
  have c1 : Nat.Coprime n d := hg
  have c2 : Nat.Coprime (p * p) (q * q) := by
    have a : Nat.Coprime p q := hpq
    exact (a.mul_left a).mul_right (a.mul_left a)
  refine ⟨Nat.dvd_antisymm ?_ ?_, Nat.dvd_antisymm ?_ ?_⟩
  · exact c2.dvd_of_dvd_mul_right (h ▸ Nat.dvd_mul_right _ _)
  · exact c1.dvd_of_dvd_mul_right (h ▸ Nat.dvd_mul_right _ _)
  · exact c2.symm.dvd_of_dvd_mul_left (h ▸ Nat.dvd_mul_left _ _)
  · exact c1.symm.dvd_of_dvd_mul_left (h ▸ Nat.dvd_mul_left _ _)
theorem nn_of_mul {x t s : Rat} (h : x * t = s) (hs : 0 ≤ s) (ht : 0 ≤ t) (h0 : t ≠ 0) : 0 ≤ x := by
  rcases Rat.le_total (a := 0) (b := x) with c | c
  · exact c
  · have h1 : 0 ≤ (-x) * t := Rat.mul_nonneg (by grind) ht
    have h2 : x * t = 0 := by grind
    rcases Rat.mul_eq_zero.1 h2 with e | e
    · grind
    · exact absurd e h0
theorem num_den (r : Rat) : r * (r.den : Rat) = (r.num : Rat) := by
  have hd := natCast_ne r.den_pos
  have e : (r.num : Rat) / (r.den : Rat) = r := by
    first
      | exact Rat.num_div_den r
      | (have := Rat.num_divInt_den r; rw [Rat.divInt_eq_div] at this; simpa using this)
      | (have := Rat.mkRat_self r; rw [Rat.mkRat_eq_div] at this; simpa using this)
  have e2 : (r.num : Rat) / (r.den : Rat) * (r.den : Rat) = (r.num : Rat) := Rat.div_mul_cancel hd
  rw [e] at e2
  exact e2
theorem sq_int (a : Int) : 0 ≤ a * a := by
  rw [← Int.natAbs_mul_self' a]
  exact Int.mul_nonneg (Int.natCast_nonneg _) (Int.natCast_nonneg _)
theorem root_parts {r q : Rat} {n d : Nat} (hg : Nat.gcd n d = 1) (hq : q * (d : Rat) = (n : Rat)) (h : r * r = q) :
    r.num.natAbs * r.num.natAbs = n ∧ r.den * r.den = d := by
  refine sq_frac hg r.reduced ?_
  have e : r * (r.den : Rat) = (r.num : Rat) := num_den r
  have e2 : ((r.num * r.num * (d : Int) : Int) : Rat) = (((n : Int) * ((r.den : Int) * (r.den : Int)) : Int) : Rat) := by
    simp only [Rat.intCast_mul, Rat.intCast_natCast]
    rw [← hq, ← h, ← e]
    grind
  have e3 := congrArg Int.natAbs (Rat.intCast_inj.1 e2)
  simpa [Int.natAbs_mul] using e3
theorem root_yes {q : Rat} {n d s t : Nat} (hd : 0 < d) (hq : q * (d : Rat) = (n : Rat)) (hs : s * s = n) (ht : t * t = d) : IsRoot ((s : Rat) / (t : Rat)) q ∧ 0 < t := by
  have h0 : 0 < t := by
    rcases Nat.eq_zero_or_pos t with c | c
    · subst c
      omega
    · exact c
  have ht0 := natCast_ne h0
  have hd0 := natCast_ne hd
  have e1 : (s : Rat) / (t : Rat) * (t : Rat) = (s : Rat) := Rat.div_mul_cancel ht0
  refine ⟨⟨nn_of_mul e1 Rat.natCast_nonneg Rat.natCast_nonneg ht0, ?_⟩, h0⟩
  have e2 : ((s * s : Nat) : Rat) = (n : Rat) := by rw [hs]
  have e3 : ((t * t : Nat) : Rat) = (d : Rat) := by rw [ht]
  rw [Rat.natCast_mul] at e2 e3
  have e4 : ((s : Rat) / (t : Rat) * ((s : Rat) / (t : Rat)) - q) * (d : Rat) = 0 := by
    rw [← e3] at hq ⊢
    grind
  rcases Rat.mul_eq_zero.1 e4 with e | e
  · grind
  · exact absurd e hd0
theorem root_no {q : Rat} {n d s t : Nat} (hg : Nat.gcd n d = 1) (hq : q * (d : Rat) = (n : Rat)) (hs : IsRt s n) (ht : IsRt t d) (h : ¬ (s * s = n ∧ t * t = d)) : ¬ ∃ r : Rat, r * r = q := by
  rintro ⟨r, hr⟩
  obtain ⟨h1, h2⟩ := root_parts hg hq hr
  refine h ⟨?_, ?_⟩
  · rw [hs.uniq (r := r.num.natAbs) ⟨by omega, by rw [← h1]; exact Nat.mul_lt_mul'' (by omega) (by omega)⟩]
    exact h1
  · rw [ht.uniq (r := r.den) ⟨by omega, by rw [← h2]; exact Nat.mul_lt_mul'' (by omega) (by omega)⟩]
    exact h2
theorem root_norm {a b : Int} {d m : Nat} {x : Cx} (hl : Low x a b d) (hm : IsRt m (a * a + b * b).natAbs) :
    (m * m = (a * a + b * b).natAbs → IsRoot ((m : Rat) / (d : Rat)) (x.re * x.re + x.im * x.im)) ∧
      (m * m ≠ (a * a + b * b).natAbs → ¬ ∃ r : Rat, r * r = x.re * x.re + x.im * x.im) := by
  obtain ⟨hd, hg, h1, h2⟩ := hl
  have hd0 := natCast_ne hd
  have hn : (((a * a + b * b).natAbs : Int)) = a * a + b * b := Int.natAbs_of_nonneg (by
    have := sq_int a
    have := sq_int b
    omega)
  have hN : (((a * a + b * b).natAbs : Nat) : Rat) = (x.re * x.re + x.im * x.im) * ((d : Rat) * (d : Rat)) := by
    rw [← Rat.intCast_natCast, hn, Rat.intCast_add, Rat.intCast_mul, Rat.intCast_mul, ← h1, ← h2]
    grind
  constructor
  · intro e
    have e1 : (m : Rat) / (d : Rat) * (d : Rat) = (m : Rat) := Rat.div_mul_cancel hd0
    refine ⟨nn_of_mul e1 Rat.natCast_nonneg Rat.natCast_nonneg hd0, ?_⟩
    rw [← e, Rat.natCast_mul] at hN
    have e4 : ((m : Rat) / (d : Rat) * ((m : Rat) / (d : Rat)) - (x.re * x.re + x.im * x.im)) * ((d : Rat) * (d : Rat)) = 0 := by grind
    rcases Rat.mul_eq_zero.1 e4 with e | e
    · grind
    · exact absurd (sq_zero e) hd0
  · rintro e ⟨r, hr⟩
    refine root_no (q := (x.re * x.re + x.im * x.im) * ((d : Rat) * (d : Rat))) (n := (a * a + b * b).natAbs) (d := 1) (s := m) (t := 1) (Nat.gcd_one_right _) ?_ hm ⟨by omega, by omega⟩ (fun c => e c.1) ⟨r * (d : Rat), by grind⟩
    rw [hN]
    grind
theorem Pri.re_nn {y x : Cx} (h : Pri y x) : 0 ≤ y.re := by
  rcases h.2 with k | k
  · exact Rat.le_of_lt k
  · rw [k.1]
    exact Rat.le_refl
theorem pri_sq {t z : Cx} (h : Pri t (z.mul z)) : t = z ∨ t = z.neg := by
  by_cases k : 0 < z.re ∨ z.re = 0 ∧ 0 ≤ z.im
  · exact .inl (h.uniq ⟨rfl, k⟩)
  · refine .inr (h.uniq ⟨?_, ?_⟩)
    · apply Cx.ext <;> simp only [Cx.mul, Cx.neg] <;> grind
    · simp only [Cx.neg]
      rcases Rat.le_total (a := 0) (b := z.re) with c | c
      · by_cases e : z.re = 0
        · right
          refine ⟨by rw [e]; rfl, ?_⟩
          rcases Rat.le_total (a := 0) (b := z.im) with c2 | c2
          · exact absurd (.inr ⟨e, c2⟩) k
          · grind
        · exact absurd (.inl (by grind)) k
      · by_cases e : z.re = 0
        · right
          refine ⟨by rw [e]; rfl, ?_⟩
          rcases Rat.le_total (a := 0) (b := z.im) with c2 | c2
          · exact absurd (.inr ⟨e, c2⟩) k
          · grind
        · left
          grind
theorem no_norm {x : Cx} (h : ¬ ∃ r : Rat, r * r = x.re * x.re + x.im * x.im) : ¬ ∃ y : Cx, y.mul y = x := fun ⟨_, hy⟩ => h ⟨_, (root_three hy).1.2⟩
theorem no_real {x : Cx} {m : Rat} (hm : IsRoot m (x.re * x.re + x.im * x.im)) (h : ¬ ∃ r : Rat, r * r = (m + x.re) / 2) : ¬ ∃ y : Cx, y.mul y = x := fun ⟨_, hy⟩ => by
  obtain ⟨a1, a2, a3⟩ := root_three hy
  rw [← hm.uniq a1] at a2
  exact h ⟨_, a2.2⟩
theorem no_imag {x : Cx} {m : Rat} (hm : IsRoot m (x.re * x.re + x.im * x.im)) (h : ¬ ∃ r : Rat, r * r = (m - x.re) / 2) : ¬ ∃ y : Cx, y.mul y = x := fun ⟨_, hy⟩ => by
  obtain ⟨a1, a2, a3⟩ := root_three hy
  rw [← hm.uniq a1] at a3
  exact h ⟨_, a3.2⟩
theorem no_zero {x : Cx} {m : Rat} (hm : IsRoot m (x.re * x.re + x.im * x.im)) (hu : IsRoot 0 ((m + x.re) / 2)) (h : ¬ ∃ r : Rat, r * r = -x.re) : ¬ ∃ y : Cx, y.mul y = x := by
  refine no_imag hm ?_
  rintro ⟨r, hr⟩
  have e := hu.2
  exact h ⟨r, by rw [hr]; grind⟩
theorem norm_ge {x : Cx} {m : Rat} (hm : IsRoot m (x.re * x.re + x.im * x.im)) : 0 ≤ (m + x.re) / 2 ∧ 0 ≤ (m - x.re) / 2 := by
  obtain ⟨m0, m1⟩ := hm
  have hi := sq_nonneg x.im
  have e : (m + x.re) * (m - x.re) = x.im * x.im := by grind
  rcases Rat.le_total (a := 0) (b := m + x.re) with c | c
  · rcases Rat.le_total (a := 0) (b := m - x.re) with c2 | c2
    · exact ⟨by grind, by grind⟩
    · have k : 0 ≤ (m + x.re) * (-(m - x.re)) := Rat.mul_nonneg c (by grind)
      have k2 : (m + x.re) * (m - x.re) = 0 := by grind
      rcases Rat.mul_eq_zero.1 k2 with z | z <;> exact ⟨by grind, by grind⟩
  · rcases Rat.le_total (a := 0) (b := m - x.re) with c2 | c2
    · have k : 0 ≤ (-(m + x.re)) * (m - x.re) := Rat.mul_nonneg (by grind) c2
      have k2 : (m + x.re) * (m - x.re) = 0 := by grind
      rcases Rat.mul_eq_zero.1 k2 with z | z <;> exact ⟨by grind, by grind⟩
    · exact ⟨by grind, by grind⟩
theorem root_sz {r q : Rat} {n : Int} {e k : Nat} (hr : r * r = q) (he : 0 < e) (hq : q * (e : Rat) = (n : Rat)) (h1 : wl n.natAbs ≤ k) (h2 : wl e ≤ k) : wl r.num.natAbs ≤ k ∧ wl r.den ≤ k := by
  have hs : Sz ⟨q, 0⟩ k := Sz.of he hq (b := 0) (by simp) h1 (by simp [wl_zero]) h2
  have hl : Low ⟨q, 0⟩ q.num 0 q.den := ⟨q.den_pos, by have := q.reduced; unfold Nat.Coprime at this; rw [Nat.gcd_comm] at this; simpa using this, num_den q, by simp⟩
  obtain ⟨s1, -, s3⟩ := hs _ _ _ hl
  have h0 : 0 ≤ q := by rw [← hr]; exact sq_nonneg r
  have hq' : q * (q.den : Rat) = (q.num.natAbs : Rat) := by
    rw [num_den, ← Rat.intCast_natCast, Int.natAbs_of_nonneg (Rat.num_nonneg.2 h0)]
  obtain ⟨p1, p2⟩ := root_parts q.reduced hq' hr
  have := wl_mono (Nat.le_mul_self r.num.natAbs)
  have := wl_mono (Nat.le_mul_self r.den)
  rw [p1] at *
  rw [p2] at *
  omega
theorem sz_root {x y : Cx} {m : Nat} (hx : Sz x m) (h : y.mul y = x) : Sz y (4 * m + 6) := by
  obtain ⟨a, b, d, hl⟩ := Low.ex x
  obtain ⟨s1, s2, s3⟩ := hx _ _ _ hl
  obtain ⟨s, hs⟩ := IsRt.ex (a * a + b * b).natAbs
  obtain ⟨n1, n2⟩ := root_norm hl hs
  obtain ⟨t1, -, -⟩ := root_three h
  have hss : s * s = (a * a + b * b).natAbs := by
    by_cases c : s * s = (a * a + b * b).natAbs
    · exact c
    · exact absurd ⟨_, t1.2⟩ (n2 c)
  have e1 := t1.uniq (n1 hss)
  have hd0 := natCast_ne hl.pos
  have e2 : (s : Rat) / (d : Rat) * (d : Rat) = (s : Rat) := Rat.div_mul_cancel hd0
  rw [← e1] at e2
  have w1 := wl_iadd (a * a) (b * b)
  have w2 := wl_imul a a
  have w3 := wl_imul b b
  have w4 := wl_mono (Nat.le_trans (Nat.le_mul_self s) hs.1)
  have w5 := wl_iadd (s : Int) a
  have w6 := wl_isub (s : Int) a
  have w7 := wl_add d d
  have w9 : wl (s : Int).natAbs = wl s := rfl
  rw [show d + d = 2 * d by omega] at w7
  obtain ⟨hd, hg, h1, h2⟩ := hl
  have i1 : x.re = y.re * y.re - y.im * y.im := by rw [← h]; rfl
  have u1 : y.re * y.re * ((2 * d : Nat) : Rat) = (((s : Int) + a : Int) : Rat) := by
    rw [Rat.natCast_mul, Rat.intCast_add, Rat.intCast_natCast, ← e2, ← h1, i1]
    grind
  have u2 : y.im * y.im * ((2 * d : Nat) : Rat) = (((s : Int) - a : Int) : Rat) := by
    rw [Rat.natCast_mul, Rat.intCast_sub, Rat.intCast_natCast, ← e2, ← h1, i1]
    grind
  obtain ⟨p1, p2⟩ := root_sz rfl (by omega : 0 < 2 * d) u1 (k := 2 * m + 3) (by omega) (by omega)
  obtain ⟨p3, p4⟩ := root_sz rfl (by omega : 0 < 2 * d) u2 (k := 2 * m + 3) (by omega) (by omega)
  have q1 := wl_imul y.re.num (y.im.den : Int)
  have q2 := wl_imul y.im.num (y.re.den : Int)
  have q3 := wl_mul y.re.den y.im.den
  have q4 : wl (y.im.den : Int).natAbs = wl y.im.den := rfl
  have q5 : wl (y.re.den : Int).natAbs = wl y.re.den := rfl
  refine Sz.of (a := y.re.num * (y.im.den : Int)) (b := y.im.num * (y.re.den : Int)) (Nat.mul_pos y.re.den_pos y.im.den_pos) ?_ ?_ (by omega) (by omega) (by omega)
  · rw [Rat.natCast_mul, Rat.intCast_mul, Rat.intCast_natCast, ← num_den y.re]
    grind
  · rw [Rat.natCast_mul, Rat.intCast_mul, Rat.intCast_natCast, ← num_den y.im]
    grind
end Go.Proofs.YtccldiokpgjocaaGreatDoor
