import Derived.Test.YtlljeccfhmojnaaGreatDoorJ23
import Derived.Test.YtlljeccfhmojnaaGreatDoorJ26
set_option linter.unusedSimpArgs false
set_option linter.unusedVariables false
namespace Go.Proofs.YtlljeccfhmojnaaGreatDoor
open Go.RowKit
set_option maxRecDepth 100000
theorem nd_pos (x : Nat) : 1 ≤ nd x := by
  unfold nd
  split <;> omega
theorem wl_nd (x : Nat) : wl x ≤ nd x := by
  by_cases h : x = 0
  · subst h; rw [wl_zero]; omega
  · obtain ⟨-, -, h2⟩ := nd_spec x (by omega)
    exact wl_le_of (Nat.lt_of_lt_of_le h2 (Nat.pow_le_pow_left (by omega) _))
theorem dec_len (x : Nat) : (dec x).length = nd x := by simp [dec]
theorem rt_len (p : Rat) : wl p.num.natAbs ≤ (rt p).length ∧ wl p.den ≤ (rt p).length := by
  have h1 := wl_nd p.num.natAbs
  have h2 := wl_nd p.den
  have h3 := nd_pos p.num.natAbs
  unfold rt rtext
  constructor
  · simp only [List.length_append, dec_len]; omega
  · by_cases hd : p.den = 1
    · rw [hd, wl_one]
      simp only [List.length_append, dec_len]; omega
    · simp only [List.length_append, if_neg hd, List.length_cons, dec_len]; omega
theorem cx_len {x : Cx} {n : Nat} (h : (ctext x).length ≤ n) (h1 : 1 ≤ n) : wl x.re.num.natAbs ≤ n ∧ wl x.re.den ≤ n ∧ wl x.im.num.natAbs ≤ n ∧ wl x.im.den ≤ n := by
  have a := rt_len x.re
  have b := rt_len x.im
  have z : wl (0 : Rat).num.natAbs ≤ n ∧ wl (0 : Rat).den ≤ n := ⟨by simp [wl_zero], by simp [wl_one, h1]⟩
  unfold ctext at h
  by_cases hi : x.im = 0
  · rw [if_pos hi] at h
    rw [hi]
    exact ⟨by omega, by omega, z.1, z.2⟩
  · rw [if_neg hi] at h
    by_cases hr : x.re = 0
    · rw [if_pos hr, List.length_append] at h
      rw [hr]
      exact ⟨z.1, z.2, by omega, by omega⟩
    · rw [if_neg hr] at h
      split at h <;> simp only [List.length_append] at h <;> exact ⟨by omega, by omega, by omega, by omega⟩
theorem sz_text {x : Cx} {n : Nat} (h : (strOfNums (ctext x)).size ≤ n) (h1 : 1 ≤ n) : Sz x (2 * n) := by
  rw [strOfNums_size] at h
  obtain ⟨a, b, c, d⟩ := cx_len h h1
  refine Sz.of (d := x.re.den * x.im.den) (a := x.re.num * x.im.den) (b := x.im.num * x.re.den) (Nat.mul_pos x.re.den_pos x.im.den_pos) ?_ ?_ ?_ ?_ ?_
  · rw [cast_mul_nat, Rat.intCast_mul, ← mul_den x.re, ← Rat.mul_assoc]; rfl
  · rw [cast_mul_nat, Rat.intCast_mul, Rat.mul_comm (x.re.den : Rat), ← Rat.mul_assoc, mul_den x.im]; rfl
  · have := wl_imul x.re.num x.im.den
    rw [wl_inat] at this; omega
  · have := wl_imul x.im.num x.re.den
    rw [wl_inat] at this; omega
  · have := wl_mul x.re.den x.im.den
    omega
end Go.Proofs.YtlljeccfhmojnaaGreatDoor
