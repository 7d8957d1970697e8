import Derived.Test.YtccldiokpgjocaaGreatDoorP04
import Derived.Test.YtccldiokpgjocaaGreatDoorP31
import Derived.Test.YtccldiokpgjocaaGreatDoorP49
set_option linter.unusedSimpArgs false
set_option linter.unusedVariables false
namespace Go.Proofs.YtccldiokpgjocaaGreatDoor
open Go.RowKit
set_option maxRecDepth 100000
theorem rBits_any (v : Value) (x : Nat) (w : World) (h : IsNat w v x) (hn : wl x < 1099511627776) :
    Calls Tryz.prog 108 #[v] w fun e w' => e = .returned (.int .i64 ((bl x : Nat) : Int)) ∧ w = w' := by
  by_cases h0 : x = 0
  · subst h0
    obtain ⟨A, c, rfl, -⟩ := h
    rw [wl_zero, show bl 0 = 0 from rfl]
    go_enter Tryz.func108, Tryz.ntmps108
    go_wp2
    go_ret
    exact ⟨rfl, rfl⟩
  · obtain ⟨n, hw⟩ : ∃ n, wl x = n + 1 := ⟨wl x - 1, by have := wl_eq_zero (x := x); omega⟩
    refine (rNatBits_any v x n w h hw (by omega)).mono fun e w' ⟨h1, h2⟩ => ⟨?_, h2⟩
    have hb := bl_words (x := x) (by omega)
    rw [hw, Nat.add_sub_cancel] at hb
    rw [h1, hb, Nat.mul_comm]
theorem rBit0_any (v : Value) (x : Nat) (w : World) (h : IsNat w v x) (hn : wl x < 1099511627776) :
    Calls Tryz.prog 106 #[v, .int .i64 0] w fun e w' => e = .returned (.int .u32 ((x % 2 : Nat) : Int)) ∧ w = w' := by
  by_cases h0 : x = 0
  · subst h0
    obtain ⟨A, c, rfl, -⟩ := h
    rw [wl_zero]
    go_enter Tryz.func106, Tryz.ntmps106
    go_wp2
    go_ret
    exact ⟨rfl, rfl⟩
  · obtain ⟨A, c, rfl, hc, hw⟩ := h
    have hl : 0 < wl x := by have := wl_eq_zero (x := x); omega
    obtain ⟨b, off, rfl, hb, hce⟩ := hw hl
    have hcell := hce 0 hl
    have hd : dg x 0 = x % 4294967296 := by unfold dg; simp
    have hlt : x % 4294967296 < 4294967296 := Nat.mod_lt _ (by omega)
    rw [hd, Nat.add_zero] at hcell
    have hb2 : bits BinOp.and IntKind.u32 ((x % 4294967296 : Nat) : Int) 1 = ((x % 2 : Nat) : Int) := by
      have e := u32_and_nat (x % 4294967296) 1 hlt (by omega)
      rw [show (1 : Int) = ((1 : Nat) : Int) from rfl, e, Nat.and_one_is_mod]
      congr 1
      omega
    have hl0 : (0 : Int) < (wl x : Int) := by omega
    generalize wl x = m at *
    generalize x % 4294967296 = d at *
    generalize x % 2 = r at *
    go_enter Tryz.func106, Tryz.ntmps106
    go_wp2
    go_ret
    exact ⟨rfl, rfl⟩
end Go.Proofs.YtccldiokpgjocaaGreatDoor
set_option linter.unusedSimpArgs false
set_option linter.unusedVariables false
namespace Go.Proofs.YtccldiokpgjocaaGreatDoor
def spC (lo : Int) : Nat := (-lo).toNat + 1
structure Spst (lo : Int) (p d q E last : Nat) (more : Bool) : Prop where
  e0 : 0 < E
  hq : q = p * 2 ^ spC lo / (2 ^ E * d)
  hl : last = p * 2 ^ spC lo / (2 ^ (E - 1) * d) % 2
  hm : more = decide (p * 2 ^ spC lo % (2 ^ (E - 1) * d) ≠ 0)
theorem pow_step (E : Nat) : 2 ^ (E + 1) = 2 ^ E * 2 := Nat.pow_succ ..
theorem Spst.first {lo : Int} {p d E q0 : Nat} {m0 : Bool} (hq : q0 = p * 2 ^ spC lo / (2 ^ E * d)) (hm : m0 = decide (p * 2 ^ spC lo % (2 ^ E * d) ≠ 0)) :
    Spst lo p d (q0 / 2) (E + 1) (q0 % 2) m0 := by
  refine ⟨by omega, ?_, by rw [hq, Nat.add_sub_cancel], by rw [hm, Nat.add_sub_cancel]⟩
  rw [hq, Nat.div_div_eq_div_mul, pow_step]
  congr 1
  ac_rfl
theorem Spst.next {lo : Int} {p d q E last : Nat} {more : Bool} (hd : 0 < d) (h : Spst lo p d q E last more) : Spst lo p d (q / 2) (E + 1) (q % 2) (more || decide (last = 1)) := by
  obtain ⟨e0, hq, hl, hm⟩ := h
  obtain ⟨F, rfl⟩ : ∃ F, E = F + 1 := ⟨E - 1, by omega⟩
  rw [Nat.add_sub_cancel] at hl hm
  have hs := Spst.first (lo := lo) (p := p) (d := d) (E := F + 1) (q0 := q) (m0 := more || decide (last = 1)) hq (by
    rw [hm, hl]
    have hU : 2 ^ (F + 1) * d = 2 ^ F * d * 2 := by rw [pow_step]; ac_rfl
    have h1 := Nat.mod_mul (x := p * 2 ^ spC lo) (a := 2 ^ F * d) (b := 2)
    rw [← hU] at h1
    have hV : 0 < 2 ^ F * d := Nat.mul_pos (Nat.pow_pos (by omega)) hd
    have h2 : p * 2 ^ spC lo / (2 ^ F * d) % 2 < 2 := Nat.mod_lt _ (by omega)
    generalize p * 2 ^ spC lo % (2 ^ F * d) = a at *
    generalize p * 2 ^ spC lo / (2 ^ F * d) % 2 = b at *
    generalize p * 2 ^ spC lo % (2 ^ (F + 1) * d) = c at *
    generalize 2 ^ F * d = V at *
    rw [Bool.eq_iff_iff]
    simp only [Bool.or_eq_true, decide_eq_true_eq]
    rw [h1]
    constructor
    · rintro (h | h)
      · omega
      · rw [h]; omega
    · intro h
      rcases Nat.eq_zero_or_pos b with e | e
      · left
        rw [e] at h
        omega
      · right
        omega)
  exact hs
theorem Spst.spl {dg : Nat} {lo : Int} {p d q E last : Nat} {more : Bool} (hlo : lo ≤ 0) (hd : 0 < d) (h : Spst lo p d q E last more) (hq1 : q < 2 ^ dg) (hq2 : E = 1 ∨ 2 ^ (dg - 1) ≤ q) :
    Spl dg lo p d q (E - 1) ∧ decide (last = 1) = decide (2 ^ (E - 1) * d ≤ 2 * splR lo p d q (E - 1)) ∧ last < 2 ∧
      more = decide (2 * splR lo p d q (E - 1) ≠ (if last = 1 then 2 ^ (E - 1) * d else 0)) := by
  obtain ⟨e0, hq, hl, hm⟩ := h
  obtain ⟨t, rfl⟩ : ∃ t, E = t + 1 := ⟨E - 1, by omega⟩
  rw [Nat.add_sub_cancel] at hl hm ⊢
  have hC : 2 ^ spC lo = 2 * 2 ^ (-lo).toNat := by unfold spC; rw [Nat.pow_succ, Nat.mul_comm]
  have hU : 2 ^ (t + 1) * d = 2 ^ t * d * 2 := by rw [pow_step]; ac_rfl
  have hV : 0 < 2 ^ t * d := Nat.mul_pos (Nat.pow_pos (by omega)) hd
  have hP : p * 2 ^ spC lo = 2 * (p * 2 ^ (-lo).toNat) := by rw [hC]; ac_rfl
  rw [hP] at hq hl hm
  rw [hU] at hq
  have hsplR : splR lo p d q t = p * 2 ^ (-lo).toNat - q * 2 ^ t * d := rfl
  rw [hsplR]
  have hqV : q * 2 ^ t * d = q * (2 ^ t * d) := Nat.mul_assoc ..
  have hqV1 : (q + 1) * 2 ^ t * d = (q + 1) * (2 ^ t * d) := Nat.mul_assoc ..
  rw [hqV]
  refine ⟨⟨?_, ?_, hq1, ?_⟩, ?_⟩
  · rw [hqV]
    have := Nat.div_mul_le_self (2 * (p * 2 ^ (-lo).toNat)) (2 ^ t * d * 2)
    rw [← hq] at this
    generalize 2 ^ t * d = V at *
    generalize p * 2 ^ (-lo).toNat = x at *
    rw [← Nat.mul_assoc] at this
    omega
  · rw [hqV1]
    have := Nat.lt_mul_div_succ (2 * (p * 2 ^ (-lo).toNat)) (b := 2 ^ t * d * 2) (by omega)
    rw [← hq] at this
    generalize 2 ^ t * d = V at *
    generalize p * 2 ^ (-lo).toNat = x at *
    rw [Nat.mul_right_comm, Nat.mul_comm V] at this
    omega
  · rcases hq2 with h | h
    · left; omega
    · exact .inr h
  · generalize 2 ^ t * d = V at *
    generalize p * 2 ^ (-lo).toNat = x at *
    -- 2 x = (2 q + last) V + rest
    have h1 := Nat.div_add_mod (2 * x) V
    have h2 := Nat.mod_lt (2 * x) hV
    have h3 : 2 * x / V / 2 = q := by rw [hq, Nat.div_div_eq_div_mul]
    have h4 : 2 * x / V = 2 * q + last := by omega
    have h5 : last < 2 := by omega
    rw [h4] at h1
    have h6 : V * (2 * q + last) = 2 * (q * V) + last * V := by rw [Nat.mul_add, Nat.mul_comm V last, Nat.mul_left_comm, Nat.mul_comm V q]
    rw [h6] at h1
    refine ⟨?_, h5, ?_⟩
    · rcases (show last = 0 ∨ last = 1 by omega) with e | e
      · rw [e] at h1 ⊢
        rw [Nat.zero_mul] at h1
        rw [decide_eq_false (by omega), decide_eq_false (by omega)]
      · rw [e] at h1 ⊢
        rw [Nat.one_mul] at h1
        rw [decide_eq_true rfl, decide_eq_true (by omega)]
    · rw [hm, decide_eq_decide]
      generalize 2 * x % V = r at *
      rcases (show last = 0 ∨ last = 1 by omega) with e | e
      · rw [e] at h1 ⊢
        rw [Nat.zero_mul] at h1
        rw [if_neg (by omega)]
        omega
      · rw [e] at h1 ⊢
        rw [Nat.one_mul] at h1
        rw [if_pos rfl]
        omega
theorem first_long {dg : Nat} {lo : Int} {p d : Nat} {e : Int} (hp : 0 < p) (hd : 0 < d) (he : e = (bl p : Int) - (bl d : Int) - (dg : Int) - 1) (hlo : lo - 1 ≤ e) (hl0 : lo ≤ 0) :
    2 ^ dg ≤ p * 2 ^ spC lo / (2 ^ (e - (lo - 1)).toNat * d) := by
  obtain ⟨p0, p1, p2⟩ := bl_pow hp
  obtain ⟨d0, d1, d2⟩ := bl_pow hd
  rw [Nat.le_div_iff_mul_le (Nat.mul_pos (Nat.pow_pos (by omega)) hd)]
  obtain ⟨E, hE⟩ : ∃ E, (e - (lo - 1)).toNat = E := ⟨_, rfl⟩
  obtain ⟨c, hc⟩ : ∃ c, spC lo = c := ⟨_, rfl⟩
  have hc2 : (c : Int) = 1 - lo := by unfold spC at hc; omega
  rw [hE, hc]
  have h1 : 2 ^ dg * (2 ^ E * d) ≤ 2 ^ dg * (2 ^ E * 2 ^ bl d) := Nat.mul_le_mul_left _ (Nat.mul_le_mul_left _ (Nat.le_of_lt d2))
  have h2 : 2 ^ dg * (2 ^ E * 2 ^ bl d) = 2 ^ (bl p - 1) * 2 ^ c := by
    rw [← Nat.pow_add, ← Nat.pow_add, ← Nat.pow_add]
    congr 1
    omega
  have h3 : 2 ^ (bl p - 1) * 2 ^ c ≤ p * 2 ^ c := Nat.mul_le_mul_right _ p1
  omega
end Go.Proofs.YtccldiokpgjocaaGreatDoor
