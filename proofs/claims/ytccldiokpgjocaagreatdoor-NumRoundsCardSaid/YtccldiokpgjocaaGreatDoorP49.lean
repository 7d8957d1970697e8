import Derived.Test.YtccldiokpgjocaaGreatDoorP27
set_option linter.unusedSimpArgs false
set_option linter.unusedVariables false
namespace Go.Proofs.YtccldiokpgjocaaGreatDoor
structure Spl (dg : Nat) (lo : Int) (p q m t : Nat) : Prop where
  le : m * 2 ^ t * q ≤ p * 2 ^ (-lo).toNat
  lt : p * 2 ^ (-lo).toNat < (m + 1) * 2 ^ t * q
  hm : m < 2 ^ dg
  ht : t = 0 ∨ 2 ^ (dg - 1) ≤ m
def splR (lo : Int) (p q m t : Nat) : Nat := p * 2 ^ (-lo).toNat - m * 2 ^ t * q
def upR (m R V : Nat) (way : Int) : Bool := if way = 1 then decide (0 < R) else if way = 2 then decide (V < 2 * R) || (decide (2 * R = V) && decide (m % 2 = 1)) else false
theorem Spl.not_lt {dg : Nat} {lo : Int} {p q m t m' t' : Nat} (hd : 0 < dg) (h : Spl dg lo p q m t) (h' : Spl dg lo p q m' t') (hq : 0 < q) : ¬ t < t' := by
  intro hlt
  have hm' : 2 ^ (dg - 1) ≤ m' := by rcases h'.ht with e | e; omega; exact e
  have e1 : (m + 1) * 2 ^ t * q ≤ 2 ^ dg * 2 ^ t * q := Nat.mul_le_mul_right _ (Nat.mul_le_mul_right _ h.hm)
  have e2 : 2 ^ (dg - 1) * 2 ^ t' * q ≤ m' * 2 ^ t' * q := Nat.mul_le_mul_right _ (Nat.mul_le_mul_right _ hm')
  have e3 : 2 ^ dg * 2 ^ t ≤ 2 ^ (dg - 1) * 2 ^ t' := by
    rw [← Nat.pow_add, ← Nat.pow_add]
    exact Nat.pow_le_pow_right (by omega) (by omega)
  have e4 := Nat.mul_le_mul_right q e3
  have := h.lt
  have := h'.le
  omega
theorem Spl.uniq {dg : Nat} {lo : Int} {p q m t m' t' : Nat} (hd : 0 < dg) (h : Spl dg lo p q m t) (h' : Spl dg lo p q m' t') (hq : 0 < q) : m = m' ∧ t = t' := by
  have h1 := Spl.not_lt hd h h' hq
  have h2 := Spl.not_lt hd h' h hq
  obtain rfl : t = t' := by omega
  refine ⟨?_, rfl⟩
  have hV : 0 < 2 ^ t * q := Nat.mul_pos (Nat.pow_pos (by omega)) hq
  have a1 := Nat.lt_of_le_of_lt h.le h'.lt
  have a2 := Nat.lt_of_le_of_lt h'.le h.lt
  rw [Nat.mul_assoc, Nat.mul_assoc] at a1 a2
  have a3 := Nat.lt_of_mul_lt_mul_right a1
  have a4 := Nat.lt_of_mul_lt_mul_right a2
  omega
theorem half_step {M rest K D Q rho : Nat} (hD : 2 ≤ D) (hM : M = K * 2 ^ D + rest) (hr : rest < 2 ^ D) (hrho : rho < Q) :
    (2 ^ D * Q < 2 * (rest * Q + rho) ↔ (2 ^ (D - 1) < rest ∨ rest = 2 ^ (D - 1) ∧ rho ≠ 0)) ∧ (2 * (rest * Q + rho) = 2 ^ D * Q ↔ rest = 2 ^ (D - 1) ∧ rho = 0) ∧ (rest * Q + rho = 0 ↔ rest = 0 ∧ rho = 0) ∧ rest * Q + rho < 2 ^ D * Q := by
  obtain ⟨h, hh⟩ : ∃ h, h = 2 ^ (D - 1) := ⟨_, rfl⟩
  have e : 2 ^ D = 2 * h := by rw [hh, show D = D - 1 + 1 by omega, Nat.pow_succ]; simp [Nat.mul_comm]
  rw [← hh]
  rw [e] at hM hr ⊢
  have hQ : 0 < Q := by omega
  have hlt : rest * Q + rho < 2 * h * Q := by
    have : (rest + 1) * Q ≤ 2 * h * Q := Nat.mul_le_mul_right _ hr
    rw [Nat.add_mul] at this
    omega
  rcases Nat.lt_trichotomy rest h with c | c | c
  · have h1 : (rest + 1) * Q ≤ h * Q := Nat.mul_le_mul_right _ c
    rw [Nat.add_mul] at h1
    rw [Nat.mul_assoc] at *
    generalize hx : rest * Q = x at *
    generalize hy : h * Q = y at *
    refine ⟨⟨fun h => by omega, fun h => by omega⟩, ⟨fun h => by omega, fun h => by omega⟩, ⟨fun h0 => ?_, fun h0 => ?_⟩, hlt⟩
    · have : x = 0 := by omega
      rw [this] at hx
      rcases Nat.mul_eq_zero.1 hx with e | e <;> omega
    · rw [h0.1, Nat.zero_mul] at hx; omega
  · subst c
    rw [Nat.mul_assoc] at *
    generalize hx : rest * Q = x at *
    refine ⟨⟨fun h => by omega, fun h => by omega⟩, ⟨fun h => by omega, fun h => by omega⟩, ⟨fun h0 => ?_, fun h0 => ?_⟩, hlt⟩
    · have : x = 0 := by omega
      rw [this] at hx
      rcases Nat.mul_eq_zero.1 hx with e | e <;> omega
    · rw [h0.1, Nat.zero_mul] at hx; omega
  · have h1 : (h + 1) * Q ≤ rest * Q := Nat.mul_le_mul_right _ c
    rw [Nat.add_mul] at h1
    rw [Nat.mul_assoc] at *
    generalize hx : rest * Q = x at *
    generalize hy : h * Q = y at *
    refine ⟨⟨fun h => by omega, fun h => by omega⟩, ⟨fun h => by omega, fun h => by omega⟩, ⟨fun h0 => ?_, fun h0 => ?_⟩, hlt⟩
    · omega
    · omega
theorem rd_spl {dg : Nat} {lo : Int} {p q : Nat} (hp : 0 < p) (hq : 0 < q) (hdg : 1 ≤ dg) (hdg2 : dg ≤ 53) (hlo : lo ≤ 0) :
    ∃ m t, Spl dg lo p q m t ∧ (t : Int) = rdU dg lo p q - lo ∧ rdM dg p q / 2 ^ rdD dg lo p q = m ∧
      ∀ way, rUp (rdM dg p q / 2 ^ rdD dg lo p q) (rdM dg p q % 2 ^ rdD dg lo p q) (2 ^ (rdD dg lo p q - 1)) (rdX dg p q) way = upR m (splR lo p q m t) (2 ^ t * q) way := by
  obtain ⟨m1, m2, mQ⟩ := rdM_bounds (dg := dg) hp hq
  obtain ⟨f1, f2, f3, f4, f5, f6⟩ := rd_facts (dg := dg) (lo := lo) hp hq
  obtain ⟨t, ht⟩ : ∃ t : Nat, (t : Int) = rdU dg lo p q - lo := ⟨(rdU dg lo p q - lo).toNat, by omega⟩
  obtain ⟨D, hD⟩ : ∃ D : Nat, (D : Int) = rdU dg lo p q + rdS dg p q := ⟨(rdU dg lo p q + rdS dg p q).toNat, by omega⟩
  have hU : rdU dg lo p q = max ((bl (rdM dg p q) : Int) - rdS dg p q - (dg : Int)) lo := rfl
  have hDD : rdD dg lo p q = min D 63 := by unfold rdD; omega
  have hX : rdX dg p q = decide (scP p (rdS dg p q) % scQ q (rdS dg p q) ≠ 0) := rfl
  have hM : rdM dg p q = scP p (rdS dg p q) / scQ q (rdS dg p q) := rfl
  obtain ⟨bp, b1, b2⟩ := bl_pow (x := rdM dg p q) (by have := Nat.pow_pos (a := 2) (n := dg + 1) (by omega); omega)
  have hMB : rdM dg p q < 2 ^ 56 := Nat.lt_of_lt_of_le m2 (Nat.pow_le_pow_right (by omega) (by omega))
  have hdm := Nat.div_add_mod (scP p (rdS dg p q)) (scQ q (rdS dg p q))
  have hml := Nat.mod_lt (scP p (rdS dg p q)) mQ
  rw [← hM] at hdm
  -- powers
  obtain ⟨sp, hsp⟩ : ∃ sp, (rdS dg p q).toNat = sp := ⟨_, rfl⟩
  obtain ⟨sm, hsm⟩ : ∃ sm, (-rdS dg p q).toNat = sm := ⟨_, rfl⟩
  obtain ⟨c, hc⟩ : ∃ c, (-lo).toNat = c := ⟨_, rfl⟩
  have hP : scP p (rdS dg p q) = p * 2 ^ sp := by unfold scP; rw [hsp]
  have hQ : scQ q (rdS dg p q) = q * 2 ^ sm := by unfold scQ; rw [hsm]
  have hex : sm + D + c = t + sp := by omega
  rw [hP, hQ] at hdm
  rw [hP, hQ] at hml
  rw [hQ] at mQ
  rw [hX, hP, hQ]
  unfold splR
  generalize hrho : p * 2 ^ sp % (q * 2 ^ sm) = rho at *
  have hV : 2 ^ D * (q * 2 ^ sm) * 2 ^ c = 2 ^ t * q * 2 ^ sp := by
    rw [show 2 ^ D * (q * 2 ^ sm) * 2 ^ c = q * 2 ^ (sm + D + c) by (rw [Nat.pow_add, Nat.pow_add]; (try ac_rfl)), hex, Nat.pow_add, Nat.mul_comm (2 ^ t) q, Nat.mul_assoc]
  have hspos : 0 < 2 ^ sp := Nat.pow_pos (by omega)
  have hcpos : 0 < 2 ^ c := Nat.pow_pos (by omega)
  rcases Nat.le_total D 63 with d63 | d63
  · rw [hDD, Nat.min_eq_left d63]
    generalize rdM dg p q = M at *
    have hK := Nat.div_add_mod M (2 ^ D)
    have hr := Nat.mod_lt M (Nat.pow_pos (n := D) (show 0 < 2 by omega))
    generalize hKe : M / 2 ^ D = K at *
    generalize hre : M % 2 ^ D = rest at *
    obtain ⟨g1, g2, g3, g4⟩ := half_step (M := M) (D := D) (Q := q * 2 ^ sm) (K := K) (by omega) (by rw [← hK, Nat.mul_comm]) hr hml
    -- p 2^c in units
    have hR : p * 2 ^ c * 2 ^ sp = K * 2 ^ t * q * 2 ^ sp + (rest * (q * 2 ^ sm) + rho) * 2 ^ c := by
      rw [show p * 2 ^ c * 2 ^ sp = p * 2 ^ sp * 2 ^ c by grind, ← hdm, ← hK, show K * 2 ^ t * q * 2 ^ sp = K * (2 ^ t * q * 2 ^ sp) by grind, ← hV]
      grind
    generalize hr0 : rest * (q * 2 ^ sm) + rho = r0 at *
    obtain ⟨R, hRR⟩ : ∃ R, p * 2 ^ c = K * 2 ^ t * q + R := ⟨p * 2 ^ c - K * 2 ^ t * q, by
      have : K * 2 ^ t * q * 2 ^ sp ≤ p * 2 ^ c * 2 ^ sp := by omega
      have := Nat.le_of_mul_le_mul_right this hspos
      omega⟩
    have hR2 : R * 2 ^ sp = r0 * 2 ^ c := by
      rw [hRR, Nat.add_mul] at hR
      omega
    have hRV : R < 2 ^ t * q := by
      refine Nat.lt_of_mul_lt_mul_right (a := 2 ^ sp) ?_
      rw [hR2, ← hV]
      exact Nat.mul_lt_mul_of_pos_right g4 hcpos
    have hsub : p * 2 ^ (-lo).toNat - K * 2 ^ t * q = R := by rw [hc]; omega
    have k1 : 2 ^ t * q < 2 * R ↔ 2 ^ D * (q * 2 ^ sm) < 2 * r0 := by
      constructor
      · intro h
        refine Nat.lt_of_mul_lt_mul_right (a := 2 ^ c) ?_
        rw [hV, Nat.mul_assoc 2 r0, ← hR2, ← Nat.mul_assoc]
        exact Nat.mul_lt_mul_of_pos_right h hspos
      · intro h
        refine Nat.lt_of_mul_lt_mul_right (a := 2 ^ sp) ?_
        rw [← hV, Nat.mul_assoc 2 R, hR2, ← Nat.mul_assoc 2 r0]
        exact Nat.mul_lt_mul_of_pos_right h hcpos
    have k2 : 2 * R = 2 ^ t * q ↔ 2 * r0 = 2 ^ D * (q * 2 ^ sm) := by
      constructor
      · intro h
        refine Nat.eq_of_mul_eq_mul_right hcpos ?_
        rw [hV, Nat.mul_assoc 2 r0, ← hR2, ← Nat.mul_assoc, h]
      · intro h
        refine Nat.eq_of_mul_eq_mul_right hspos ?_
        rw [← hV, Nat.mul_assoc 2 R, hR2, ← Nat.mul_assoc, h]
    have k3 : 0 < R ↔ r0 ≠ 0 := by
      constructor
      · intro h e
        rw [e, Nat.zero_mul] at hR2
        have := Nat.mul_pos h hspos
        omega
      · intro h
        refine Nat.pos_of_ne_zero fun e => ?_
        rw [e, Nat.zero_mul] at hR2
        have := Nat.mul_pos (Nat.pos_of_ne_zero h) hcpos
        omega
    refine ⟨K, t, ⟨by rw [hc]; omega, ?_, ?_, ?_⟩, ht, rfl, fun way => ?_⟩
    · rw [hc, hRR, Nat.add_mul, Nat.add_mul, Nat.one_mul]; omega
    · rw [← hKe, Nat.div_lt_iff_lt_mul (Nat.pow_pos (by omega)), ← Nat.pow_add]
      refine Nat.lt_of_lt_of_le b2 (Nat.pow_le_pow_right (by omega) ?_)
      omega
    · rcases Nat.eq_zero_or_pos t with e | e
      · exact .inl e
      · right
        rw [← hKe, Nat.le_div_iff_mul_le (Nat.pow_pos (by omega)), ← Nat.pow_add]
        refine Nat.le_trans (Nat.pow_le_pow_right (by omega) ?_) b1
        omega
    · rw [hsub]
      unfold rUp upR
      split
      · rw [Bool.eq_iff_iff]; simp [k3]; omega
      split
      · rw [Bool.eq_iff_iff]; simp [k1, k2]; rw [g1, g2]; grind
      · rfl
  · rw [hDD, Nat.min_eq_right d63]
    have h63 : rdM dg p q < 2 ^ 62 := Nat.lt_of_lt_of_le hMB (Nat.pow_le_pow_right (by omega) (by omega))
    have h62 : (2 : Nat) ^ 63 = 2 * 2 ^ 62 := by decide +kernel
    have hK0 : rdM dg p q / 2 ^ 63 = 0 := Nat.div_eq_of_lt (by omega)
    have hr0 : rdM dg p q % 2 ^ 63 = rdM dg p q := Nat.mod_eq_of_lt (by omega)
    rw [hK0, hr0]
    have hMpos : 0 < rdM dg p q := by have := Nat.pow_pos (a := 2) (n := dg + 1) (by omega); omega
    have ht0 : t = 0 := by
      rcases Nat.eq_zero_or_pos t with e | e
      · exact e
      · have : dg + D = bl (rdM dg p q) := by omega
        omega
    subst ht0
    -- p 2^c is less than half a unit
    have hlt : 2 * (p * 2 ^ c) < 2 ^ 0 * q := by
      refine Nat.lt_of_mul_lt_mul_right (a := 2 ^ sp) ?_
      rw [← hV]
      have e1 : p * 2 ^ sp < (rdM dg p q + 1) * (q * 2 ^ sm) := by rw [Nat.add_mul, Nat.one_mul, Nat.mul_comm (rdM dg p q)]; omega
      have e2 : (rdM dg p q + 1) * (q * 2 ^ sm) ≤ 2 ^ 62 * (q * 2 ^ sm) := Nat.mul_le_mul_right _ h63
      have e3 : 2 * (2 ^ 62 * (q * 2 ^ sm)) ≤ 2 ^ D * (q * 2 ^ sm) := by
        rw [← Nat.mul_assoc, ← h62]
        exact Nat.mul_le_mul_right _ (Nat.pow_le_pow_right (by omega) d63)
      have e4 : 2 * (p * 2 ^ sp) < 2 ^ D * (q * 2 ^ sm) := by omega
      have e5 := Nat.mul_lt_mul_of_pos_right e4 hcpos
      rw [show 2 * (p * 2 ^ c) * 2 ^ sp = 2 * (p * 2 ^ sp) * 2 ^ c by grind]
      exact e5
    have hpc : 0 < p * 2 ^ c := Nat.mul_pos hp hcpos
    refine ⟨0, 0, ⟨by simp, by rw [hc]; simp at hlt ⊢; omega, Nat.pow_pos (by omega), .inl rfl⟩, ht, rfl, fun way => ?_⟩
    rw [hc]; simp only [Nat.zero_mul, Nat.sub_zero]
    unfold rUp upR
    split
    · rw [decide_eq_true hMpos, decide_eq_true hpc]; rfl
    split
    · have n1 : ¬ (2 ^ (63 - 1) < rdM dg p q) := by have : (2 : Nat) ^ (63 - 1) = 2 ^ 62 := rfl; omega
      have n2 : ¬ (rdM dg p q = 2 ^ (63 - 1)) := by have : (2 : Nat) ^ (63 - 1) = 2 ^ 62 := rfl; omega
      have n3 : ¬ (2 ^ 0 * q < 2 * (p * 2 ^ c)) := by omega
      have n4 : ¬ (2 * (p * 2 ^ c) = 2 ^ 0 * q) := by omega
      rw [decide_eq_false n1, decide_eq_false n2, decide_eq_false n3, decide_eq_false n4]; rfl
    · rfl
theorem rdF_spl {dg : Nat} {lo hi : Int} {p q : Nat} (hf : Fm dg lo hi) (hp : 0 < p) (hq : 0 < q) :
    ∃ m t, Spl dg lo p q m t ∧ ∀ way, rdF dg lo hi p q way = if hi - lo < (t : Int) then ovB dg lo hi way else t * 2 ^ (dg - 1) + m + (if upR m (splR lo p q m t) (2 ^ t * q) way then 1 else 0) := by
  obtain ⟨f1, f2, f3, f4, f5, f6⟩ := hf
  obtain ⟨m, t, h, ht, hm, hu⟩ := rd_spl (dg := dg) (lo := lo) hp hq (by omega) f2 (by omega)
  refine ⟨m, t, h, fun way => ?_⟩
  unfold rdF
  rw [if_neg (by omega)]
  by_cases c : hi < rdU dg lo p q
  · rw [if_pos c, if_pos (by omega)]
  · rw [if_neg c, if_neg (by omega), rdB_eq, hu way, hm, ← ht, Int.toNat_natCast]
end Go.Proofs.YtccldiokpgjocaaGreatDoor
