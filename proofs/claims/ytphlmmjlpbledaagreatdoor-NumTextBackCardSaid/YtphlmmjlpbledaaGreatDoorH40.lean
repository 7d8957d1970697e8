import Derived.Test.YtphlmmjlpbledaaGreatDoorH31
set_option linter.unusedSimpArgs false
set_option linter.unusedVariables false
namespace Go.Proofs.YtphlmmjlpbledaaGreatDoor
theorem digs_len (l : List UInt8) : (digs l).length + (past l).length = l.length := by have := congrArg List.length (digs_past l); simpa using this
theorem off_len (b : UInt8) (l : List UInt8) : (off b l).length ≤ l.length := by unfold off; split <;> simp
theorem hd_len {b : UInt8} {l : List UInt8} (h : isHd b l = true) : l.tail.length + 1 = l.length := by
  cases l with
  | nil => simp [isHd] at h
  | cons c l => simp
theorem exp_bd {l : List UInt8} (h : pExpOk l = true) : -400 ≤ pExpV l ∧ pExpV l ≤ 400 := by
  unfold pExpOk at h
  unfold pExpV
  simp at h
  split <;> omega
theorem expR_len (l : List UInt8) : (pExpR l).length ≤ l.length := by
  unfold pExpR
  have := digs_len (off 45 l)
  have := off_len 45 l
  omega
def MagBd (n : Nat) (o : Option (Nat × Nat × List UInt8)) : Prop := ∀ a b r, o = some (a, b, r) → a < 10 ^ (n + 401) ∧ b < 10 ^ (n + 401) ∧ r.length ≤ n
theorem pFin_bd {d r : List UInt8} {t : Int} {n : Nat} (hd : ∀ c ∈ d, dgt c = true) (h1 : d.length ≤ n) (h2 : r.length ≤ n) (h3 : t ≤ 400) (h4 : -(n : Int) - 400 ≤ t) : MagBd n (pFin d t r) := by
  rintro a b r' h
  unfold pFin at h
  injection h with h
  injection h with e1 h
  injection h with e2 e3
  subst e1 e2 e3
  refine ⟨?_, ?_, h2⟩
  · have h5 := dval_lt hd
    obtain ⟨E, hE⟩ : ∃ E : Nat, E = 400 := ⟨_, rfl⟩
    have h6 : (10 : Nat) ^ t.toNat ≤ 10 ^ E := Nat.pow_le_pow_right (by omega) (by omega)
    have h7 : (10 : Nat) ^ d.length ≤ 10 ^ n := Nat.pow_le_pow_right (by omega) h1
    have h8 : dval d * 10 ^ t.toNat < 10 ^ n * 10 ^ E := by
      have h9 : dval d < 10 ^ n := Nat.lt_of_lt_of_le h5 h7
      exact Nat.lt_of_le_of_lt (Nat.mul_le_mul_left _ h6) ((Nat.mul_lt_mul_right (Nat.pow_pos (by omega))).2 h9)
    rw [← Nat.pow_add] at h8
    exact Nat.lt_of_lt_of_le h8 (Nat.pow_le_pow_right (by omega) (by omega))
  · exact Nat.pow_lt_pow_right (by omega) (by omega)
theorem pTail_bd {d r : List UInt8} {t : Int} {n : Nat} (hd : ∀ c ∈ d, dgt c = true) (h1 : d.length ≤ n) (h2 : r.length ≤ n) (h3 : t ≤ 0) (h4 : -(n : Int) ≤ t) : MagBd n (pTail d t r) := by
  unfold pTail
  split
  · next h5 =>
    split
    · next h6 =>
      have := exp_bd h6
      have h7 := expR_len r.tail
      have := hd_len h5
      exact pFin_bd hd h1 (by omega) (by omega) (by omega)
    · rintro a b r' h; cases h
  · exact pFin_bd hd h1 h2 (by omega) (by omega)
theorem pMag_bd (l : List UInt8) : MagBd l.length (pMag l) := by
  have e1 := digs_len l
  unfold pMag
  split
  · split
    · next h47 =>
      have e2 := hd_len h47
      have e3 := digs_len (past l).tail
      split
      · rintro a b r h
        injection h with h
        injection h with x1 h
        injection h with x2 x3
        subst x1 x2 x3
        have b1 := dval_lt (l := digs l) digs_mem
        have b2 := dval_lt (l := digs (past l).tail) digs_mem
        exact ⟨Nat.lt_of_lt_of_le b1 (Nat.pow_le_pow_right (by omega) (by omega)), Nat.lt_of_lt_of_le b2 (Nat.pow_le_pow_right (by omega) (by omega)), by omega⟩
      · rintro a b r h; cases h
    · split
      · next h46 =>
        have e2 := hd_len h46
        have e3 := digs_len (past l).tail
        split
        · rintro a b r h; cases h
        · refine pTail_bd (fun c hc => ?_) (by rw [List.length_append]; omega) (by omega) (by omega) (by omega)
          rcases List.mem_append.1 hc with h | h
          · exact digs_mem c h
          · exact digs_mem c h
      · exact pTail_bd digs_mem (by omega) (by omega) (by omega) (by omega)
  · rintro a b r h; cases h
theorem pNum_bd {l : List UInt8} {ps : List Pt} (h : pNum l = some ps) : (ps.length = 1 ∨ ps.length = 2) ∧ ∀ p ∈ ps, p.a < 10 ^ (l.length + 401) ∧ p.b < 10 ^ (l.length + 401) := by
  have hl := off_len 45 l
  have mono : ∀ n, n ≤ l.length → (10 : Nat) ^ (n + 401) ≤ 10 ^ (l.length + 401) := fun n hn => Nat.pow_le_pow_right (by omega) (by omega)
  unfold pNum at h
  rcases h1 : pMag (off 45 l) with _ | ⟨a, b, r⟩
  · rw [h1] at h; cases h
  · rw [h1] at h
    obtain ⟨b1, b2, b3⟩ := pMag_bd _ _ _ _ h1
    have m1 := mono _ hl
    simp only at h
    split at h
    · split at h
      · injection h with h
        subst h
        exact ⟨.inl rfl, fun p hp => by rw [List.mem_singleton.1 hp]; exact ⟨by show a < _; omega, by show b < _; omega⟩⟩
      · cases h
    · split at h
      · injection h with h
        subst h
        exact ⟨.inl rfl, fun p hp => by rw [List.mem_singleton.1 hp]; exact ⟨by show a < _; omega, by show b < _; omega⟩⟩
      · split at h
        · rcases h2 : pMag r.tail with _ | ⟨a2, b2, r2⟩
          · rw [h2] at h; cases h
          · rw [h2] at h
            obtain ⟨c1, c2, c3⟩ := pMag_bd _ _ _ _ h2
            have hrt : r.tail.length ≤ r.length := by simp
            have m2 := mono r.tail.length (by omega)
            simp only at h
            split at h
            · injection h with h
              subst h
              refine ⟨.inr rfl, fun p hp => ?_⟩
              rcases List.mem_cons.1 hp with rfl | hp
              · exact ⟨by show a < _; omega, by show b < _; omega⟩
              · rw [List.mem_singleton.1 hp]; exact ⟨by show a2 < _; omega, by show b2 < _; omega⟩
            · cases h
        · cases h
end Go.Proofs.YtphlmmjlpbledaaGreatDoor
