import Derived.Test.YtphlmmjlpbledaaGreatDoorH01
import Derived.Test.YtphlmmjlpbledaaGreatDoorH31
set_option linter.unusedSimpArgs false
set_option linter.unusedVariables false
namespace Go.Proofs.YtphlmmjlpbledaaGreatDoor
def bts (l : List Int) : List UInt8 := l.map fun n => UInt8.ofNat n.toNat
theorem bts_app (l m : List Int) : bts (l ++ m) = bts l ++ bts m := by simp [bts]
theorem dec_small {x : Nat} (h : x < 10) : dec x = [((48 + x : Nat) : Int)] := by
  unfold dec nd
  rw [if_pos h]
  simp
  omega
theorem dec_step {x : Nat} (h : ¬ x < 10) : dec x = dec (x / 10) ++ [((48 + x % 10 : Nat) : Int)] := by
  have hn : nd x = nd (x / 10) + 1 := by
    rw [nd, if_neg h]
  have hm := (nd_spec (x / 10) (by omega)).1
  unfold dec
  rw [hn, List.range_succ, List.map_append]
  congr 1
  · apply List.map_congr_left
    intro i hi
    have hi := List.mem_range.1 hi
    congr 3
    rw [show nd (x / 10) + 1 - 1 - i = (nd (x / 10) - 1 - i) + 1 by omega, Nat.pow_succ, Nat.mul_comm, ← Nat.div_div_eq_div_mul]
  · simp
def bd (x : Nat) : List UInt8 := bts (dec x)
theorem bd_small {x : Nat} (h : x < 10) : bd x = [UInt8.ofNat (48 + x)] := by
  unfold bd; rw [dec_small h]; rfl
theorem bd_step {x : Nat} (h : ¬ x < 10) : bd x = bd (x / 10) ++ [UInt8.ofNat (48 + x % 10)] := by
  unfold bd; rw [dec_step h, bts_app]; rfl
theorem ofNat48 {k : Nat} (h : k < 10) : (UInt8.ofNat (48 + k)).toNat = 48 + k := by simp; omega
theorem dgt48 {k : Nat} (h : k < 10) : dgt (UInt8.ofNat (48 + k)) = true := by
  unfold dgt; rw [ofNat48 h]; simp; omega
theorem bd_digits (x : Nat) : ∀ c ∈ bd x, dgt c = true := by
  induction x using Nat.strongRecOn with
  | _ x ih =>
    by_cases h : x < 10
    · rw [bd_small h]
      intro c hc
      rw [List.mem_singleton.1 hc]
      exact dgt48 h
    · rw [bd_step h]
      intro c hc
      rcases List.mem_append.1 hc with h1 | h1
      · exact ih _ (by omega) c h1
      · rw [List.mem_singleton.1 h1]; exact dgt48 (by omega)
theorem bd_val (x : Nat) : dval (bd x) = x := by
  induction x using Nat.strongRecOn with
  | _ x ih =>
    by_cases h : x < 10
    · rw [bd_small h]
      show 10 * 0 + ((UInt8.ofNat (48 + x)).toNat - 48) = x
      rw [ofNat48 h]; omega
    · rw [bd_step h]
      have := ih (x / 10) (by omega)
      unfold dval at this ⊢
      rw [dvalF_snoc, this, ofNat48 (by omega)]
      omega
theorem bd_head {x : Nat} (h0 : 0 < x) : ∃ c t, bd x = c :: t ∧ c ≠ 48 ∧ dgt c = true := by
  induction x using Nat.strongRecOn with
  | _ x ih =>
    by_cases h : x < 10
    · refine ⟨_, [], bd_small h, fun e => ?_, dgt48 h⟩
      have := congrArg UInt8.toNat e
      rw [ofNat48 h] at this
      simp at this
      omega
    · obtain ⟨c, t, e, hc, hd⟩ := ih (x / 10) (by omega) (by omega)
      exact ⟨c, t ++ [UInt8.ofNat (48 + x % 10)], by rw [bd_step h, e]; rfl, hc, hd⟩
theorem bd_zero : bd 0 = [48] := by rw [bd_small (by omega)]; rfl
theorem bd_ok (x : Nat) : okW (bd x) = true := by
  rcases Nat.eq_zero_or_pos x with h | h
  · subst h; rw [bd_zero]; rfl
  · obtain ⟨c, t, e, hc, -⟩ := bd_head h
    rw [e]
    simp [okW, hc]
theorem bd_cons (x : Nat) : ∃ c t, bd x = c :: t ∧ dgt c = true := by
  rcases Nat.eq_zero_or_pos x with h | h
  · subst h; exact ⟨48, [], bd_zero, rfl⟩
  · obtain ⟨c, t, e, -, hd⟩ := bd_head h
    exact ⟨c, t, e, hd⟩
def Stop (r : List UInt8) : Prop := r = [] ∨ ∃ c t, r = c :: t ∧ (c = 43 ∨ c = 45 ∨ c = 105)
theorem Stop.head {r : List UInt8} (h : Stop r) : (∀ c ∈ r.head?, dgt c = false) ∧ isHd 47 r = false ∧ isHd 46 r = false ∧ isHd 101 r = false := by
  rcases h with rfl | ⟨c, t, rfl, hc⟩
  · simp [isHd]
  · rcases hc with rfl | rfl | rfl <;> simp [isHd, dgt]
def mt (a d : Nat) : List UInt8 := bd a ++ if d = 1 then [] else 47 :: bd d
theorem pMag_mt (a d : Nat) (r : List UInt8) (h : Stop r) : pMag (mt a d ++ r) = some (a, d, r) := by
  obtain ⟨h1, h2, h3, h4⟩ := h.head
  by_cases hd : d = 1
  · subst hd
    have e : mt a 1 ++ r = bd a ++ r := by simp [mt]
    obtain ⟨e1, e2⟩ := digs_app (bd_digits a) h1
    have hT : pTail (bd a) 0 r = some (a, 1, r) := by simp [pTail, h4, pFin, bd_val]
    rw [e, pMag, e1, e2, if_pos (bd_ok a), h2, h3]
    simpa using hT
  · have e : mt a d ++ r = bd a ++ 47 :: (bd d ++ r) := by simp [mt, hd]
    have h47 : ∀ c ∈ (47 :: (bd d ++ r)).head?, dgt c = false := by
      intro c hc
      simp at hc
      rw [← hc]; rfl
    obtain ⟨e1, e2⟩ := digs_app (bd_digits a) h47
    obtain ⟨e3, e4⟩ := digs_app (bd_digits d) h1
    rw [e, pMag, e1, e2, if_pos (bd_ok a), isHd_self, if_pos rfl, List.tail_cons, e3, e4, if_pos (bd_ok d), bd_val, bd_val]
theorem mt_head (a d : Nat) (r : List UInt8) (b : UInt8) (hb : dgt b = false) : isHd b (mt a d ++ r) = false := by
  obtain ⟨c, t, e, hd⟩ := bd_cons a
  have : mt a d ++ r = c :: (t ++ ((if d = 1 then [] else 47 :: bd d) ++ r)) := by simp [mt, e]
  rw [this]
  refine isHd_ne (fun h => ?_) _
  rw [h, hb] at hd
  cases hd
def st (p : Rat) : List UInt8 := (if p.num < 0 then [45] else []) ++ mt p.num.natAbs p.den
theorem st_off (p : Rat) (r : List UInt8) : isHd 45 (st p ++ r) = decide (p.num < 0) ∧ off 45 (st p ++ r) = mt p.num.natAbs p.den ++ r := by
  unfold st
  by_cases h : p.num < 0
  · rw [if_pos h]
    simp [isHd, off, h]
  · rw [if_neg h, List.nil_append]
    have := mt_head p.num.natAbs p.den r 45 rfl
    rw [off_neg this, this]
    simp [h]
theorem rat_parts (p : Rat) : (if decide (p.num < 0) = true then -((p.num.natAbs : Nat) : Rat) else ((p.num.natAbs : Nat) : Rat)) / ((p.den : Nat) : Rat) = p := by
  have h := Rat.mkRat_self p
  rw [Rat.mkRat_eq_div] at h
  have e : (if decide (p.num < 0) = true then -((p.num.natAbs : Nat) : Rat) else ((p.num.natAbs : Nat) : Rat)) = (p.num : Rat) := by
    by_cases hn : p.num < 0
    · rw [if_pos (by simpa using hn), ← Rat.intCast_natCast, ← Rat.intCast_neg]
      congr 1
      omega
    · rw [if_neg (by simpa using hn), ← Rat.intCast_natCast]
      congr 1
      omega
  rw [e]
  exact h
theorem ptV_re (p : Rat) : ptV ⟨p.num.natAbs, p.den, decide (p.num < 0), false⟩ = ⟨p, 0⟩ := by
  show (⟨_, 0⟩ : Cx) = _
  exact Cx.ext (rat_parts p) rfl
theorem ptV_im (p : Rat) : ptV ⟨p.num.natAbs, p.den, decide (p.num < 0), true⟩ = ⟨0, p⟩ := by
  show (⟨0, _⟩ : Cx) = _
  exact Cx.ext rfl (rat_parts p)
def ct (x : Cx) : List UInt8 := if x.im = 0 then st x.re else if x.re = 0 then st x.im ++ [105] else if x.im < 0 then st x.re ++ st x.im ++ [105] else st x.re ++ [43] ++ st x.im ++ [105]
theorem num_neg (p : Rat) : p < 0 ↔ p.num < 0 := by
  rw [← Rat.not_le, ← Rat.num_nonneg]
  omega
theorem stop_nil : Stop [] := .inl rfl
theorem stop_i (t : List UInt8) : Stop (105 :: t) := .inr ⟨_, _, rfl, .inr (.inr rfl)⟩
theorem pNum_ct (x : Cx) : ∃ ps, pNum (ct x) = some ps ∧ hasZero ps = false ∧ sumV ps = x := by
  have hzr : decide (x.re.den = 0) = false := by simp [x.re.den_nz]
  have hzi : decide (x.im.den = 0) = false := by simp [x.im.den_nz]
  unfold ct
  by_cases hi : x.im = 0
  · rw [if_pos hi]
    obtain ⟨o1, o2⟩ := st_off x.re []
    rw [List.append_nil] at o1 o2
    refine ⟨[⟨x.re.num.natAbs, x.re.den, decide (x.re.num < 0), false⟩], ?_, by simp [hasZero, x.re.den_nz], ?_⟩
    · unfold pNum
      rw [o2, pMag_mt _ _ _ stop_nil, o1]
      simp [isHd]
    · simp only [sumV, List.foldl_cons, List.foldl_nil, ptV_re]
      exact Cx.ext (by simp [Cx.add, Cx.zero, Rat.zero_add, Rat.add_zero]) (by simp [Cx.add, Cx.zero, hi, Rat.zero_add, Rat.add_zero])
  rw [if_neg hi]
  by_cases hr : x.re = 0
  · rw [if_pos hr]
    obtain ⟨o1, o2⟩ := st_off x.im [105]
    refine ⟨[⟨x.im.num.natAbs, x.im.den, decide (x.im.num < 0), true⟩], ?_, by simp [hasZero, x.im.den_nz], ?_⟩
    · unfold pNum
      rw [o2, pMag_mt _ _ _ (stop_i _), o1]
      simp [isHd]
    · simp only [sumV, List.foldl_cons, List.foldl_nil, ptV_im]
      exact Cx.ext (by simp [Cx.add, Cx.zero, hr, Rat.zero_add, Rat.add_zero]) (by simp [Cx.add, Cx.zero, Rat.zero_add, Rat.add_zero])
  rw [if_neg hr]
  have hfin : sumV [⟨x.re.num.natAbs, x.re.den, decide (x.re.num < 0), false⟩, ⟨x.im.num.natAbs, x.im.den, decide (x.im.num < 0), true⟩] = x := by
    simp only [sumV, List.foldl_cons, List.foldl_nil, ptV_im, ptV_re]
    exact Cx.ext (by simp [Cx.add, Cx.zero, Rat.zero_add, Rat.add_zero]) (by simp [Cx.add, Cx.zero, Rat.zero_add, Rat.add_zero])
  refine ⟨[⟨x.re.num.natAbs, x.re.den, decide (x.re.num < 0), false⟩, ⟨x.im.num.natAbs, x.im.den, decide (x.im.num < 0), true⟩], ?_, by simp [hasZero, x.re.den_nz, x.im.den_nz], hfin⟩
  clear hfin
  by_cases hn : x.im < 0
  · rw [if_pos hn, List.append_assoc]
    have hnn := (num_neg x.im).1 hn
    have e : st x.im ++ [105] = 45 :: (mt x.im.num.natAbs x.im.den ++ [105]) := by simp [st, hnn]
    obtain ⟨o1, o2⟩ := st_off x.re (st x.im ++ [105])
    unfold pNum
    rw [o2, pMag_mt _ _ _ (by rw [e]; exact .inr ⟨_, _, rfl, .inr (.inl rfl)⟩), o1, e]
    simp only [isHd_ne (show (45 : UInt8) ≠ 105 by decide), isHd_self, List.tail_cons, pMag_mt _ _ _ (stop_i [])]
    simp [hnn]
  · rw [if_neg hn, List.append_assoc, List.append_assoc]
    have hnn : ¬ x.im.num < 0 := fun h => hn ((num_neg x.im).2 h)
    have e : [43] ++ (st x.im ++ [105]) = 43 :: (mt x.im.num.natAbs x.im.den ++ [105]) := by simp [st, hnn]
    obtain ⟨o1, o2⟩ := st_off x.re ([43] ++ (st x.im ++ [105]))
    unfold pNum
    rw [o2, pMag_mt _ _ _ (by rw [e]; exact .inr ⟨_, _, rfl, .inl rfl⟩), o1, e]
    simp only [isHd_ne (show (43 : UInt8) ≠ 105 by decide), isHd_ne (show (43 : UInt8) ≠ 45 by decide), isHd_self, List.tail_cons, pMag_mt _ _ _ (stop_i [])]
    simp [hnn]
theorem pErr_ct {x : Cx} (h : (ct x).length ≤ 4096) : pErr (ct x) = 0 ∧ pVal (ct x) = x := by
  obtain ⟨ps, h1, h2, h3⟩ := pNum_ct x
  unfold pErr pVal
  rw [if_neg (by omega), if_neg (by omega), h1]
  simp only [h2]
  exact ⟨rfl, h3⟩
end Go.Proofs.YtphlmmjlpbledaaGreatDoor
