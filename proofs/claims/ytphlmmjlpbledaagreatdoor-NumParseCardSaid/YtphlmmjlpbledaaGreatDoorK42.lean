import Derived.Test.YtphlmmjlpbledaaGreatDoorK33
import Derived.Test.YtphlmmjlpbledaaGreatDoorK38
set_option linter.unusedSimpArgs false
set_option linter.unusedVariables false
namespace Go.Proofs.YtphlmmjlpbledaaGreatDoor
def rW (l : List UInt8) : Nat := if 1 < (digs l).length && isHd 48 l then 1 else (digs l).length
def rE (l : List UInt8) : Option (Bool × Nat × Nat) :=
  if rW (off 45 l) = 0 ∨ 3 < rW (off 45 l) then none
  else if 400 < dval ((off 45 l).take (rW (off 45 l))) then none
  else some (isHd 45 l, dval ((off 45 l).take (rW (off 45 l))), (if isHd 45 l then 1 else 0) + rW (off 45 l))
def rT (a d n : Nat) (r : List UInt8) : Option (Nat × Nat × Nat) :=
  if isHd 101 r then (match rE r.tail with
    | none => none
    | some (dn, e, k) => some (if dn then a else a * 10 ^ e, if dn then d * 10 ^ e else d, n + 1 + k))
  else some (a, d, n)
def rM (l : List UInt8) : Option (Nat × Nat × Nat) :=
  if rW l = 0 then none
  else if isHd 47 (l.drop (rW l)) then
    (if rW (l.drop (rW l)).tail = 0 then none else some (dval (l.take (rW l)), dval ((l.drop (rW l)).tail.take (rW (l.drop (rW l)).tail)), rW l + 1 + rW (l.drop (rW l)).tail))
  else if isHd 46 (l.drop (rW l)) then
    (if (digs (l.drop (rW l)).tail).length = 0 then none
     else rT (dval (l.take (rW l) ++ (l.drop (rW l)).tail.take (digs (l.drop (rW l)).tail).length)) (10 ^ (digs (l.drop (rW l)).tail).length) (rW l + 1 + (digs (l.drop (rW l)).tail).length) ((l.drop (rW l)).tail.drop (digs (l.drop (rW l)).tail).length))
  else rT (dval (l.take (rW l))) 1 (rW l) (l.drop (rW l))
theorem take_digs (l : List UInt8) : l.take (digs l).length = digs l ∧ l.drop (digs l).length = past l := by
  have e1 : (digs l ++ past l).take (digs l).length = digs l := List.take_left' rfl
  have e2 : (digs l ++ past l).drop (digs l).length = past l := List.drop_left' rfl
  rw [digs_past l] at e1 e2
  exact ⟨e1, e2⟩
theorem pos_iff {a b : Nat} (h : 0 < a) (k : 0 < b) : (a = 0 ↔ b = 0) := by omega
theorem rW_cases (l : List UInt8) : (okW (digs l) = true ∧ 0 < rW l ∧ rW l = (digs l).length) ∨ (okW (digs l) = false ∧ rW l = 0) ∨ (okW (digs l) = false ∧ rW l = 1 ∧ ∃ c t, l.drop 1 = c :: t ∧ dgt c = true ∧ 1 < l.length) := by
  have hp := digs_past l
  have hm := digs_mem (l := l)
  unfold rW
  rcases hd : digs l with _ | ⟨c, _ | ⟨x, t⟩⟩
  · exact .inr (.inl ⟨rfl, rfl⟩)
  · refine .inl ⟨?_, by simp, by simp⟩
    by_cases h : c = 48
    · subst h; rfl
    · simp [okW, h]
  · rw [hd] at hp hm
    have hl : l = c :: x :: (t ++ past l) := hp.symm
    by_cases h : c = 48
    · refine .inr (.inr ⟨by subst h; rfl, ?_, x, t ++ past l, congrArg (List.drop 1) hl, hm x (by simp), by rw [hl]; simp⟩)
      rw [hl, h]
      simp [isHd]
    · refine .inl ⟨by simp [okW, h], ?_, ?_⟩
      · rw [hl]; simp [isHd, h]
      · rw [hl]; simp [isHd, h]
theorem rW_le (l : List UInt8) : rW l ≤ l.length := by
  have := digs_len l
  unfold rW
  split
  · next h => simp at h; omega
  · omega
theorem hd_digit {b c : UInt8} {t l : List UInt8} (h : l = c :: t) (hc : dgt c = true) (hb : dgt b = false) : isHd b l = false := by
  rw [h]
  exact isHd_ne (fun e => by rw [e, hb] at hc; cases hc) t
def RelM (l : List UInt8) (p : Option (Nat × Nat × List UInt8)) (o : Option (Nat × Nat × Nat)) : Prop :=
  match p with
  | some (a, b, r) => ∃ a' b' n, o = some (a', b', n) ∧ 0 < n ∧ n ≤ l.length ∧ l.drop n = r ∧ (b' = 0 ↔ b = 0) ∧ a' * b = a * b'
  | none => o = none ∨ ∃ a' b' n c t, o = some (a', b', n) ∧ 0 < n ∧ n ≤ l.length ∧ l.drop n = c :: t ∧ dgt c = true
theorem hd_cons {b : UInt8} {l : List UInt8} (h : isHd b l = true) : l = b :: l.tail := by
  cases l with
  | nil => simp [isHd] at h
  | cons c l => simp [isHd] at h; simp [h]
theorem pow_split {k e : Nat} : (10 : Nat) ^ (-(k : Int) + (e : Int)).toNat * 10 ^ k = 10 ^ e * 10 ^ (-(-(k : Int) + (e : Int))).toNat := by
  rw [← Nat.pow_add, ← Nat.pow_add]
  congr 1
  omega
theorem pow_split' {k e : Nat} : (10 : Nat) ^ (-(k : Int) + -(e : Int)).toNat * (10 ^ k * 10 ^ e) = 10 ^ (-(-(k : Int) + -(e : Int))).toNat := by
  rw [← Nat.pow_add, ← Nat.pow_add]
  congr 1
  omega
theorem tail_rel {l d r : List UInt8} {k n : Nat} (hn : 0 < n) (hn2 : n ≤ l.length) (hr : l.drop n = r) : RelM l (pTail d (-(k : Int)) r) (rT (dval d) (10 ^ k) n r) := by
  unfold pTail rT
  rcases h101 : isHd 101 r with _ | _
  · simp only [Bool.false_eq_true, if_false]
    refine ⟨_, _, _, rfl, hn, hn2, hr, ?_, ?_⟩
    · simp
    · rw [show (-(-(k : Int))).toNat = k by omega, show (-(k : Int)).toNat = 0 by omega, Nat.pow_zero, Nat.mul_one]
  · simp only [if_true]
    have hc := hd_cons h101
    have hlen := hd_len h101
    have hdl : l.drop (n + 1) = r.tail := by
      rw [← List.drop_drop, hr, hc]; rfl
    have hrl : r.length = l.length - n := by rw [← hr, List.length_drop]
    have hol := off_len 45 r.tail
    have hw := rW_le (off 45 r.tail)
    have hod : l.drop (n + 1 + (if isHd 45 r.tail then 1 else 0)) = off 45 r.tail := by
      rw [← List.drop_drop, hdl]
      unfold off
      split
      · rw [List.drop_one]
      · rw [List.drop_zero]
    have hofl : (off 45 r.tail).length + (if isHd 45 r.tail then 1 else 0) = r.tail.length := by
      unfold off
      split
      · next h => have := hd_len h; omega
      · rfl
    rcases rW_cases (off 45 r.tail) with ⟨h1, h2, h3⟩ | ⟨h1, h2⟩ | ⟨h1, h2, c, t, h4, h5, h6⟩
    · have ht := take_digs (off 45 r.tail)
      by_cases hg : pExpOk r.tail = true
      · rw [if_pos hg]
        have hg2 := hg
        unfold pExpOk at hg2
        rw [h1] at hg2
        simp only [Bool.true_and, Bool.and_eq_true, decide_eq_true_eq] at hg2
        have hE : rE r.tail = some (isHd 45 r.tail, dval (digs (off 45 r.tail)), (if isHd 45 r.tail then 1 else 0) + (digs (off 45 r.tail)).length) := by
          unfold rE
          rw [h3, ht.1, if_neg (by omega), if_neg (by omega)]
        rw [hE]
        simp only
        have hfin : l.drop (n + 1 + ((if isHd 45 r.tail then 1 else 0) + (digs (off 45 r.tail)).length)) = pExpR r.tail := by
          rw [← Nat.add_assoc, ← List.drop_drop, hod, ht.2]
          rfl
        refine ⟨_, _, _, rfl, by omega, by omega, hfin, ?_, ?_⟩
        · refine pos_iff ?_ (Nat.pow_pos (by omega))
          split
          · exact Nat.mul_pos (Nat.pow_pos (by omega)) (Nat.pow_pos (by omega))
          · exact Nat.pow_pos (by omega)
        · unfold pExpV
          generalize dval (digs (off 45 r.tail)) = e
          generalize dval d = a
          split
          · have := pow_split' (k := k) (e := e)
            rw [Nat.mul_assoc, this]
          · have := pow_split (k := k) (e := e)
            rw [Nat.mul_assoc, ← this, Nat.mul_assoc]
      · rw [if_neg hg]
        left
        have hE : rE r.tail = none := by
          unfold rE
          rw [h3, ht.1]
          unfold pExpOk at hg
          rw [h1] at hg
          simp only [Bool.true_and, Bool.and_eq_true, decide_eq_true_eq] at hg
          split
          · rfl
          · next h => rw [if_pos (by omega)]
        rw [hE]
    · have hg : ¬ pExpOk r.tail = true := by simp [pExpOk, h1]
      rw [if_neg hg]
      left
      have hE : rE r.tail = none := by unfold rE; rw [if_pos (.inl h2)]
      rw [hE]
    · have hg : ¬ pExpOk r.tail = true := by simp [pExpOk, h1]
      rw [if_neg hg]
      right
      have hE : ∃ e, rE r.tail = some (isHd 45 r.tail, e, (if isHd 45 r.tail then 1 else 0) + 1) := by
        unfold rE
        rw [h2, if_neg (by omega)]
        have hz : dval ((off 45 r.tail).take 1) ≤ 9 := by
          have hd1 : ∀ c ∈ (off 45 r.tail).take 1, dgt c = true := by
            intro x hx
            have hdg : (off 45 r.tail).take 1 = (digs (off 45 r.tail)).take 1 := by
              conv => lhs; rw [← digs_past (off 45 r.tail)]
              have hl1 : 1 ≤ (digs (off 45 r.tail)).length := by
                have := h2
                unfold rW at this
                split at this
                · next h => simp at h; omega
                · omega
              rw [List.take_append_of_le_length hl1]
            rw [hdg] at hx
            exact digs_mem x (List.mem_of_mem_take hx)
          have := dval_lt hd1
          have hle : ((off 45 r.tail).take 1).length ≤ 1 := by rw [List.length_take]; omega
          have : (10 : Nat) ^ ((off 45 r.tail).take 1).length ≤ 10 ^ 1 := Nat.pow_le_pow_right (by omega) hle
          omega
        rw [if_neg (by omega)]
        exact ⟨_, rfl⟩
      obtain ⟨e, hE⟩ := hE
      rw [hE]
      simp only
      refine ⟨_, _, _, c, t, rfl, by omega, by omega, ?_, h5⟩
      rw [← Nat.add_assoc, ← List.drop_drop, hod, h4]
theorem rM_rel (l : List UInt8) : RelM l (pMag l) (rM l) := by
  unfold pMag rM
  rcases rW_cases l with ⟨h1, h2, h3⟩ | ⟨h1, h2⟩ | ⟨h1, h2, c, t, h4, h5, h6⟩
  · rw [if_pos h1, if_neg (show ¬ rW l = 0 by omega), h3]
    obtain ⟨t1, t2⟩ := take_digs l
    rw [t1, t2]
    have hlen := digs_len l
    rcases h47 : isHd 47 (past l) with _ | _
    · simp only [Bool.false_eq_true, if_false]
      rcases h46 : isHd 46 (past l) with _ | _
      · simp only [Bool.false_eq_true, if_false]
        have := tail_rel (l := l) (d := digs l) (r := past l) (k := 0) (n := (digs l).length) (by omega) (by omega) t2
        simpa using this
      · simp only [if_true]
        have hc := hd_cons h46
        have hl2 := hd_len h46
        obtain ⟨t3, t4⟩ := take_digs (past l).tail
        rw [t3, t4]
        have hlen2 := digs_len (past l).tail
        by_cases he : digs (past l).tail = []
        · rw [if_pos he, if_pos (show (digs (past l).tail).length = 0 by rw [he]; rfl)]
          exact .inl rfl
        · rw [if_neg he, if_neg (show ¬ (digs (past l).tail).length = 0 from fun h => he (List.length_eq_zero_iff.1 h))]
          refine tail_rel (by omega) (by omega) ?_
          rw [← List.drop_drop, ← List.drop_drop, t2, List.drop_one, t4]
    · simp only [if_true]
      have hc := hd_cons h47
      have hl2 := hd_len h47
      have hw := rW_le (past l).tail
      have hdr : ∀ k, l.drop ((digs l).length + 1 + k) = (past l).tail.drop k := fun k => by rw [← List.drop_drop, ← List.drop_drop, t2, List.drop_one]
      rcases rW_cases (past l).tail with ⟨g1, g2, g3⟩ | ⟨g1, g2⟩ | ⟨g1, g2, c, t, g4, g5, g6⟩
      · obtain ⟨t3, t4⟩ := take_digs (past l).tail
        rw [if_pos g1, if_neg (show ¬ rW (past l).tail = 0 by omega), g3, t3]
        exact ⟨_, _, _, rfl, by omega, by omega, by rw [hdr, t4], Iff.rfl, rfl⟩
      · rw [g1, g2]
        simp only [Bool.false_eq_true, if_false, if_true]
        exact .inl rfl
      · rw [g1, g2]
        simp only [Bool.false_eq_true, if_false]
        rw [if_neg (by omega)]
        exact .inr ⟨_, _, _, c, t, rfl, by omega, by omega, by rw [hdr, g4], g5⟩
  · rw [h1, h2]
    simp only [Bool.false_eq_true, if_false, if_true]
    exact .inl rfl
  · rw [h1, h2, hd_digit h4 h5 rfl, hd_digit h4 h5 rfl]
    simp only [Bool.false_eq_true, if_false]
    rw [if_neg (by omega)]
    unfold rT
    rw [hd_digit h4 h5 rfl]
    exact .inr ⟨_, _, _, c, t, rfl, by omega, by omega, h4, h5⟩
theorem ptV_cross {a b a' b' : Nat} (hb : 0 < b) (hb' : 0 < b') (h : a' * b = a * b') (ng im : Bool) : ptV ⟨a', b', ng, im⟩ = ptV ⟨a, b, ng, im⟩ := by
  have h1 := natCast_ne hb
  have h2 := natCast_ne hb'
  have e : (a' : Rat) / (b' : Rat) = (a : Rat) / (b : Rat) := by
    have h3 : (a' : Rat) * (b : Rat) = (a : Rat) * (b' : Rat) := by
      rw [← Rat.natCast_mul, ← Rat.natCast_mul, h]
    grind
  have e2 : -(a' : Rat) / (b' : Rat) = -(a : Rat) / (b : Rat) := by grind
  unfold ptV
  cases ng <;> cases im <;> simp [e, e2]
theorem sumV_one (p : Pt) : sumV [p] = ptV p := by
  show Cx.zero.add (ptV p) = ptV p
  exact Cx.ext (by simp [Cx.add, Cx.zero, Rat.zero_add]) (by simp [Cx.add, Cx.zero, Rat.zero_add])
theorem sumV_two (p q : Pt) : sumV [p, q] = (ptV p).add (ptV q) := by
  show (Cx.zero.add (ptV p)).add (ptV q) = _
  have : Cx.zero.add (ptV p) = ptV p := sumV_one p
  rw [this]
def RBd (n : Nat) (o : Option (Nat × Nat × Nat)) : Prop := ∀ a d k, o = some (a, d, k) → a < 10 ^ (n + 401) ∧ d < 10 ^ (n + 401)
theorem rT_bd {a d n N : Nat} {r : List UInt8} (ha : a < 10 ^ N) (hd : d ≤ 10 ^ N) : RBd N (rT a d n r) := by
  have up : ∀ x e, x < 10 ^ N → e ≤ 400 → x * 10 ^ e < 10 ^ (N + 401) := fun x e hx he => by
    obtain ⟨E, hE⟩ : ∃ E : Nat, E = 400 := ⟨_, rfl⟩
    have h1 : x * 10 ^ e ≤ x * 10 ^ E := Nat.mul_le_mul_left _ (Nat.pow_le_pow_right (by omega) (by omega))
    have h2 : x * 10 ^ E < 10 ^ N * 10 ^ E := (Nat.mul_lt_mul_right (Nat.pow_pos (by omega))).2 hx
    rw [← Nat.pow_add] at h2
    have h3 : (10 : Nat) ^ (N + E) ≤ 10 ^ (N + 401) := Nat.pow_le_pow_right (by omega) (by omega)
    omega
  have up2 : ∀ x e, x ≤ 10 ^ N → e ≤ 400 → x * 10 ^ e < 10 ^ (N + 401) := fun x e hx he => by
    obtain ⟨E, hE⟩ : ∃ E : Nat, E = 400 := ⟨_, rfl⟩
    have h1 : x * 10 ^ e ≤ 10 ^ N * 10 ^ E := Nat.mul_le_mul hx (Nat.pow_le_pow_right (by omega) (by omega))
    rw [← Nat.pow_add] at h1
    have h3 : (10 : Nat) ^ (N + E) < 10 ^ (N + 401) := Nat.pow_lt_pow_right (by omega) (by omega)
    omega
  have u0 := up a 0 ha (by omega)
  have u1 := up2 d 0 hd (by omega)
  rw [Nat.pow_zero, Nat.mul_one] at u0 u1
  intro a' d' k h
  unfold rT at h
  split at h
  · rcases he : rE r.tail with _ | ⟨dn, e, q⟩
    · rw [he] at h; cases h
    · rw [he] at h
      simp only at h
      injection h with h
      injection h with e1 h
      injection h with e2 h
      have he4 : e ≤ 400 := by
        unfold rE at he
        split at he
        · cases he
        · split at he
          · cases he
          · next h4 =>
            injection he with he
            injection he with _ he
            injection he with he _
            omega
      subst e1 e2
      cases dn
      · exact ⟨up a e ha he4, u1⟩
      · exact ⟨u0, up2 d e hd he4⟩
  · injection h with h
    injection h with e1 h
    injection h with e2 h
    subst e1 e2
    exact ⟨u0, u1⟩
theorem rW_dg (l : List UInt8) : ∀ c ∈ l.take (rW l), dgt c = true := by
  have h : rW l ≤ (digs l).length := by unfold rW; split <;> simp_all <;> omega
  intro c hc
  have : l.take (rW l) = (digs l).take (rW l) := by
    have e := List.take_append_of_le_length (l₂ := past l) h
    rwa [digs_past l] at e
  rw [this] at hc
  exact digs_mem c (List.mem_of_mem_take hc)
theorem dv_lt {l : List UInt8} {N : Nat} (h : ∀ c ∈ l, dgt c = true) (hn : l.length ≤ N) : dval l < 10 ^ N :=
  Nat.lt_of_lt_of_le (dval_lt h) (Nat.pow_le_pow_right (by omega) hn)
theorem rM_bd (l : List UInt8) : RBd l.length (rM l) := by
  have hw := rW_le l
  have hd := rW_dg l
  have h10 : ∀ n, (10 : Nat) ^ n < 10 ^ (n + 401) := fun n => Nat.pow_lt_pow_right (by omega) (by omega)
  have ha : dval (l.take (rW l)) < 10 ^ l.length := dv_lt hd (by rw [List.length_take]; omega)
  unfold rM
  split
  · intro a d k h; cases h
  · split
    · split
      · intro a d k h; cases h
      · intro a d k h
        injection h with h
        injection h with e1 h
        injection h with e2 h
        subst e1 e2
        have hb : dval ((l.drop (rW l)).tail.take (rW (l.drop (rW l)).tail)) < 10 ^ l.length := dv_lt (rW_dg _) (by rw [List.length_take, List.length_tail, List.length_drop]; omega)
        exact ⟨Nat.lt_trans ha (h10 _), Nat.lt_trans hb (h10 _)⟩
    · split
      · split
        · intro a d k h; cases h
        · have hdl := digs_len (l.drop (rW l)).tail
          have htl : (l.drop (rW l)).tail.length ≤ l.length - rW l := by rw [List.length_tail, List.length_drop]; omega
          refine rT_bd (dv_lt (fun c hc => ?_) (by rw [List.length_append, List.length_take, List.length_take]; omega)) (Nat.pow_le_pow_right (by omega) (by omega))
          rcases List.mem_append.1 hc with h | h
          · exact hd c h
          · rw [(take_digs _).1] at h
            exact digs_mem c h
      · exact rT_bd ha (Nat.one_le_pow _ _ (by omega))
end Go.Proofs.YtphlmmjlpbledaaGreatDoor
set_option linter.unusedSimpArgs false
set_option linter.unusedVariables false
namespace Go.Proofs.YtphlmmjlpbledaaGreatDoor
open Go.RowKit
def numOf (ng : Bool) (o : Option (Nat × Nat × List UInt8)) : Option (List Pt) := match o with
  | none => none
  | some (a, b, r) =>
    if isHd 105 r then (if r.tail = [] then some [⟨a, b, ng, true⟩] else none)
    else if r = [] then some [⟨a, b, ng, false⟩]
    else if isHd 45 r || isHd 43 r then
      match pMag r.tail with
      | none => none
      | some (a2, b2, r2) => if isHd 105 r2 && r2.tail.isEmpty then some [⟨a, b, ng, false⟩, ⟨a2, b2, isHd 45 r, true⟩] else none
    else none
theorem pNum_of (l : List UInt8) : pNum l = numOf (isHd 45 l) (pMag (off 45 l)) := rfl
theorem v_none {l : List UInt8} (hs : l.length ≤ 4096) (hp : pNum l = none) : pVal l = .zero ∧ pErr l = 2 := by
  unfold pVal pErr
  rw [if_neg (by omega), if_neg (by omega), hp]
  exact ⟨rfl, rfl⟩
theorem v_zero {l : List UInt8} {ps : List Pt} (hs : l.length ≤ 4096) (hp : pNum l = some ps) (hz : hasZero ps = true) : pVal l = .zero ∧ pErr l = 3 := by
  unfold pVal pErr
  rw [if_neg (by omega), if_neg (by omega), hp]
  simp only [hz]
  exact ⟨rfl, rfl⟩
theorem v_ok {l : List UInt8} {ps : List Pt} (hs : l.length ≤ 4096) (hp : pNum l = some ps) (hz : hasZero ps = false) : pVal l = sumV ps ∧ pErr l = 0 := by
  unfold pVal pErr
  rw [if_neg (by omega), if_neg (by omega), hp]
  simp only [hz]
  exact ⟨rfl, rfl⟩
theorem rel_none {l : List UInt8} {p : Option (Nat × Nat × List UInt8)} (h : RelM l p none) : p = none := by
  rcases p with _ | ⟨a, b, r⟩
  · rfl
  · obtain ⟨a', b', n, e, -⟩ := h; cases e
theorem rel_get {l r : List UInt8} {p : Option (Nat × Nat × List UInt8)} {a d n : Nat} (h : RelM l p (some (a, d, n))) (hr : l.drop n = r) :
    0 < n ∧ n ≤ l.length ∧ ((p = none ∧ ∃ c t, r = c :: t ∧ dgt c = true) ∨ ∃ a0 b0, p = some (a0, b0, r) ∧ (d = 0 ↔ b0 = 0) ∧ a * b0 = a0 * d) := by
  rcases p with _ | ⟨a0, b0, r0⟩
  · rcases h with h | ⟨a', b', n', c, t, e, h1, h2, h3, h4⟩
    · cases h
    · cases e; exact ⟨h1, h2, .inl ⟨rfl, c, t, hr.symm.trans h3, h4⟩⟩
  · obtain ⟨x, y, m, e, h1, h2, h3, h4, h5⟩ := h
    cases e
    exact ⟨h1, h2, .inr ⟨a0, b0, by rw [← hr, h3], h4, h5⟩⟩
theorem rel_pos {l : List UInt8} {p : Option (Nat × Nat × List UInt8)} {a d n : Nat} (h : RelM l p (some (a, d, n))) : 0 < n ∧ n ≤ l.length :=
  have := rel_get h rfl
  ⟨this.1, this.2.1⟩
theorem rel_fit {l r : List UInt8} {p : Option (Nat × Nat × List UInt8)} {a d n : Nat} (h : RelM l p (some (a, d, n))) (hr : l.drop n = r) (hc : ∀ c t, r = c :: t → dgt c = false) :
    ∃ a0 b0, p = some (a0, b0, r) ∧ (d = 0 ↔ b0 = 0) ∧ a * b0 = a0 * d := by
  rcases (rel_get h hr).2.2 with ⟨-, c, t, h1, h2⟩ | h1
  · rw [hc c t h1] at h2; cases h2
  · exact h1
theorem bd4 {l : List UInt8} {x : Nat} (hs : l.length ≤ 4096) (h : x < 10 ^ (l.length + 401)) : wl x ≤ 10000 := by have := wl_ten h; omega
theorem v_one {l : List UInt8} {a0 b0 a d : Nat} {ng im : Bool} (hs : l.length ≤ 4096) (hp : pNum l = some [⟨a0, b0, ng, im⟩]) (h4 : d = 0 ↔ b0 = 0) (h5 : a * b0 = a0 * d) :
    (d = 0 → pVal l = .zero ∧ pErr l = 3) ∧ (0 < d → pVal l = ptV ⟨a, d, ng, im⟩ ∧ pErr l = 0) := by
  refine ⟨fun h => v_zero hs hp (by simp [hasZero, h4.1 h]), fun h => ?_⟩
  have hb : 0 < b0 := by omega
  have := v_ok hs hp (by simp [hasZero]; omega)
  rw [this.1, this.2, sumV_one, ptV_cross hb h h5]
  exact ⟨rfl, rfl⟩
theorem v_two {l : List UInt8} {a0 b0 a d a2 b2 b e : Nat} {ng dn : Bool} (hs : l.length ≤ 4096) (hp : pNum l = some [⟨a0, b0, ng, false⟩, ⟨a2, b2, dn, true⟩]) (h4 : d = 0 ↔ b0 = 0) (h5 : a * b0 = a0 * d) (k4 : e = 0 ↔ b2 = 0) (k5 : b * b2 = a2 * e) :
    (d = 0 → pVal l = .zero ∧ pErr l = 3) ∧ (e = 0 → pVal l = .zero ∧ pErr l = 3) ∧ (0 < d → 0 < e → pVal l = (ptV ⟨a, d, ng, false⟩).add (ptV ⟨b, e, dn, true⟩) ∧ pErr l = 0) := by
  refine ⟨fun h => v_zero hs hp (by simp [hasZero, h4.1 h]), fun h => v_zero hs hp (by simp [hasZero, k4.1 h]), fun h h' => ?_⟩
  have hb : 0 < b0 := by omega
  have hb2 : 0 < b2 := by omega
  have := v_ok hs hp (by simp [hasZero]; omega)
  rw [this.1, this.2, sumV_two, ptV_cross hb h h5, ptV_cross hb2 h' k5]
  exact ⟨rfl, rfl⟩
theorem num_other {l t : List UInt8} {p : Option (Nat × Nat × List UInt8)} {a d n : Nat} {c : UInt8} {ng : Bool} (h : RelM l p (some (a, d, n))) (hr : l.drop n = c :: t) (h1 : c :: t ≠ [105]) (h2 : c ≠ 43) (h3 : c ≠ 45) : numOf ng p = none := by
  rcases (rel_get h hr).2.2 with ⟨e, -⟩ | ⟨a0, b0, e, -⟩
  · rw [e]; rfl
  · rw [e]
    by_cases h5 : c = 105
    · subst h5
      rcases t with _ | ⟨x, t⟩
      · exact absurd rfl h1
      · simp [numOf, isHd]
    · simp [numOf, isHd, h2, h3, h5]
theorem sg_dgt {c : UInt8} {t : List UInt8} (hc : c = 43 ∨ c = 45) : ∀ c' t', c :: t = c' :: t' → dgt c' = false := by
  rintro c' t' e
  injection e with e1 e2
  subst e1
  rcases hc with rfl | rfl <;> rfl
theorem num_no {l t : List UInt8} {p : Option (Nat × Nat × List UInt8)} {a d n : Nat} {c : UInt8} {ng : Bool} (h : RelM l p (some (a, d, n))) (hr : l.drop n = c :: t) (hc : c = 43 ∨ c = 45) (h2 : RelM t (pMag t) none) : numOf ng p = none := by
  obtain ⟨a0, b0, e, -⟩ := rel_fit h hr (sg_dgt hc)
  rw [e]
  rcases hc with rfl | rfl <;> simp [numOf, isHd, rel_none h2]
theorem num_bad {l t r2 : List UInt8} {p : Option (Nat × Nat × List UInt8)} {a d n b e n2 : Nat} {c : UInt8} {ng : Bool} (h : RelM l p (some (a, d, n))) (hr : l.drop n = c :: t) (hc : c = 43 ∨ c = 45) (h2 : RelM t (pMag t) (some (b, e, n2))) (hr2 : t.drop n2 = r2) (h3 : r2 ≠ [105]) : numOf ng p = none := by
  obtain ⟨a0, b0, e, -⟩ := rel_fit h hr (sg_dgt hc)
  rw [e]
  rcases (rel_get h2 hr2).2.2 with ⟨e2, -⟩ | ⟨a2, b2, e2, -⟩
  · rcases hc with rfl | rfl <;> simp [numOf, isHd, e2]
  · have h4 : (isHd 105 r2 && r2.tail.isEmpty) = false := by
      rcases r2 with _ | ⟨z, q⟩
      · rfl
      · simp [isHd]
        intro hz hq
        exact h3 (by rw [hz, hq])
    rcases hc with rfl | rfl
    · simp only [numOf, isHd_ne (show (43 : UInt8) ≠ 105 by decide), List.tail_cons, e2, h4]
      simp
    · simp only [numOf, isHd_ne (show (45 : UInt8) ≠ 105 by decide), List.tail_cons, e2, h4]
      simp
theorem num_two {l t : List UInt8} {p : Option (Nat × Nat × List UInt8)} {a d n b e n2 : Nat} {c : UInt8} {ng : Bool} (h : RelM l p (some (a, d, n))) (hr : l.drop n = c :: t) (hc : c = 43 ∨ c = 45) (h2 : RelM t (pMag t) (some (b, e, n2))) (hr2 : t.drop n2 = [105]) :
    ∃ a0 b0 a2 b2, numOf ng p = some [⟨a0, b0, ng, false⟩, ⟨a2, b2, isHd 45 (c :: t), true⟩] ∧ (d = 0 ↔ b0 = 0) ∧ a * b0 = a0 * d ∧ (e = 0 ↔ b2 = 0) ∧ b * b2 = a2 * e := by
  obtain ⟨a0, b0, e, h4, h5⟩ := rel_fit h hr (sg_dgt hc)
  obtain ⟨a2, b2, e2, k4, k5⟩ := rel_fit h2 hr2 (fun c t e => by injection e with e1 e2; subst e1; rfl)
  refine ⟨a0, b0, a2, b2, ?_, h4, h5, k4, k5⟩
  rw [e]
  rcases hc with rfl | rfl <;> simp [numOf, isHd, e2]
theorem num_one {l r : List UInt8} {p : Option (Nat × Nat × List UInt8)} {a d n : Nat} {ng im : Bool} (h : RelM l p (some (a, d, n))) (hr : l.drop n = r) (hi : r = if im then [105] else []) :
    ∃ a0 b0, numOf ng p = some [⟨a0, b0, ng, im⟩] ∧ (d = 0 ↔ b0 = 0) ∧ a * b0 = a0 * d := by
  obtain ⟨a0, b0, e, h4, h5⟩ := rel_fit h hr (fun c t e => by rw [hi] at e; cases im <;> cases e; rfl)
  refine ⟨a0, b0, ?_, h4, h5⟩
  rw [e, hi]
  cases im <;> rfl
theorem rq {l : List UInt8} {w w' : World} {e : Ending} {x : Cx} {c : Int} (h : pVal l = x ∧ pErr l = c) (k : RetQE w x c e w') : RetQE w (pVal l) (pErr l) e w' := by rw [h.1, h.2]; exact k
end Go.Proofs.YtphlmmjlpbledaaGreatDoor
