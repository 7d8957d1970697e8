import Derived.Test.YtphlmmjlpbledaaGreatDoorH01
set_option linter.unusedSimpArgs false
set_option linter.unusedVariables false
namespace Go.Proofs.YtphlmmjlpbledaaGreatDoor
def dgt (c : UInt8) : Bool := decide (48 ≤ c.toNat) && decide (c.toNat ≤ 57)
def dvalF (n : Nat) (l : List UInt8) : Nat := l.foldl (fun n c => 10 * n + (c.toNat - 48)) n
def dval (l : List UInt8) : Nat := dvalF 0 l
def okW (d : List UInt8) : Bool := decide (d = [48]) || (!d.isEmpty && !decide (d.head? = some 48))
def digs (l : List UInt8) : List UInt8 := l.takeWhile dgt
def past (l : List UInt8) : List UInt8 := l.dropWhile dgt
def isHd (b : UInt8) (l : List UInt8) : Bool := decide (l.head? = some b)
def off (b : UInt8) (l : List UInt8) : List UInt8 := if isHd b l then l.tail else l
def pExpOk (l : List UInt8) : Bool := okW (digs (off 45 l)) && decide ((digs (off 45 l)).length ≤ 3) && decide (dval (digs (off 45 l)) ≤ 400)
def pExpV (l : List UInt8) : Int := if isHd 45 l then -(dval (digs (off 45 l)) : Int) else (dval (digs (off 45 l)) : Int)
def pExpR (l : List UInt8) : List UInt8 := past (off 45 l)
def pFin (d : List UInt8) (t : Int) (r : List UInt8) : Option (Nat × Nat × List UInt8) := some (dval d * 10 ^ t.toNat, 10 ^ (-t).toNat, r)
def pTail (d : List UInt8) (t : Int) (r : List UInt8) : Option (Nat × Nat × List UInt8) :=
  if isHd 101 r then (if pExpOk r.tail then pFin d (t + pExpV r.tail) (pExpR r.tail) else none) else pFin d t r
def pMag (l : List UInt8) : Option (Nat × Nat × List UInt8) :=
  if okW (digs l) then
    if isHd 47 (past l) then
      (if okW (digs (past l).tail) then some (dval (digs l), dval (digs (past l).tail), past (past l).tail) else none)
    else if isHd 46 (past l) then
      (if digs (past l).tail = [] then none else pTail (digs l ++ digs (past l).tail) (-((digs (past l).tail).length : Int)) (past (past l).tail))
    else pTail (digs l) 0 (past l)
  else none
structure Pt where
  a : Nat
  b : Nat
  neg : Bool
  im : Bool
def pNum (l : List UInt8) : Option (List Pt) :=
  match pMag (off 45 l) with
  | none => none
  | some (a, b, r) =>
    if isHd 105 r then (if r.tail = [] then some [⟨a, b, isHd 45 l, true⟩] else none)
    else if r = [] then some [⟨a, b, isHd 45 l, false⟩]
    else if isHd 45 r || isHd 43 r then
      match pMag r.tail with
      | none => none
      | some (a2, b2, r2) => if isHd 105 r2 && r2.tail.isEmpty then some [⟨a, b, isHd 45 l, false⟩, ⟨a2, b2, isHd 45 r, true⟩] else none
    else none
def ptV (p : Pt) : Cx :=
  let q : Rat := (if p.neg then -(p.a : Rat) else (p.a : Rat)) / (p.b : Rat)
  if p.im then ⟨0, q⟩ else ⟨q, 0⟩
def sumV (ps : List Pt) : Cx := ps.foldl (fun s p => s.add (ptV p)) .zero
def hasZero (ps : List Pt) : Bool := ps.any fun p => decide (p.b = 0)
def pErr (l : List UInt8) : Int := if 4096 < l.length then 4 else match pNum l with | none => 2 | some ps => if hasZero ps then 3 else 0
def pVal (l : List UInt8) : Cx := if 4096 < l.length then .zero else match pNum l with | none => .zero | some ps => if hasZero ps then .zero else sumV ps
theorem dvalF_append (n : Nat) (l m : List UInt8) : dvalF n (l ++ m) = dvalF (dvalF n l) m := by simp [dvalF]
theorem dvalF_snoc (n : Nat) (l : List UInt8) (c : UInt8) : dvalF n (l ++ [c]) = 10 * dvalF n l + (c.toNat - 48) := by simp [dvalF]
theorem dvalF_eq (n : Nat) (l : List UInt8) : dvalF n l = n * 10 ^ l.length + dval l := by
  unfold dval
  induction l generalizing n with
  | nil => simp [dvalF]
  | cons c l ih =>
    have h1 := ih (10 * n + (c.toNat - 48))
    have h2 := ih (10 * 0 + (c.toNat - 48))
    simp only [dvalF, List.foldl_cons, List.length_cons] at h1 h2 ⊢
    rw [h1, h2, Nat.pow_succ]
    have e : (10 * n + (c.toNat - 48)) * 10 ^ l.length = n * (10 ^ l.length * 10) + (c.toNat - 48) * 10 ^ l.length := by
      rw [Nat.add_mul, Nat.mul_comm (10 ^ l.length), ← Nat.mul_assoc, Nat.mul_comm n 10]
    rw [e]
    simp
    omega
theorem dval_lt {l : List UInt8} (h : ∀ c ∈ l, dgt c = true) : dval l < 10 ^ l.length := by
  induction l with
  | nil => simp [dval, dvalF]
  | cons c l ih =>
    have h1 : dval (c :: l) = (c.toNat - 48) * 10 ^ l.length + dval l := by
      show dvalF (10 * 0 + (c.toNat - 48)) l = _
      rw [dvalF_eq]; simp
    have h2 := ih fun x hx => h x (List.mem_cons_of_mem _ hx)
    have h3 := h c (List.mem_cons_self ..)
    unfold dgt at h3
    simp at h3
    rw [h1, List.length_cons, Nat.pow_succ]
    have h4 : (c.toNat - 48) * 10 ^ l.length ≤ 9 * 10 ^ l.length := Nat.mul_le_mul_right _ (by omega)
    omega
theorem digs_mem {l : List UInt8} : ∀ c ∈ digs l, dgt c = true := by
  intro c hc
  unfold digs at hc
  induction l with
  | nil => simp at hc
  | cons x l ih =>
    rw [List.takeWhile_cons] at hc
    by_cases hx : dgt x = true
    · rw [if_pos hx] at hc
      rcases List.mem_cons.1 hc with rfl | h
      · exact hx
      · exact ih h
    · rw [if_neg hx] at hc; cases hc
theorem digs_past (l : List UInt8) : digs l ++ past l = l := List.takeWhile_append_dropWhile
theorem digs_app {d r : List UInt8} (h : ∀ c ∈ d, dgt c = true) (hr : ∀ c ∈ r.head?, dgt c = false) : digs (d ++ r) = d ∧ past (d ++ r) = r := by
  induction d with
  | nil =>
    cases r with
    | nil => simp [digs, past]
    | cons c r =>
      have := hr c (by simp)
      simp [digs, past, List.takeWhile_cons, List.dropWhile_cons, this]
  | cons c d ih =>
    have h1 := ih fun x hx => h x (List.mem_cons_of_mem _ hx)
    have h2 := h c (List.mem_cons_self ..)
    unfold digs past at *
    simp [List.takeWhile_cons, List.dropWhile_cons, h2, h1.1, h1.2]
theorem off_neg {b : UInt8} {l : List UInt8} (h : isHd b l = false) : off b l = l := by simp [off, h]
theorem off_pos {b : UInt8} {l : List UInt8} : off b (b :: l) = l := by simp [off, isHd]
theorem isHd_self (b : UInt8) (l : List UInt8) : isHd b (b :: l) = true := by simp [isHd]
theorem isHd_ne {b c : UInt8} (h : c ≠ b) (l : List UInt8) : isHd b (c :: l) = false := by simp [isHd, h]
end Go.Proofs.YtphlmmjlpbledaaGreatDoor
