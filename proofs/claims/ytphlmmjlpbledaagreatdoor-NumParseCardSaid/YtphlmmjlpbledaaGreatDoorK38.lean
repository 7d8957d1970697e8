import Derived.Deep.LoopGhost
import Derived.Laws.IdiomStrings
import Derived.Test.YtphlmmjlpbledaaGreatDoorK01
import Derived.Test.YtphlmmjlpbledaaGreatDoorK02
import Derived.Test.YtphlmmjlpbledaaGreatDoorK04
import Derived.Test.YtphlmmjlpbledaaGreatDoorK14
set_option linter.unusedSimpArgs false
set_option linter.unusedVariables false
namespace Go.Proofs.YtphlmmjlpbledaaGreatDoor
def dgt (c : UInt8) : Bool := decide (48 ≤ c.toNat) && decide (c.toNat ≤ 57)
def dvalF (n : Nat) (l : List UInt8) : Nat := l.foldl (fun n c => 10 * n + (c.toNat - 48)) n
def dval (l : List UInt8) : Nat := dvalF 0 l
def okW (d : List UInt8) : Bool := decide (d = [48]) || (!d.isEmpty && !decide (d.head? = some 48))
def digs (l : List UInt8) : List UInt8 := l.takeWhile dgt
def past (l : List UInt8) : List UInt8 := l.dropWhile dgt
def isHd (b : UInt8) (l : List UInt8) : Bool := decide (l.head? = some b)
def off (b : UInt8) (l : List UInt8) : List UInt8 := if isHd b l then l.tail else l
def pExpOk (l : List UInt8) : Bool := okW (digs (off 45 l)) && decide ((digs (off 45 l)).length ≤ 3) && decide (dval (digs (off 45 l)) ≤ 400)
def pExpV (l : List UInt8) : Int := if isHd 45 l then -(dval (digs (off 45 l)) : Int) else (dval (digs (off 45 l)) : Int)
def pExpR (l : List UInt8) : List UInt8 := past (off 45 l)
def pFin (d : List UInt8) (t : Int) (r : List UInt8) : Option (Nat × Nat × List UInt8) := some (dval d * 10 ^ t.toNat, 10 ^ (-t).toNat, r)
def pTail (d : List UInt8) (t : Int) (r : List UInt8) : Option (Nat × Nat × List UInt8) :=
  if isHd 101 r then (if pExpOk r.tail then pFin d (t + pExpV r.tail) (pExpR r.tail) else none) else pFin d t r
def pMag (l : List UInt8) : Option (Nat × Nat × List UInt8) :=
  if okW (digs l) then
    if isHd 47 (past l) then
      (if okW (digs (past l).tail) then some (dval (digs l), dval (digs (past l).tail), past (past l).tail) else none)
    else if isHd 46 (past l) then
      (if digs (past l).tail = [] then none else pTail (digs l ++ digs (past l).tail) (-((digs (past l).tail).length : Int)) (past (past l).tail))
    else pTail (digs l) 0 (past l)
  else none
structure Pt where
  a : Nat
  b : Nat
  neg : Bool
  im : Bool
def pNum (l : List UInt8) : Option (List Pt) :=
  match pMag (off 45 l) with
  | none => none
  | some (a, b, r) =>
    if isHd 105 r then (if r.tail = [] then some [⟨a, b, isHd 45 l, true⟩] else none)
    else if r = [] then some [⟨a, b, isHd 45 l, false⟩]
    else if isHd 45 r || isHd 43 r then
      match pMag r.tail with
      | none => none
      | some (a2, b2, r2) => if isHd 105 r2 && r2.tail.isEmpty then some [⟨a, b, isHd 45 l, false⟩, ⟨a2, b2, isHd 45 r, true⟩] else none
    else none
def ptV (p : Pt) : Cx :=
  let q : Rat := (if p.neg then -(p.a : Rat) else (p.a : Rat)) / (p.b : Rat)
  if p.im then ⟨0, q⟩ else ⟨q, 0⟩
def sumV (ps : List Pt) : Cx := ps.foldl (fun s p => s.add (ptV p)) .zero
def hasZero (ps : List Pt) : Bool := ps.any fun p => decide (p.b = 0)
def pErr (l : List UInt8) : Int := if 4096 < l.length then 4 else match pNum l with | none => 2 | some ps => if hasZero ps then 3 else 0
def pVal (l : List UInt8) : Cx := if 4096 < l.length then .zero else match pNum l with | none => .zero | some ps => if hasZero ps then .zero else sumV ps
theorem dvalF_append (n : Nat) (l m : List UInt8) : dvalF n (l ++ m) = dvalF (dvalF n l) m := by simp [dvalF]
theorem dvalF_snoc (n : Nat) (l : List UInt8) (c : UInt8) : dvalF n (l ++ [c]) = 10 * dvalF n l + (c.toNat - 48) := by simp [dvalF]
theorem dvalF_eq (n : Nat) (l : List UInt8) : dvalF n l = n * 10 ^ l.length + dval l := by
  unfold dval
  induction l generalizing n with
  | nil => simp [dvalF]
  | cons c l ih =>
    have h1 := ih (10 * n + (c.toNat - 48))
    have h2 := ih (10 * 0 + (c.toNat - 48))
    simp only [dvalF, List.foldl_cons, List.length_cons] at h1 h2 ⊢
    rw [h1, h2, Nat.pow_succ]
    have e : (10 * n + (c.toNat - 48)) * 10 ^ l.length = n * (10 ^ l.length * 10) + (c.toNat - 48) * 10 ^ l.length := by
      rw [Nat.add_mul, Nat.mul_comm (10 ^ l.length), ← Nat.mul_assoc, Nat.mul_comm n 10]
    rw [e]
    simp
    omega
theorem dval_lt {l : List UInt8} (h : ∀ c ∈ l, dgt c = true) : dval l < 10 ^ l.length := by
  induction l with
  | nil => simp [dval, dvalF]
  | cons c l ih =>
    have h1 : dval (c :: l) = (c.toNat - 48) * 10 ^ l.length + dval l := by
      show dvalF (10 * 0 + (c.toNat - 48)) l = _
      rw [dvalF_eq]; simp
    have h2 := ih fun x hx => h x (List.mem_cons_of_mem _ hx)
    have h3 := h c (List.mem_cons_self ..)
    unfold dgt at h3
    simp at h3
    rw [h1, List.length_cons, Nat.pow_succ]
    have h4 : (c.toNat - 48) * 10 ^ l.length ≤ 9 * 10 ^ l.length := Nat.mul_le_mul_right _ (by omega)
    omega
theorem digs_mem {l : List UInt8} : ∀ c ∈ digs l, dgt c = true := by
  intro c hc
  unfold digs at hc
  induction l with
  | nil => simp at hc
  | cons x l ih =>
    rw [List.takeWhile_cons] at hc
    by_cases hx : dgt x = true
    · rw [if_pos hx] at hc
      rcases List.mem_cons.1 hc with rfl | h
      · exact hx
      · exact ih h
    · rw [if_neg hx] at hc; cases hc
theorem digs_past (l : List UInt8) : digs l ++ past l = l := List.takeWhile_append_dropWhile
theorem digs_app {d r : List UInt8} (h : ∀ c ∈ d, dgt c = true) (hr : ∀ c ∈ r.head?, dgt c = false) : digs (d ++ r) = d ∧ past (d ++ r) = r := by
  induction d with
  | nil =>
    cases r with
    | nil => simp [digs, past]
    | cons c r =>
      have := hr c (by simp)
      simp [digs, past, List.takeWhile_cons, List.dropWhile_cons, this]
  | cons c d ih =>
    have h1 := ih fun x hx => h x (List.mem_cons_of_mem _ hx)
    have h2 := h c (List.mem_cons_self ..)
    unfold digs past at *
    simp [List.takeWhile_cons, List.dropWhile_cons, h2, h1.1, h1.2]
theorem off_neg {b : UInt8} {l : List UInt8} (h : isHd b l = false) : off b l = l := by simp [off, h]
theorem off_pos {b : UInt8} {l : List UInt8} : off b (b :: l) = l := by simp [off, isHd]
theorem isHd_self (b : UInt8) (l : List UInt8) : isHd b (b :: l) = true := by simp [isHd]
theorem isHd_ne {b c : UInt8} (h : c ≠ b) (l : List UInt8) : isHd b (c :: l) = false := by simp [isHd, h]
end Go.Proofs.YtphlmmjlpbledaaGreatDoor
set_option linter.unusedSimpArgs false
set_option linter.unusedVariables false
namespace Go.Proofs.YtphlmmjlpbledaaGreatDoor
open Go.RowKit
set_option maxRecDepth 100000
def sl (l : List UInt8) : ByteArray := ⟨l.toArray⟩
theorem sl_size (l : List UInt8) : (sl l).size = l.length := by simp [sl, ByteArray.size]
theorem sl_data (l : List UInt8) : (sl l).data.toList = l := rfl
theorem size_data (s : ByteArray) : s.data.toList.length = s.size := by cases s; rfl
theorem sl_extract (s : ByteArray) (a b : Nat) : s.extract a b = sl ((s.data.toList.drop a).take (b - a)) := by
  have := ByteArray.extract_mk s.data.toList a b
  cases s
  exact this
def Rd (w : World) (g : Nat) (s : ByteArray) (k : Nat) : Prop := w.heap[g]? = some (.cells #[.string s, .int .i64 (k : Int)] 165 (0, 0))
def RdL (w : World) (g : Nat) (s : ByteArray) (l : List UInt8) : Prop := ∃ k, k ≤ s.size ∧ Rd w g s k ∧ s.data.toList.drop k = l
theorem Rd.lt {w : World} {g : Nat} {s : ByteArray} {k : Nat} (h : Rd w g s k) : g < w.heap.size := by
  rcases Nat.lt_or_ge g w.heap.size with hlt | hge
  · exact hlt
  · unfold Rd at h; rw [Array.getElem?_eq_none hge] at h; cases h
theorem Rd.cells {w : World} {g : Nat} {s : ByteArray} {k : Nat} (h : Rd w g s k) : w.cell? ⟨g, 0, none⟩ = some (.string s) ∧ w.cell? ⟨g, 1, none⟩ = some (.int .i64 (k : Int)) ∧ w.frozen? ⟨g, 1, none⟩ = false := by
  refine ⟨?_, ?_, ?_⟩
  · rw [cell_of_row w g 0 _ _ (0, 0) h]; rfl
  · rw [cell_of_row w g 1 _ _ (0, 0) h]; rfl
  · unfold Rd at h
    simp [World.frozen?, h]
theorem Rd.keep {w w' : World} {g : Nat} {s : ByteArray} {k : Nat} (h : Rd w g s k) (hb : w'.heap[g]? = w.heap[g]?) : Rd w' g s k := hb.trans h
theorem Rd.set {w : World} {g : Nat} {s : ByteArray} {k : Nat} (h : Rd w g s k) (k' : Nat) : Rd (w.setCell ⟨g, 1, none⟩ (.int .i64 (k' : Int))) g s k' := by
  unfold Rd at h ⊢
  simp [World.setCell, Array.getElem?_modify, h]
theorem RdL.keep {w w' : World} {g : Nat} {s : ByteArray} {l : List UInt8} (h : RdL w g s l) (hb : w'.heap[g]? = w.heap[g]?) : RdL w' g s l := by
  obtain ⟨k, h1, h2, h3⟩ := h
  exact ⟨k, h1, h2.keep hb, h3⟩
theorem RdL.below {w w' : World} {g : Nat} {s : ByteArray} {l : List UInt8} (h : RdL w g s l) (hb : Below w.heap.size w w') : RdL w' g s l := by
  obtain ⟨k, h1, h2, h3⟩ := h
  exact ⟨k, h1, h2.keep (hb.block g h2.lt), h3⟩
theorem RdL.lt {w : World} {g : Nat} {s : ByteArray} {l : List UInt8} (h : RdL w g s l) : g < w.heap.size := by
  obtain ⟨k, h1, h2, h3⟩ := h
  exact h2.lt
theorem drop_step {s : ByteArray} {k : Nat} (h : k < s.size) : s.data.toList.drop k = s[k] :: s.data.toList.drop (k + 1) := by
  rw [List.drop_eq_getElem_cons (by rw [size_data]; exact h)]
  rfl
theorem drop_end {s : ByteArray} : s.data.toList.drop s.size = [] := List.drop_of_length_le (by rw [size_data]; exact Nat.le_refl _)
theorem done_any (g : Nat) (s : ByteArray) (k : Nat) (w : World) (h : Rd w g s k) (hk : k ≤ s.size) (hs : s.size ≤ 1000000) :
    Calls Tryz.prog 117 #[.pointer (some ⟨g, 0, none⟩)] w fun e w' => e = .returned (.bool (decide (k = s.size))) ∧ ∃ q, w' = w.drewN q := by
  obtain ⟨c0, c1, -⟩ := h.cells
  have hd : ((k : Int) == (s.size : Int)) = decide (k = s.size) := by rw [Bool.eq_iff_iff]; simp; omega
  clear h
  go_enter Tryz.func117, Tryz.ntmps117
  go_wp2
  go_quiet (fail)
  go_wp2
  go_ret
  exact ⟨rfl, _, rfl⟩
theorem done_t (g : Nat) (s : ByteArray) (w : World) (h : Rd w g s s.size) (hs : s.size ≤ 1000000) :
    Calls Tryz.prog 117 #[.pointer (some ⟨g, 0, none⟩)] w fun e w' => e = .returned (.bool true) ∧ ∃ q, w' = w.drewN q :=
  (done_any g s _ w h (Nat.le_refl _) hs).mono fun _ _ ⟨h1, h2⟩ => ⟨by rw [h1]; simp, h2⟩
theorem done_f (g : Nat) (s : ByteArray) (k : Nat) (w : World) (h : Rd w g s k) (hk : k < s.size) (hs : s.size ≤ 1000000) :
    Calls Tryz.prog 117 #[.pointer (some ⟨g, 0, none⟩)] w fun e w' => e = .returned (.bool false) ∧ ∃ q, w' = w.drewN q :=
  (done_any g s k w h (Nat.le_of_lt hk) hs).mono fun _ _ ⟨h1, h2⟩ => ⟨by rw [h1, decide_eq_false (by omega)], h2⟩
def RetTake (w : World) (g : Nat) (s : ByteArray) (b : UInt8) (l : List UInt8) (e : Ending) (w' : World) : Prop :=
  e = .returned (.bool (isHd b l)) ∧ RdL w' g s (off b l) ∧ w.grownBy w' (some g)
set_option maxHeartbeats 1000000 in
theorem take_any (g : Nat) (s : ByteArray) (b : UInt8) (l : List UInt8) (w : World) (h : RdL w g s l) (hs : s.size ≤ 1000000) :
    Calls Tryz.prog 115 #[.pointer (some ⟨g, 0, none⟩), .int .u8 (b.toNat : Int)] w (RetTake w g s b l) := by
  obtain ⟨k, hk, hR, hl⟩ := h
  obtain ⟨c0, c1, f1⟩ := hR.cells
  have hg := hR.lt
  by_cases hlt : k < s.size
  · have hst := drop_step hlt
    rw [hl] at hst
    have HR := hid hR
    by_cases hb : s[k] = b
    · have H1 := hid (show isHd b l = true by rw [hst, hb]; exact isHd_self _ _)
      have H2 := hid (show off b l = s.data.toList.drop (k + 1) by rw [hst, hb]; exact off_pos)
      have hq : ((s[k].toNat : Int) != (b.toNat : Int)) = false := by rw [hb]; simp
      clear hst hl hR hk hb
      go_enter Tryz.func115, Tryz.ntmps115
      go_wp2
      go_quiet ((go_at_call 117; exact Calls.quiet_of (done_f g s k _ HR.out hlt hs)))
      go_wp2
      go_ret
      refine ⟨by rw [H1.out]; rfl, ⟨k + 1, by omega, ?_, H2.out.symm⟩, ?_⟩
      · exact (Rd.set (w := w) HR.out (k + 1)).keep rfl
      · exact grown_trans (grown_drewN (grown_refl _ _) _) (grown_set _ _ _ _)
    · have H1 := hid (show isHd b l = false by rw [hst]; exact isHd_ne hb _)
      have H2 := hid (show off b l = s.data.toList.drop k by rw [off_neg H1.out, hl])
      have hq : ((s[k].toNat : Int) != (b.toNat : Int)) = true := by
        simp
        intro e
        exact hb (UInt8.toNat_inj.1 (by omega))
      clear hst hl hR hb
      go_enter Tryz.func115, Tryz.ntmps115
      go_wp2
      go_quiet ((go_at_call 117; exact Calls.quiet_of (done_f g s k _ HR.out hlt hs)))
      go_wp2
      go_ret
      exact ⟨by rw [H1.out]; rfl, ⟨k, hk, HR.out, H2.out.symm⟩, grown_drewN (grown_refl _ _) _⟩
  · have hke : k = s.size := by omega
    subst hke
    rw [drop_end] at hl
    subst hl
    have HR := hid hR
    clear hR hk hlt
    go_enter Tryz.func115, Tryz.ntmps115
    go_wp2
    go_quiet ((go_at_call 117; exact Calls.quiet_of (done_t g s _ HR.out hs)))
    go_wp2
    go_ret
    exact ⟨rfl, ⟨s.size, Nat.le_refl _, HR.out, drop_end⟩, grown_drewN (grown_refl _ _) _⟩
def RetDigs (w : World) (g : Nat) (s : ByteArray) (d r : List UInt8) (e : Ending) (w' : World) : Prop :=
  e = .returned (.string (sl d)) ∧ RdL w' g s r ∧ w.grownBy w' (some g)
theorem digs_of {L : List UInt8} {a k : Nat} (h1 : a ≤ k) (h2 : ∀ c ∈ (L.drop a).take (k - a), dgt c = true) (h3 : ∀ c ∈ (L.drop k).head?, dgt c = false) :
    digs (L.drop a) = (L.drop a).take (k - a) ∧ past (L.drop a) = L.drop k := by
  have e : L.drop a = (L.drop a).take (k - a) ++ L.drop k := by
    have := (List.take_append_drop (k - a) (L.drop a)).symm
    rw [List.drop_drop, show a + (k - a) = k by omega] at this
    exact this
  have h := digs_app h2 h3
  rw [← e] at h
  exact h
theorem digits_step {s : ByteArray} {a k : Nat} (h1 : a ≤ k) (h : k < s.size) (h2 : ∀ c ∈ (s.data.toList.drop a).take (k - a), dgt c = true) (hd : dgt s[k] = true) :
    ∀ c ∈ (s.data.toList.drop a).take (k + 1 - a), dgt c = true := by
  have e : (s.data.toList.drop a).take (k + 1 - a) = (s.data.toList.drop a).take (k - a) ++ [s[k]] := by
    rw [show k + 1 - a = (k - a) + 1 by omega, List.take_succ_eq_append_getElem (by rw [List.length_drop, size_data]; omega)]
    congr 2
    rw [List.getElem_drop]
    have e2 : a + (k - a) = k := by omega
    simp only [e2]
    rfl
  intro c hc
  rw [e] at hc
  rcases List.mem_append.1 hc with h | h
  · exact h2 c h
  · rw [List.mem_singleton.1 h]; exact hd
def DgRel (w : World) (g : Nat) (s : ByteArray) (a m : Nat) (wr : World) : Prop :=
  ∃ k, a ≤ k ∧ k ≤ s.size ∧ Rd wr g s k ∧ (∀ c ∈ (s.data.toList.drop a).take (k - a), dgt c = true) ∧ w.grownBy wr (some g) ∧ s.size - k ≤ m
set_option maxHeartbeats 1000000 in
theorem digits_any (g : Nat) (s : ByteArray) (l : List UInt8) (w : World) (h : RdL w g s l) (hs : s.size ≤ 1000000) :
    Calls Tryz.prog 169 #[.pointer (some ⟨g, 0, none⟩)] w (RetDigs w g s (digs l) (past l)) := by
  obtain ⟨a, ha, hR, hl⟩ := h
  obtain ⟨c0, c1, f1⟩ := hR.cells
  have HR0 := hid hR
  subst hl
  go_enter Tryz.func169, Tryz.ntmps169
  go_wp2
  clear c0 c1 f1 hR
  go_loopg [] (s.size - a) (fun m wr => DgRel w g s a m wr)
  case atStart => exact ⟨a, Nat.le_refl _, ha, HR0.out, by simp, grown_refl _ _, Nat.le_refl _⟩
  case round =>
    obtain ⟨k, hak, hk, hR, hd, hgr, hm⟩ := hrel
    obtain ⟨c0, c1, f1⟩ := hR.cells
    have hg := hR.lt
    have HR := hid hR
    have HD := hid hd
    have HG := hid hgr
    have HM := hid hm
    clear hR hd hgr HR0 hm
    by_cases hlt : k < s.size
    · have hst := drop_step hlt
      by_cases hdg : dgt s[k] = true
      · have h1 : (48 : Int) ≤ (s[k].toNat : Int) := by unfold dgt at hdg; simp at hdg; omega
        have h2 : (s[k].toNat : Int) ≤ 57 := by unfold dgt at hdg; simp at hdg; omega
        have H1 := hid (digits_step hak hlt HD.out hdg)
        clear hdg hst
        go_wp2
        go_quiet ((go_at_call 117; exact Calls.quiet_of (done_f g s k _ HR.out hlt hs)))
        go_wp2
        go_roundg (s.size - (k + 1))
        case rel => exact ⟨k + 1, by omega, by omega, (Rd.set (w := wr) HR.out (k + 1)).keep rfl, H1.out, grown_trans HG.out (grown_trans (grown_drewN (grown_refl _ _) _) (grown_set _ _ _ _)), by have := HM.out; omega⟩
        case measure => have := HM.out; omega
      · have hfin := digs_of (L := s.data.toList) hak HD.out (by rw [hst]; simpa using hdg)
        have H1 := hid hfin
        have hex := sl_extract s a k
        rw [← hfin.1] at hex
        clear hfin hst
        by_cases h1 : 48 ≤ s[k].toNat
        · have h2 : ¬ s[k].toNat ≤ 57 := fun h => hdg (by unfold dgt; simp; omega)
          have h3 : (48 : Int) ≤ (s[k].toNat : Int) := by omega
          have h4 : decide ((s[k].toNat : Int) ≤ 57) = false := by simp; omega
          clear hdg
          go_wp2
          go_quiet ((go_at_call 117; exact Calls.quiet_of (done_f g s k _ HR.out hlt hs)))
          go_wp2
          go_quiet (fail)
          go_wp2
          go_ret
          exact ⟨rfl, ⟨k, hk, HR.out, H1.out.2.symm⟩, grown_drewN (grown_drewN HG.out _) _⟩
        · have h4 : decide ((48 : Int) ≤ (s[k].toNat : Int)) = false := by simp; omega
          clear hdg
          go_wp2
          go_quiet ((go_at_call 117; exact Calls.quiet_of (done_f g s k _ HR.out hlt hs)))
          go_wp2
          go_quiet (fail)
          go_wp2
          go_ret
          exact ⟨rfl, ⟨k, hk, HR.out, H1.out.2.symm⟩, grown_drewN (grown_drewN HG.out _) _⟩
    · obtain rfl : k = s.size := by omega
      have hfin := digs_of (L := s.data.toList) hak HD.out (by rw [drop_end]; simp)
      have H1 := hid hfin
      have hex := sl_extract s a s.size
      rw [← hfin.1] at hex
      clear hfin hlt
      go_wp2
      go_quiet ((go_at_call 117; exact Calls.quiet_of (done_t g s _ HR.out hs)))
      go_wp2
      go_quiet (fail)
      go_wp2
      go_ret
      exact ⟨rfl, ⟨s.size, Nat.le_refl _, HR.out, H1.out.2.symm⟩, grown_drewN (grown_drewN HG.out _) _⟩
def RetWhole (w : World) (g : Nat) (s : ByteArray) (d r : List UInt8) (ok : Bool) (e : Ending) (w' : World) : Prop :=
  e = .returned (.tuple #[.string (sl d), .bool ok]) ∧ RdL w' g s r ∧ w.grownBy w' (some g)
theorem sl_list (d : List UInt8) : (sl d).toList = d := by rw [ByteArray.toList_eq]; rfl
set_option maxHeartbeats 1000000 in
theorem whole_any (g : Nat) (s : ByteArray) (l : List UInt8) (w : World) (h : RdL w g s l) (hs : s.size ≤ 1000000) :
    Calls Tryz.prog 167 #[.pointer (some ⟨g, 0, none⟩)] w (RetWhole w g s (digs l) (past l) (okW (digs l))) := by
  have H := hid (fun W (h : RdL W g s l) => digits_any g s l W h hs)
  have H0 := hid h
  clear h hs
  generalize past l = r at *
  have e0 := sl_list (digs l)
  have e4 := sl_size (digs l)
  generalize hd : digs l = d at *
  clear hd
  rcases d with _ | ⟨c, t⟩
  · have H1 := hid (show okW [] = false by rfl)
    have e1 : ((sl []).toList == [48]) = false := by rw [e0]; rfl
    have e2 : ((sl []).toList == []) = true := by rw [e0]; rfl
    have e3 : (sl []).toList.isEmpty = true := by rw [e0]; rfl
    clear e0 e4
    go_enter Tryz.func167, Tryz.ntmps167
    go_wp2_with fail
    refine (H.out _ H0.out).mono ?_
    rintro e w2 ⟨rfl, hr, hg⟩
    go_wp2
    go_quiet (fail)
    go_wp2
    go_ret2
    exact ⟨by rw [H1.out]; rfl, hr, grown_drewN hg _⟩
  · have e3 : (sl (c :: t)).toList.isEmpty = false := by rw [e0]; rfl
    have e2 : ((sl (c :: t)).toList == []) = false := by rw [e0]; rfl
    have e5 : 0 < (sl (c :: t)).size := by rw [e4]; simp
    by_cases h1 : c = 48 ∧ t = []
    · obtain ⟨rfl, rfl⟩ := h1
      have H1 := hid (show okW [48] = true by rfl)
      have e1 : ((sl [48]).toList == [48]) = true := by rw [e0]; rfl
      clear e0 e4
      go_enter Tryz.func167, Tryz.ntmps167
      go_wp2_with fail
      refine (H.out _ H0.out).mono ?_
      rintro e w2 ⟨rfl, hr, hg⟩
      go_wp2
      go_quiet (fail)
      go_wp2
      go_ret2
      exact ⟨by rw [H1.out]; rfl, hr, grown_drewN hg _⟩
    · have e1 : ((sl (c :: t)).toList == [48]) = false := by
        rw [e0]
        simp
        exact fun h => fun h' => h1 ⟨h, h'⟩
      have e6 : (sl (c :: t))[0] = c := rfl
      by_cases h2 : c = 48
      · have H1 := hid (show okW (c :: t) = false by simp [okW, h2]; exact fun h => h1 ⟨h2, h⟩)
        have e7 : (((sl (c :: t))[0].toNat : Int) != 48) = false := by rw [e6, h2]; rfl
        clear e0 e4 e6 h1 h2
        go_enter Tryz.func167, Tryz.ntmps167
        go_wp2_with fail
        refine (H.out _ H0.out).mono ?_
        rintro e w2 ⟨rfl, hr, hg⟩
        go_wp2
        go_quiet (fail)
        go_wp2
        go_ret2
        exact ⟨by rw [H1.out]; rfl, hr, grown_drewN hg _⟩
      · have H1 := hid (show okW (c :: t) = true by simp [okW, h2])
        have e7 : (((sl (c :: t))[0].toNat : Int) != 48) = true := by
          rw [e6]; simp
          intro e
          exact h2 (UInt8.toNat_inj.1 (by simpa using (show c.toNat = 48 by omega)))
        clear e0 e4 e6 h1 h2
        go_enter Tryz.func167, Tryz.ntmps167
        go_wp2_with fail
        refine (H.out _ H0.out).mono ?_
        rintro e w2 ⟨rfl, hr, hg⟩
        go_wp2
        go_quiet (fail)
        go_wp2
        go_ret2
        exact ⟨by rw [H1.out]; rfl, hr, grown_drewN hg _⟩
theorem wl_ten {x k : Nat} (h : x < 10 ^ k) : wl x ≤ k := by
  refine wl_le_of (Nat.lt_of_lt_of_le h ?_)
  exact Nat.pow_le_pow_left (by omega) k
theorem wl_ten1 (k : Nat) : wl (10 ^ k) ≤ k + 1 := wl_ten (Nat.pow_lt_pow_right (by omega) (by omega))
theorem ten9 : (10 : Nat) ^ 9 = 1000000000 := by decide
theorem oneNat (w : World) : IsNat (w.alloc (.cells #[.int .u32 1] 56)) (.slice (some ⟨w.heap.size, 0, none⟩) 1 1) 1 := IsNat.one _ _ (by simp) (by simp) 1 (by omega)
theorem power_le (z : Int) (w : World) (h : z ≤ 0) (h2 : -1000000 ≤ z) : Calls Tryz.prog 171 #[.int .i64 z] w (RetNat w 1) := by
  have hd : ¬ 9 ≤ z := by omega
  have hd2 : ¬ 0 < z := by omega
  have hd3 : decide (9 ≤ z) = false := by simpa using hd
  have hd4 : decide (0 < z) = false := by simpa using hd2
  go_enter Tryz.func171, Tryz.ntmps171
  go_wp2
  go_loop [0, 3] (fun v p => v = .int .i64 z ∧ p = .slice (some ⟨w.heap.size, 0, none⟩) 1 1) (fun _ _ => 0)
  case atStart => exact ⟨rfl, rfl⟩
  case round =>
    obtain ⟨rfl, rfl⟩ := hrel
    go_wp2
    go_loop [0, 3] (fun v p => v = .int .i64 z ∧ p = .slice (some ⟨w.heap.size, 0, none⟩) 1 1) (fun _ _ => 0)
    case atStart => exact ⟨rfl, rfl⟩
    case round =>
      obtain ⟨rfl, rfl⟩ := hrel
      go_wp2
      go_ret
      exact ⟨_, rfl, oneNat w, below_alloc _ _⟩
set_option maxHeartbeats 1000000 in
theorem power_pos (n : Nat) (w : World) (h : n ≤ 1000000) : Calls Tryz.prog 171 #[.int .i64 (n : Int)] w (RetNat w (10 ^ n)) := by
  go_enter Tryz.func171, Tryz.ntmps171
  go_wp2
  go_loopw [0, 3] (fun nv pv wr => ∃ m k : Nat, m + k = n ∧ nv = .int .i64 (m : Int) ∧ IsNat wr pv (10 ^ k) ∧ Below w.heap.size w wr) (fun nv _ _ => (intOf nv).toNat)
  case atStart => exact ⟨n, 0, rfl, rfl, oneNat w, below_alloc _ _⟩
  case round =>
    obtain ⟨m, k, hmk, rfl, hp, hb⟩ := hrel
    have HP := hid hp
    have HB := hid hb
    have HMK := hid hmk
    have hk : k ≤ 1000000 := by omega
    have hm : m ≤ 1000000 := by omega
    clear hp hb hmk
    by_cases h9 : 9 ≤ m
    · go_wp2_with fail
      refine (mulWord_any _ (10 ^ k) 1000000000 0 _ HP.out (by have := wl_ten1 k; omega) (by omega) (by omega)).mono ?_
      rintro e w2 ⟨v, rfl, hv, hb2⟩
      have HV := hid hv
      have HB2 := hid hb2
      clear hv hb2
      go_wp2
      go_roundw
      case rel => exact ⟨m - 9, k + 9, by have := HMK.out; omega, by rw [show ((m : Int) - 9) = ((m - 9 : Nat) : Int) by omega], by have := HV.out; rwa [Nat.add_zero, ← ten9, ← Nat.pow_add] at this, below_trans HB.out HB2.out⟩
      case measure => simp [intOf]; omega
    · have hd : ¬ (9 : Int) ≤ (m : Int) := by omega
      go_wp2
      go_loopw [0, 3] (fun nv pv wr => ∃ m k : Nat, m + k = n ∧ nv = .int .i64 (m : Int) ∧ IsNat wr pv (10 ^ k) ∧ Below w.heap.size w wr) (fun nv _ _ => (intOf nv).toNat)
      case atStart => exact ⟨m, k, HMK.out, rfl, HP.out, HB.out⟩
      case round =>
        obtain ⟨m, k, hmk, rfl, hp, hb⟩ := hrel
        have HP := hid hp
        have HB := hid hb
        have HMK := hid hmk
        have hk : k ≤ 1000000 := by omega
        have hm : m ≤ 1000000 := by omega
        clear hp hb hmk
        rcases Nat.eq_zero_or_pos m with h0 | h0
        · subst h0
          go_wp2
          go_ret
          exact ⟨_, rfl, by rw [show n = k by have := HMK.out; omega]; exact HP.out, HB.out⟩
        · have hi0 : (0 : Int) < (m : Int) := by omega
          go_wp2_with fail
          refine (mulWord_any _ (10 ^ k) 10 0 _ HP.out (by have := wl_ten1 k; omega) (by omega) (by omega)).mono ?_
          rintro e w2 ⟨v, rfl, hv, hb2⟩
          have HV := hid hv
          have HB2 := hid hb2
          clear hv hb2
          go_wp2
          go_roundw
          case rel => exact ⟨m - 1, k + 1, by have := HMK.out; omega, by rw [show ((m : Int) - 1) = ((m - 1 : Nat) : Int) by omega], by have := HV.out; rwa [Nat.add_zero, ← Nat.pow_succ] at this, below_trans HB.out HB2.out⟩
          case measure => simp [intOf]; omega
theorem power_any (z : Int) (w : World) (h : z ≤ 1000000) (h2 : -1000000 ≤ z) : Calls Tryz.prog 171 #[.int .i64 z] w (RetNat w (10 ^ z.toNat)) := by
  rcases Int.le_total z 0 with h0 | h0
  · rw [show z.toNat = 0 by omega]
    exact power_le z w h0 h2
  · obtain ⟨n, rfl⟩ : ∃ n : Nat, z = (n : Int) := ⟨z.toNat, by omega⟩
    exact power_pos n w (by omega)
theorem bytes_run (w : World) (s : ByteArray) : ∃ w1 c, (convert 9 228 (.string s)).run Tryz.prog w = .ok (.slice (some ⟨w.heap.size, 0, none⟩) s.size c) w1 ∧
    (∀ j (h : j < s.size), w1.cell? ⟨w.heap.size, j, none⟩ = some (.int .u8 (s[j].toNat : Int))) ∧ Below w.heap.size w w1 ∧ w.heap.size < w1.heap.size := by
  refine ⟨_, _, run_bytes_of_string w 9 228 5 s (by kernel_rfl) (by kernel_rfl) (by kernel_rfl), fun j h => ?_, ?_, ?_⟩
  · have := World.cell?_alloc_mark w.drew (bytesRow s (grownCap w s.size 0 5)) 5 ((bytesRow s (grownCap w s.size 0 5)).size, (bytesRow s (grownCap w s.size 0 5)).size + 1) j
    refine this.trans ?_
    rw [bytesRow_at s _ j h]
    rfl
  · exact ((Below.refl _ w).drew).alloc (Nat.le_refl _) _
  · show w.heap.size < (w.heap.push _).size
    simp
theorem dval_take {l : List UInt8} {j k : Nat} : dval (l.take (j + k)) = dval (l.take j) * 10 ^ ((l.drop j).take k).length + dval ((l.drop j).take k) := by
  rw [List.take_add]
  unfold dval
  rw [dvalF_append, dvalF_eq]
  rfl
theorem mem_drop_take {l : List UInt8} {j k : Nat} (hd : ∀ c ∈ l, dgt c = true) : ∀ c ∈ (l.drop j).take k, dgt c = true :=
  fun c hc => hd c (List.mem_of_mem_drop (List.mem_of_mem_take hc))
theorem dval_step {l : List UInt8} {k : Nat} (h : k < l.length) : dval (l.take (k + 1)) = 10 * dval (l.take k) + (l[k].toNat - 48) := by
  rw [List.take_succ_eq_append_getElem h]
  exact dvalF_snoc _ _ _
theorem sub48 (n : Nat) (h : 48 ≤ n) (h2 : n ≤ 57) : IntKind.u8.wrap ((n : Int) - 48) = ((n - 48 : Nat) : Int) := by
  simp [IntKind.wrap, IntKind.bits, IntKind.signed]; omega
def FdRel (w : World) (l : List UInt8) (sv nv : Value) (wr : World) : Prop := ∃ j, j ≤ l.length ∧ sv = .string (sl (l.drop j)) ∧ IsNat wr nv (dval (l.take j)) ∧ Below w.heap.size w wr
set_option maxHeartbeats 1000000 in
theorem fromDigits_any (l : List UInt8) (w : World) (hd : ∀ c ∈ l, dgt c = true) (hn : l.length ≤ 1000000) : Calls Tryz.prog 168 #[.string (sl l)] w (RetNat w (dval l)) := by
  have HD := hid hd
  have HN := hid hn
  clear hd
  go_enter Tryz.func168, Tryz.ntmps168
  go_wp2
  go_loopw [0, 3] (fun sv nv wr => FdRel w l sv nv wr) (fun sv _ _ => match sv with | .string s => s.size | _ => 0)
  case atStart => exact ⟨0, by omega, rfl, IsNat.zero _ _ _, Below.refl _ _⟩
  case round =>
    obtain ⟨j, hj, rfl, hv, hb⟩ := hrel
    have HV := hid hv
    have HB := hid hb
    clear hv hb
    have hsz := sl_size (l.drop j)
    rw [List.length_drop] at hsz
    by_cases h0 : j = l.length
    · subst h0
      have hz : (sl (l.drop l.length)).size = 0 := by rw [hsz]; omega
      clear hsz
      go_wp2
      go_ret
      exact ⟨_, rfl, by have := HV.out; rwa [List.take_length] at this, HB.out⟩
    · obtain ⟨m, hm⟩ : ∃ m, m = l.length - j := ⟨_, rfl⟩
      rw [← hm] at hsz
      obtain ⟨k, hk⟩ : ∃ k, k = min m 9 := ⟨_, rfl⟩
      have hk0 : 0 < k := by omega
      have hkm : k ≤ m := by omega
      have hk9 : k ≤ 9 := by omega
      have hmin : min (m : Int) 9 = (k : Int) := by omega
      have HM := hid hm
      clear hk hm h0
      have hx1 : (sl (l.drop j)).extract 0 k = sl ((l.drop j).take k) := by rw [sl_extract]; simp [sl_data]
      have hx2 : (sl (l.drop j)).extract k m = sl (l.drop (j + k)) := by
        rw [sl_extract, sl_data, List.take_of_length_le (by simp only [List.length_drop]; have := HM.out; omega), List.drop_drop]
      obtain ⟨C, hC⟩ : ∃ C, C = (l.drop j).take k := ⟨_, rfl⟩
      have hCl : C.length = k := by rw [hC, List.length_take, List.length_drop, ← HM.out]; omega
      have hCd : ∀ c ∈ C, dgt c = true := by rw [hC]; exact mem_drop_take HD.out
      have hdv : dval (l.take (j + k)) = dval (l.take j) * 10 ^ k + dval C := by rw [dval_take, ← hC, hCl]
      rw [← hC] at hx1
      obtain ⟨w1, c1, hcv, hcl, hb1, hs1⟩ := bytes_run wr (sl C)
      have hs2 : (sl C).size = k := by rw [sl_size, hCl]
      have hm0 : (0 : Int) < (m : Int) := by omega
      have HC := hid hCl
      have HCD := hid hCd
      have HCL := hid hcl
      have HDV := hid hdv
      have HB1 := hid hb1
      clear hCl hCd hcl hdv hC hb1
      go_wp2_with fail
      go_loop [5, 6, 20] (fun vv sv iv => ∃ i x p : Nat, i ≤ k ∧ iv = .int .i64 (i : Int) ∧ vv = .int .u32 (x : Int) ∧ x = dval (C.take i) ∧ sv = .int .u32 (p : Int) ∧ p = 10 ^ i) (fun _ _ iv => k - (intOf iv).toNat)
      case atStart => exact ⟨0, 0, 1, by omega, rfl, rfl, rfl, rfl, rfl⟩
      case round =>
        obtain ⟨i, x, p, hi, rfl, rfl, hx, rfl, hp⟩ := hrel
        by_cases hik : i < k
        · have hiC : i < C.length := by rw [HC.out]; exact hik
          have hdg := HCD.out C[i] (List.getElem_mem hiC)
          have hcell : w1.cell? ⟨wr.heap.size, i, none⟩ = some (.int .u8 (C[i].toNat : Int)) := HCL.out i (by rw [sl_size]; exact hiC)
          have hst := dval_step hiC
          have hxl : x < 10 ^ i := by
            rw [hx]
            have := dval_lt (l := C.take i) (fun c hc => HCD.out c (List.mem_of_mem_take hc))
            rw [List.length_take, Nat.min_eq_left (by omega)] at this
            exact this
          have hpl : 10 ^ i ≤ 100000000 := by
            have := Nat.pow_le_pow_right (n := 10) (by omega) (show i ≤ 8 by omega)
            simpa using this
          rw [← hx] at hst
          rw [← hp] at hxl hpl
          have hp1 : p * 10 = 10 ^ (i + 1) := by rw [Nat.pow_succ, hp]
          unfold dgt at hdg
          generalize C[i].toNat = d at *
          have hd1 : 48 ≤ d := by simp at hdg; omega
          have hd2 : d ≤ 57 := by simp at hdg; omega
          have hw := sub48 d hd1 hd2
          have HST := hid hst
          have HP1 := hid hp1
          have hx9 : x < 100000000 := by omega
          clear hdg hst hp1 hx hp hxl
          go_wp2
          go_round
          case rel => exact ⟨i + 1, 10 * x + (d - 48), p * 10, by omega, by go_num, by congr 1, HST.out.symm, by go_num, HP1.out⟩
          case measure => simp [intOf]; omega
        · obtain rfl : i = k := by omega
          have hCt : C.take i = C := List.take_of_length_le (by rw [HC.out]; exact Nat.le_refl _)
          rw [hCt] at hx
          have hxl := dval_lt HCD.out
          rw [HC.out, ← hx] at hxl
          have hpl : 10 ^ i ≤ 1000000000 := by
            have := Nat.pow_le_pow_right (n := 10) (by omega) (show i ≤ 9 by omega)
            simpa using this
          rw [← hp] at hxl hpl
          have HX := hid hx
          have HPP := hid hp
          clear hCt hx hp
          go_wp2_with fail
          refine (mulWord_any _ (dval (l.take j)) p x _ (HV.out.below HB1.out) (by have := wl_ten (dval_lt (l := l.take j) (fun c hc => HD.out c (List.mem_of_mem_take hc))); rw [List.length_take] at this; omega) (by omega) (by omega)).mono ?_
          rintro e w2 ⟨v, rfl, hv, hb2⟩
          have HV2 := hid hv
          have HB2 := hid hb2
          clear hv hb2
          go_wp2
          go_roundw
          case rel => exact ⟨j + i, by have := HM.out; omega, rfl, by rw [HDV.out, ← HX.out, ← HPP.out]; exact HV2.out, below_trans HB.out (below_trans HB1.out HB2.out)⟩
          case measure => have h1 := HM.out; simp [sl_size, List.length_drop]; omega
end Go.Proofs.YtphlmmjlpbledaaGreatDoor
set_option linter.unusedSimpArgs false
set_option linter.unusedVariables false
namespace Go.Proofs.YtphlmmjlpbledaaGreatDoor
theorem digs_len (l : List UInt8) : (digs l).length + (past l).length = l.length := by have := congrArg List.length (digs_past l); simpa using this
theorem off_len (b : UInt8) (l : List UInt8) : (off b l).length ≤ l.length := by unfold off; split <;> simp
theorem hd_len {b : UInt8} {l : List UInt8} (h : isHd b l = true) : l.tail.length + 1 = l.length := by
  cases l with
  | nil => simp [isHd] at h
  | cons c l => simp
theorem exp_bd {l : List UInt8} (h : pExpOk l = true) : -400 ≤ pExpV l ∧ pExpV l ≤ 400 := by
  unfold pExpOk at h
  unfold pExpV
  simp at h
  split <;> omega
theorem expR_len (l : List UInt8) : (pExpR l).length ≤ l.length := by
  unfold pExpR
  have := digs_len (off 45 l)
  have := off_len 45 l
  omega
def MagBd (n : Nat) (o : Option (Nat × Nat × List UInt8)) : Prop := ∀ a b r, o = some (a, b, r) → a < 10 ^ (n + 401) ∧ b < 10 ^ (n + 401) ∧ r.length ≤ n
theorem pFin_bd {d r : List UInt8} {t : Int} {n : Nat} (hd : ∀ c ∈ d, dgt c = true) (h1 : d.length ≤ n) (h2 : r.length ≤ n) (h3 : t ≤ 400) (h4 : -(n : Int) - 400 ≤ t) : MagBd n (pFin d t r) := by
  rintro a b r' h
  unfold pFin at h
  injection h with h
  injection h with e1 h
  injection h with e2 e3
  subst e1 e2 e3
  refine ⟨?_, ?_, h2⟩
  · have h5 := dval_lt hd
    obtain ⟨E, hE⟩ : ∃ E : Nat, E = 400 := ⟨_, rfl⟩
    have h6 : (10 : Nat) ^ t.toNat ≤ 10 ^ E := Nat.pow_le_pow_right (by omega) (by omega)
    have h7 : (10 : Nat) ^ d.length ≤ 10 ^ n := Nat.pow_le_pow_right (by omega) h1
    have h8 : dval d * 10 ^ t.toNat < 10 ^ n * 10 ^ E := by
      have h9 : dval d < 10 ^ n := Nat.lt_of_lt_of_le h5 h7
      exact Nat.lt_of_le_of_lt (Nat.mul_le_mul_left _ h6) ((Nat.mul_lt_mul_right (Nat.pow_pos (by omega))).2 h9)
    rw [← Nat.pow_add] at h8
    exact Nat.lt_of_lt_of_le h8 (Nat.pow_le_pow_right (by omega) (by omega))
  · exact Nat.pow_lt_pow_right (by omega) (by omega)
theorem pTail_bd {d r : List UInt8} {t : Int} {n : Nat} (hd : ∀ c ∈ d, dgt c = true) (h1 : d.length ≤ n) (h2 : r.length ≤ n) (h3 : t ≤ 0) (h4 : -(n : Int) ≤ t) : MagBd n (pTail d t r) := by
  unfold pTail
  split
  · next h5 =>
    split
    · next h6 =>
      have := exp_bd h6
      have h7 := expR_len r.tail
      have := hd_len h5
      exact pFin_bd hd h1 (by omega) (by omega) (by omega)
    · rintro a b r' h; cases h
  · exact pFin_bd hd h1 h2 (by omega) (by omega)
theorem pMag_bd (l : List UInt8) : MagBd l.length (pMag l) := by
  have e1 := digs_len l
  unfold pMag
  split
  · split
    · next h47 =>
      have e2 := hd_len h47
      have e3 := digs_len (past l).tail
      split
      · rintro a b r h
        injection h with h
        injection h with x1 h
        injection h with x2 x3
        subst x1 x2 x3
        have b1 := dval_lt (l := digs l) digs_mem
        have b2 := dval_lt (l := digs (past l).tail) digs_mem
        exact ⟨Nat.lt_of_lt_of_le b1 (Nat.pow_le_pow_right (by omega) (by omega)), Nat.lt_of_lt_of_le b2 (Nat.pow_le_pow_right (by omega) (by omega)), by omega⟩
      · rintro a b r h; cases h
    · split
      · next h46 =>
        have e2 := hd_len h46
        have e3 := digs_len (past l).tail
        split
        · rintro a b r h; cases h
        · refine pTail_bd (fun c hc => ?_) (by rw [List.length_append]; omega) (by omega) (by omega) (by omega)
          rcases List.mem_append.1 hc with h | h
          · exact digs_mem c h
          · exact digs_mem c h
      · exact pTail_bd digs_mem (by omega) (by omega) (by omega) (by omega)
  · rintro a b r h; cases h
theorem pNum_bd {l : List UInt8} {ps : List Pt} (h : pNum l = some ps) : (ps.length = 1 ∨ ps.length = 2) ∧ ∀ p ∈ ps, p.a < 10 ^ (l.length + 401) ∧ p.b < 10 ^ (l.length + 401) := by
  have hl := off_len 45 l
  have mono : ∀ n, n ≤ l.length → (10 : Nat) ^ (n + 401) ≤ 10 ^ (l.length + 401) := fun n hn => Nat.pow_le_pow_right (by omega) (by omega)
  unfold pNum at h
  rcases h1 : pMag (off 45 l) with _ | ⟨a, b, r⟩
  · rw [h1] at h; cases h
  · rw [h1] at h
    obtain ⟨b1, b2, b3⟩ := pMag_bd _ _ _ _ h1
    have m1 := mono _ hl
    simp only at h
    split at h
    · split at h
      · injection h with h
        subst h
        exact ⟨.inl rfl, fun p hp => by rw [List.mem_singleton.1 hp]; exact ⟨by show a < _; omega, by show b < _; omega⟩⟩
      · cases h
    · split at h
      · injection h with h
        subst h
        exact ⟨.inl rfl, fun p hp => by rw [List.mem_singleton.1 hp]; exact ⟨by show a < _; omega, by show b < _; omega⟩⟩
      · split at h
        · rcases h2 : pMag r.tail with _ | ⟨a2, b2, r2⟩
          · rw [h2] at h; cases h
          · rw [h2] at h
            obtain ⟨c1, c2, c3⟩ := pMag_bd _ _ _ _ h2
            have hrt : r.tail.length ≤ r.length := by simp
            have m2 := mono r.tail.length (by omega)
            simp only at h
            split at h
            · injection h with h
              subst h
              refine ⟨.inr rfl, fun p hp => ?_⟩
              rcases List.mem_cons.1 hp with rfl | hp
              · exact ⟨by show a < _; omega, by show b < _; omega⟩
              · rw [List.mem_singleton.1 hp]; exact ⟨by show a2 < _; omega, by show b2 < _; omega⟩
            · cases h
        · cases h
end Go.Proofs.YtphlmmjlpbledaaGreatDoor
set_option linter.unusedSimpArgs false
set_option linter.unusedVariables false
namespace Go.Proofs.YtphlmmjlpbledaaGreatDoor
open Go.RowKit
set_option maxRecDepth 100000
def RetExp (w : World) (g : Nat) (s : ByteArray) (l : List UInt8) (e : Ending) (w' : World) : Prop :=
  ∃ v : Int, e = .returned (.tuple #[.int .i64 v, .bool (pExpOk l)]) ∧ (pExpOk l = true → v = pExpV l ∧ RdL w' g s (pExpR l)) ∧ w.grownBy w' (some g)
theorem exp_bad (g : Nat) (s : ByteArray) (l : List UInt8) (w : World) (h : RdL w g s l) (hs : s.size ≤ 1000000) (hq : okW (digs (off 45 l)) = false) :
    Calls Tryz.prog 170 #[.pointer (some ⟨g, 0, none⟩)] w (RetExp w g s l) := by
  have HT := hid (take_any g s 45 l w h hs)
  have HW := hid (fun W (h : RdL W g s (off 45 l)) => whole_any g s _ W h hs)
  have H1 := hid (show pExpOk l = false by simp [pExpOk, hq])
  rw [hq] at HW
  clear h hs hq
  go_enter Tryz.func170, Tryz.ntmps170
  go_wp2_with fail
  refine HT.out.mono ?_
  rintro e w2 ⟨rfl, hr, hg⟩
  have HG := hid hg
  clear hg
  go_wp2_with fail
  refine (HW.out _ hr).mono ?_
  rintro e w3 ⟨rfl, hr3, hg3⟩
  have HG3 := hid hg3
  clear hg3
  go_wp2
  go_ret2
  exact ⟨0, by rw [H1.out]; rfl, (fun h => absurd h (by rw [H1.out]; decide)), grown_trans HG.out HG3.out⟩
theorem exp_long (g : Nat) (s : ByteArray) (l : List UInt8) (w : World) (h : RdL w g s l) (hs : s.size ≤ 1000000) (hq : okW (digs (off 45 l)) = true) (hn : ¬ (digs (off 45 l)).length ≤ 3) :
    Calls Tryz.prog 170 #[.pointer (some ⟨g, 0, none⟩)] w (RetExp w g s l) := by
  have HT := hid (take_any g s 45 l w h hs)
  have HW := hid (fun W (h : RdL W g s (off 45 l)) => whole_any g s _ W h hs)
  have H1 := hid (show pExpOk l = false by simp [pExpOk, hn])
  have hsz := sl_size (digs (off 45 l))
  have hgt : (3 : Int) < ((digs (off 45 l)).length : Int) := by omega
  rw [hq] at HW
  clear h hs hq hn
  generalize (digs (off 45 l)).length = n at *
  go_enter Tryz.func170, Tryz.ntmps170
  go_wp2_with fail
  refine HT.out.mono ?_
  rintro e w2 ⟨rfl, hr, hg⟩
  have HG := hid hg
  clear hg
  go_wp2_with fail
  refine (HW.out _ hr).mono ?_
  rintro e w3 ⟨rfl, hr3, hg3⟩
  have HG3 := hid hg3
  clear hg3
  go_wp2
  go_ret2
  exact ⟨0, by rw [H1.out]; rfl, (fun h => absurd h (by rw [H1.out]; decide)), grown_trans HG.out HG3.out⟩
theorem exp_good (g : Nat) (s : ByteArray) (l : List UInt8) (w : World) (h : RdL w g s l) (hs : s.size ≤ 1000000) (hq : okW (digs (off 45 l)) = true) (hn : (digs (off 45 l)).length ≤ 3) :
    Calls Tryz.prog 170 #[.pointer (some ⟨g, 0, none⟩)] w (RetExp w g s l) := by
  have HT := hid (take_any g s 45 l w h hs)
  have HW := hid (fun W (h : RdL W g s (off 45 l)) => whole_any g s _ W h hs)
  have H1 := hid (show pExpOk l = decide (dval (digs (off 45 l)) ≤ 400) by simp [pExpOk, hq, hn])
  have H2 := hid (show pExpV l = if isHd 45 l then -(dval (digs (off 45 l)) : Int) else (dval (digs (off 45 l)) : Int) from rfl)
  have H3 := hid (show pExpR l = past (off 45 l) from rfl)
  have hsz := sl_size (digs (off 45 l))
  have HCD := hid (digs_mem (l := off 45 l))
  rw [hq] at HW
  clear h hs hq
  generalize past (off 45 l) = r at *
  generalize digs (off 45 l) = C at *
  obtain ⟨k, hk⟩ : ∃ k, k = C.length := ⟨_, rfl⟩
  rw [← hk] at hsz hn
  have HC := hid hk
  clear hk
  go_enter Tryz.func170, Tryz.ntmps170
  go_wp2_with fail
  refine HT.out.mono ?_
  rintro e w2 ⟨rfl, hr, hg⟩
  have HG := hid hg
  clear hg
  go_wp2_with fail
  refine (HW.out _ hr).mono ?_
  rintro e w3 ⟨rfl, hr3, hg3⟩
  have HG3 := hid hg3
  have HR3 := hid hr3
  clear hg3 hr hr3
  obtain ⟨w4, c4, hcv, hcl, hb4, hs4⟩ := bytes_run w3 (sl C)
  have HCL := hid hcl
  have HG4 := hid (grown_of_below hb4 (some g))
  have HR4 := hid (HR3.out.below hb4)
  have hng : ¬ (3 : Int) < (k : Int) := by omega
  clear hcl hb4
  go_wp2_with fail
  go_loop [7, 27] (fun vv iv => ∃ i x : Nat, i ≤ k ∧ iv = .int .i64 (i : Int) ∧ vv = .int .i64 (x : Int) ∧ x = dval (C.take i)) (fun _ iv => k - (intOf iv).toNat)
  case atStart => exact ⟨0, 0, by omega, rfl, rfl, rfl⟩
  case round =>
    obtain ⟨i, x, hi, rfl, rfl, hx⟩ := hrel
    by_cases hik : i < k
    · have hiC : i < C.length := by rw [← HC.out]; exact hik
      have hdg := HCD.out C[i] (List.getElem_mem hiC)
      have hcell : w4.cell? ⟨w3.heap.size, i, none⟩ = some (.int .u8 (C[i].toNat : Int)) := HCL.out i (by rw [sl_size]; exact hiC)
      have hst := dval_step hiC
      have hxl : x < 10 ^ i := by
        rw [hx]
        have := dval_lt (l := C.take i) (fun c hc => HCD.out c (List.mem_of_mem_take hc))
        rw [List.length_take, Nat.min_eq_left (by omega)] at this
        exact this
      have hpl : 10 ^ i ≤ 100 := by
        have := Nat.pow_le_pow_right (n := 10) (by omega) (show i ≤ 2 by omega)
        simpa using this
      rw [← hx] at hst
      unfold dgt at hdg
      generalize C[i].toNat = d at *
      have hd1 : 48 ≤ d := by simp at hdg; omega
      have hd2 : d ≤ 57 := by simp at hdg; omega
      have hw := sub48 d hd1 hd2
      have hx9 : x < 100 := by omega
      have HST := hid hst
      clear hdg hst hx hxl hpl
      go_wp2
      go_round
      case rel => exact ⟨i + 1, 10 * x + (d - 48), by omega, by go_num, by congr 1, HST.out.symm⟩
      case measure => simp [intOf]; omega
    · obtain rfl : i = k := by omega
      have hCt : C.take i = C := List.take_of_length_le (by rw [← HC.out]; exact Nat.le_refl _)
      rw [hCt] at hx
      have hxl := dval_lt HCD.out
      rw [← HC.out, ← hx] at hxl
      have hpl : 10 ^ i ≤ 1000 := by
        have := Nat.pow_le_pow_right (n := 10) (by omega) (show i ≤ 3 by omega)
        simpa using this
      have hx9 : x < 1000 := by omega
      rw [← hx] at H1 H2
      clear hCt hx hpl hxl
      have HGG := hid (grown_trans HG.out (grown_trans HG3.out HG4.out))
      have hdc : decide ((x : Int) ≤ 400) = decide (x ≤ 400) := by simp; omega
      rcases hb : isHd 45 l with _ | _
      · rw [hb] at H2
        go_wp2
        go_ret2
        exact ⟨x, by rw [H1.out, ← hdc]; rfl, fun _ => ⟨H2.out.symm, by rw [H3.out]; exact HR4.out⟩, HGG.out⟩
      · rw [hb] at H2
        go_wp2
        go_ret2
        exact ⟨-x, by rw [H1.out, ← hdc]; rfl, fun _ => ⟨H2.out.symm, by rw [H3.out]; exact HR4.out⟩, HGG.out⟩
theorem exponent_any (g : Nat) (s : ByteArray) (l : List UInt8) (w : World) (h : RdL w g s l) (hs : s.size ≤ 1000000) :
    Calls Tryz.prog 170 #[.pointer (some ⟨g, 0, none⟩)] w (RetExp w g s l) := by
  rcases hq : okW (digs (off 45 l)) with _ | _
  · exact exp_bad g s l w h hs hq
  · by_cases hn : (digs (off 45 l)).length ≤ 3
    · exact exp_good g s l w h hs hq hn
    · exact exp_long g s l w h hs hq hn
theorem IsNat.past {w w' : World} {v : Value} {x g : Nat} {s : ByteArray} {l : List UInt8} (h : IsNat w v x) (hR : RdL w g s l) (hg : w.grownBy w' (some g)) : IsNat w' v x := by
  obtain ⟨A, c, rfl, hc, hw⟩ := h
  refine ⟨A, c, rfl, hc, ?_⟩
  by_cases h0 : 0 < wl x
  · refine hw.grown hg fun a ha hab => ?_
    obtain ⟨b, off, e, hb, hcell⟩ := hw h0
    rw [e] at ha
    cases ha
    simp at hab
    subst hab
    obtain ⟨k, -, hk, -⟩ := hR
    have h1 := hcell 0 h0
    rw [cell_of_row w b _ _ _ (0, 0) hk] at h1
    rcases (show off + 0 = 0 ∨ off + 0 = 1 ∨ 2 ≤ off + 0 by omega) with h2 | h2 | h2
    · rw [h2] at h1; simp at h1
    · rw [h2] at h1; simp at h1
    · rw [Array.getElem?_eq_none (by simp; omega)] at h1; cases h1
  · exact fun h => absurd h h0
def PBx (w : World) (g : Nat) (a b c d : Value) : Prop := w.heap[g]? = some (.cells #[a, b, c, d] 117 (0, 0))
theorem PBx.lt {w : World} {g : Nat} {a b c d : Value} (h : PBx w g a b c d) : g < w.heap.size := by
  rcases Nat.lt_or_ge g w.heap.size with hlt | hge
  · exact hlt
  · unfold PBx at h; rw [Array.getElem?_eq_none hge] at h; cases h
theorem PBx.grown {w w' : World} {g r : Nat} {a b c d : Value} (h : PBx w g a b c d) (hg : w.grownBy w' (some r)) (hne : g ≠ r) : PBx w' g a b c d :=
  (hg.block g h.lt (by simp [hne])).trans h
theorem PBx.below {w w' : World} {g : Nat} {a b c d : Value} (h : PBx w g a b c d) (hb : Below w.heap.size w w') : PBx w' g a b c d := (hb.block g h.lt).trans h
theorem PBx.facts {w : World} {g : Nat} {a b c d : Value} (h : PBx w g a b c d) : w.cell? ⟨g, 0, none⟩ = some a ∧ w.cell? ⟨g, 1, none⟩ = some b ∧ w.cell? ⟨g, 2, none⟩ = some c ∧ w.cell? ⟨g, 3, none⟩ = some d ∧
    w.frozen? ⟨g, 0, none⟩ = false ∧ w.frozen? ⟨g, 1, none⟩ = false ∧ w.frozen? ⟨g, 2, none⟩ = false ∧ w.frozen? ⟨g, 3, none⟩ = false := by
  unfold PBx at h
  refine ⟨?_, ?_, ?_, ?_, ?_, ?_, ?_, ?_⟩
  · rw [cell_of_row w g 0 _ _ (0, 0) h]; rfl
  · rw [cell_of_row w g 1 _ _ (0, 0) h]; rfl
  · rw [cell_of_row w g 2 _ _ (0, 0) h]; rfl
  · rw [cell_of_row w g 3 _ _ (0, 0) h]; rfl
  all_goals simp [World.frozen?, h]
abbrev put4 (w : World) (g : Nat) (v0 v1 v2 v3 : Value) : World := (((w.setCell ⟨g, 0, none⟩ v0).setCell ⟨g, 1, none⟩ v1).setCell ⟨g, 2, none⟩ v2).setCell ⟨g, 3, none⟩ v3
theorem run_load4 {w : World} {g : Nat} {a b c d : Value} (h : PBx w g a b c d) (v0 v1 v2 v3 : Value) :
    ((Sem.run Tryz.prog (asAddr (Value.pointer (some { block := g, off := 0 }))) (put4 w g v0 v1 v2 v3)).andThen
      fun a w' => Sem.run Tryz.prog (loadVar 117 a) w') = Result.ok (Value.agg #[v0, v1, v2, v3]) (put4 w g v0 v1 v2 v3) := by
  obtain ⟨h0, h1, h2, h3, -⟩ := h.facts
  simp [go_sem, h0, h1, h2, h3]
theorem run_load4t {w : World} {g : Nat} {a b c d : Value} (h : PBx w g a b c d) (v0 v1 v2 v3 : Value) (ok : Bool) :
    ((Sem.run Tryz.prog (asAddr (Value.pointer (some { block := g, off := 0 }))) (put4 w g v0 v1 v2 v3)).andThen
      fun a w' => (Sem.run Tryz.prog (loadVar 117 a) w').andThen fun a w' => Result.ok (Value.tuple #[a, Value.bool ok]) w') = Result.ok (.tuple #[Value.agg #[v0, v1, v2, v3], .bool ok]) (put4 w g v0 v1 v2 v3) := by
  obtain ⟨h0, h1, h2, h3, -⟩ := h.facts
  simp [go_sem, h0, h1, h2, h3]
theorem put4_other {w : World} {g k : Nat} (h : g ≠ k) (v0 v1 v2 v3 : Value) : (put4 w g v0 v1 v2 v3).heap[k]? = w.heap[k]? :=
  (Below.heap_setCell _ _ _ _ (fun e => h e.symm)).trans ((Below.heap_setCell _ _ _ _ (fun e => h e.symm)).trans ((Below.heap_setCell _ _ _ _ (fun e => h e.symm)).trans (Below.heap_setCell _ _ _ _ (fun e => h e.symm))))
theorem put4_grown {w W : World} {g : Nat} {r : Option Nat} (h : w.grownBy W r) (hg : w.heap.size ≤ g) (v0 v1 v2 v3 : Value) : w.grownBy (put4 W g v0 v1 v2 v3) r :=
  ⟨h.os, h.tape, h.output, by simpa [World.setCell] using h.size, fun k hk hr => (put4_other (by omega) _ _ _ _).trans (h.block k hk hr)⟩
theorem IsNat.put4 {w : World} {v : Value} {x g : Nat} {a b c d : Value} (h : IsNat w v x) (hB : PBx w g a b c d) (ho : Odd a ∧ Odd b ∧ Odd c ∧ Odd d) (v0 v1 v2 v3 : Value) : IsNat (put4 w g v0 v1 v2 v3) v x := by
  obtain ⟨h0, h1, h2, h3, -⟩ := hB.facts
  obtain ⟨d0, d1, d2, d3⟩ := ho
  have ne : ∀ (w : World) (i j : Nat) (u : Value), i ≠ j → (w.setCell ⟨g, i, none⟩ u).cell? ⟨g, j, none⟩ = w.cell? ⟨g, j, none⟩ := fun w i j u hij => World.cell?_setCell_other _ _ _ _ (by simp <;> omega)
  have e1 := h.set_odd h0 d0 v0
  have e2 := e1.set_odd (p := ⟨g, 1, none⟩) ((ne _ _ _ _ (by omega)).trans h1) d1 v1
  have e3 := e2.set_odd (p := ⟨g, 2, none⟩) ((ne _ _ _ _ (by omega)).trans ((ne _ _ _ _ (by omega)).trans h2)) d2 v2
  exact e3.set_odd (p := ⟨g, 3, none⟩) ((ne _ _ _ _ (by omega)).trans ((ne _ _ _ _ (by omega)).trans ((ne _ _ _ _ (by omega)).trans h3))) d3 v3
theorem odd4 : Odd (.slice none 0 0) ∧ Odd (.slice none 0 0) ∧ Odd (.bool false) ∧ Odd (.bool false) := ⟨Odd.slice _ _ _, Odd.slice _ _ _, Odd.bool _, Odd.bool _⟩
abbrev PB0 (w : World) (g : Nat) : Prop := PBx w g (.slice none 0 0) (.slice none 0 0) (.bool false) (.bool false)
def RetMag (w : World) (g : Nat) (s : ByteArray) (l : List UInt8) (e : Ending) (w' : World) : Prop :=
  w.grownBy w' (some g) ∧ match pMag l with
  | none => ∃ A n c A' n' c', e = .returned (.tuple #[.agg #[.slice A n c, .slice A' n' c', .bool false, .bool false], .bool false])
  | some (a, b, r) => ∃ va vb, e = .returned (.tuple #[.agg #[va, vb, .bool false, .bool false], .bool true]) ∧ IsNat w' va a ∧ IsNat w' vb b ∧ RdL w' g s r
theorem RetMag.none_ {w W : World} {g B : Nat} {s : ByteArray} {l : List UInt8} (h : pMag l = none) (hg : w.grownBy W (some g)) (hB : w.heap.size ≤ B) (A : Option Addr) (n c : Nat) (A' : Option Addr) (n' c' : Nat) :
    RetMag w g s l (.returned (.tuple #[.agg #[.slice A n c, .slice A' n' c', .bool false, .bool false], .bool false])) (put4 W B (.slice A n c) (.slice A' n' c') (.bool false) (.bool false)) :=
  ⟨put4_grown hg hB _ _ _ _, by rw [h]; exact ⟨A, n, c, A', n', c', rfl⟩⟩
theorem RetMag.some_ {w W : World} {g B a b : Nat} {s : ByteArray} {l r : List UInt8} (h : pMag l = some (a, b, r)) (hg : w.grownBy W (some g)) (hB : w.heap.size ≤ B) (hP : PB0 W B) (hne : B ≠ g) {va vb : Value} (ha : IsNat W va a) (hb : IsNat W vb b) (hR : RdL W g s r) :
    RetMag w g s l (.returned (.tuple #[.agg #[va, vb, .bool false, .bool false], .bool true])) (put4 W B va vb (.bool false) (.bool false)) :=
  ⟨put4_grown hg hB _ _ _ _, by rw [h]; exact ⟨va, vb, rfl, ha.put4 hP odd4 _ _ _ _, hb.put4 hP odd4 _ _ _ _, hR.keep (put4_other hne _ _ _ _)⟩⟩
theorem mag_1 (g : Nat) (s : ByteArray) (l : List UInt8) (w : World) (h : RdL w g s l) (hs : s.size ≤ 1000000) (h1 : okW (digs l) = false) :
    Calls Tryz.prog 116 #[.pointer (some ⟨g, 0, none⟩)] w (RetMag w g s l) := by
  have HW := hid (fun W (h : RdL W g s l) => whole_any g s _ W h hs)
  have H0 := hid (show pMag l = none by simp [pMag, h1])
  rw [h1] at HW
  have HR := hid h
  have hne : w.heap.size ≠ g := fun e => Nat.lt_irrefl g (e ▸ h.lt)
  clear h h1 hs
  go_enter Tryz.func116, Tryz.ntmps116
  go_wp2_with fail
  refine (HW.out _ (HR.out.below (below_alloc _ _))).mono ?_
  rintro e w2 ⟨rfl, hr, hg⟩
  have HG := hid hg
  obtain ⟨f0, f1, f2, f3, y0, y1, y2, y3⟩ := PBx.facts (PBx.grown (g := w.heap.size) (heap_alloc_new w _) hg hne)
  have HP := hid (PBx.grown (g := w.heap.size) (heap_alloc_new w _) hg hne)
  have HGG := hid (grown_trans (grown_of_below (below_alloc w _) (some g)) hg)
  clear hg
  go_wp2
  exact bodyPost_ret (v := .tuple #[.agg #[.slice none 0 0, .slice none 0 0, .bool false, .bool false], .bool false]) (by simp [results, Tryz.results116]; exact run_load4t HP.out _ _ _ _ _) rfl (RetMag.none_ H0.out HGG.out (Nat.le_refl _) _ _ _ _ _ _)
end Go.Proofs.YtphlmmjlpbledaaGreatDoor
