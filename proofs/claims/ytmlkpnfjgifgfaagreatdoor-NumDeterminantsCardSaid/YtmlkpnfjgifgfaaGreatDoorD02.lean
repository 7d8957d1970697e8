/- Determinants: what elimination reckons is the determinant, which is multiplicative. -/
import Derived.Test.YtmlkpnfjgifgfaaGreatDoorG34
import Derived.Test.YtmlkpnfjgifgfaaGreatDoorG36
set_option linter.unusedSimpArgs false
set_option linter.unusedVariables false
namespace Go.Proofs.YtmlkpnfjgifgfaaGreatDoor
set_option maxRecDepth 100000

theorem sm_first' (f : Nat → Cx) (j : Nat) : sm f j 1 = f j := by rw [sm, sm, Cx.add_zero]
/-- The sign of a place. -/
def sg (i : Nat) : Cx := if i % 2 = 0 then .int 1 else .int (-1)
theorem Cx.neg_neg (x : Cx) : x.neg.neg = x := by apply Cx.ext <;> simp only [Cx.neg] <;> grind
theorem Cx.neg_mul (x y : Cx) : x.neg.mul y = (x.mul y).neg := by apply Cx.ext <;> simp only [Cx.neg, Cx.mul] <;> grind
theorem Cx.mul_neg (x y : Cx) : x.mul y.neg = (x.mul y).neg := by apply Cx.ext <;> simp only [Cx.neg, Cx.mul] <;> grind
theorem Cx.neg_zero : Cx.zero.neg = .zero := by apply Cx.ext <;> simp only [Cx.neg, Cx.zero] <;> grind
theorem Cx.add_neg' (x : Cx) : x.add x.neg = .zero := by apply Cx.ext <;> simp only [Cx.neg, Cx.add, Cx.zero] <;> grind
theorem Cx.sub_mul_eq (x c y : Cx) : x.sub (c.mul y) = x.add (c.neg.mul y) := by apply Cx.ext <;> simp only [Cx.neg, Cx.add, Cx.sub, Cx.mul] <;> grind
theorem Cx.neg_of_add {x y : Cx} (h : x.add y = .zero) : y = x.neg := by
  have h1 := congrArg Cx.re h
  have h2 := congrArg Cx.im h
  simp only [Cx.add, Cx.zero] at h1 h2
  apply Cx.ext <;> simp only [Cx.neg] <;> grind
theorem int_neg_one : Cx.int (-1) = (Cx.int 1).neg := by apply Cx.ext <;> simp [Cx.int, Cx.neg]
theorem sg_zero : sg 0 = .int 1 := rfl
theorem sg_next (i : Nat) : sg (i + 1) = (sg i).neg := by
  unfold sg
  by_cases h : i % 2 = 0
  · rw [if_pos h, if_neg (by omega), int_neg_one]
  · rw [if_neg h, if_pos (by omega), int_neg_one, Cx.neg_neg]
/-- Index i is skipped. -/
def sk (i a : Nat) : Nat := if a < i then a else a + 1
theorem sk_ne (i a : Nat) : sk i a ≠ i := by unfold sk; split <;> omega
theorem sk_lt {i a n : Nat} (ha : a < n) : sk i a < n + 1 := by unfold sk; split <;> omega
/-- Row i and column j are left out. -/
def mnr (i j : Nat) (F : Nat → Nat → Cx) : Nat → Nat → Cx := fun a b => F (sk i a) (sk j b)
/-- The determinant, along the first column and along the first row. -/
def dC : Nat → (Nat → Nat → Cx) → Cx
  | 0, _ => .int 1
  | n + 1, F => sm (fun i => (sg i).mul ((F i 0).mul (dC n (mnr i 0 F)))) 0 (n + 1)
def dR : Nat → (Nat → Nat → Cx) → Cx
  | 0, _ => .int 1
  | n + 1, F => sm (fun j => (sg j).mul ((F 0 j).mul (dR n (mnr 0 j F)))) 0 (n + 1)
theorem dR_trans : ∀ (n : Nat) (F : Nat → Nat → Cx), dR n (fun i j => F j i) = dC n F := by
  intro n
  induction n with
  | zero => intro F; rfl
  | succ n ih =>
    intro F
    rw [dR, dC]
    refine sm_congr _ _ fun i _ _ => ?_
    rw [← ih (mnr i 0 F)]
    rfl
theorem dC_congr : ∀ (n : Nat) (F G : Nat → Nat → Cx), (∀ i j, i < n → j < n → F i j = G i j) → dC n F = dC n G := by
  intro n
  induction n with
  | zero => intro F G _; rfl
  | succ n ih =>
    intro F G h
    rw [dC, dC]
    refine sm_congr _ _ fun i _ hi => ?_
    rw [h i 0 (by omega) (by omega), ih (mnr i 0 F) (mnr i 0 G) fun a b ha hb => h _ _ (sk_lt ha) (sk_lt hb)]

/-- Linear in each row, and 0 where two neighbours are equal. -/
structure Alt (n : Nat) (f : (Nat → Nat → Cx) → Cx) : Prop where
  congr : ∀ F G : Nat → Nat → Cx, (∀ i j, i < n → j < n → F i j = G i j) → f F = f G
  add : ∀ (F : Nat → Nat → Cx) (r : Nat) (u v : Nat → Cx), r < n → f (upf F r fun j => (u j).add (v j)) = (f (upf F r u)).add (f (upf F r v))
  mul : ∀ (F : Nat → Nat → Cx) (r : Nat) (c : Cx) (u : Nat → Cx), r < n → f (upf F r fun j => c.mul (u j)) = c.mul (f (upf F r u))
  alt : ∀ (F : Nat → Nat → Cx) (r : Nat), r + 1 < n → (∀ j, j < n → F r j = F (r + 1) j) → f F = .zero
theorem upf_self {α : Type} (F : Nat → α) (r : Nat) : upf F r (F r) = F := by
  funext i
  unfold upf
  split
  · rename_i h; rw [h]
  · rfl
theorem upf_comm {α : Type} (F : Nat → α) {r s : Nat} (h : r ≠ s) (u v : α) : upf (upf F r u) s v = upf (upf F s v) r u := by
  funext i
  unfold upf
  by_cases h1 : i = s
  · rw [if_pos h1, if_neg (by omega), if_pos h1]
  · rw [if_neg h1]
    by_cases h2 : i = r
    · rw [if_pos h2, if_pos h2]
    · rw [if_neg h2, if_neg h2, if_neg h1]
theorem swp_upf {α : Type} (F : Nat → α) {r s : Nat} (h : r ≠ s) : swp F r s = upf (upf F r (F s)) s (F r) := by
  funext i
  unfold swp upf
  by_cases h1 : i = r
  · rw [if_pos h1, if_neg (by omega), if_pos h1]
  · rw [if_neg h1]
    by_cases h2 : i = s
    · rw [if_pos h2, if_pos h2]
    · rw [if_neg h2, if_neg h2, if_neg h1]
section
variable {n : Nat} {f : (Nat → Nat → Cx) → Cx} (hf : Alt n f)
include hf
/-- From 'equal rows give 0' to 'exchanged rows change the sign'. -/
theorem Alt.swap_of {r s : Nat} (hr : r < n) (hs : s < n) (hrs : r ≠ s) (hz : ∀ F : Nat → Nat → Cx, (∀ j, j < n → F r j = F s j) → f F = .zero) (F : Nat → Nat → Cx) : f (swp F r s) = (f F).neg := by
  have hH : ∀ u v : Nat → Cx, u = v → f (upf (upf F r u) s v) = .zero := fun u v e => hz _ fun j _ => by
    rw [upf_same, upf_other _ _ hrs, upf_same, e]
  have e1 := hH (fun j => (F r j).add (F s j)) (fun j => (F r j).add (F s j)) rfl
  rw [hf.add _ s _ _ hs] at e1
  rw [upf_comm F hrs, hf.add _ r _ _ hr, upf_comm F hrs, hf.add _ r _ _ hr] at e1
  rw [← upf_comm F hrs (F r) (F r), ← upf_comm F hrs (F s) (F r), ← upf_comm F hrs (F r) (F s), ← upf_comm F hrs (F s) (F s), hH _ _ rfl, hH _ _ rfl] at e1
  rw [Cx.zero_add, Cx.add_zero] at e1
  have e2 : upf (upf F r (F r)) s (F s) = F := by rw [upf_self, upf_self]
  rw [e2] at e1
  rw [swp_upf F hrs]
  have := Cx.neg_of_add e1
  rw [this, Cx.neg_neg]
theorem Alt.swap1 {r : Nat} (hr : r + 1 < n) (F : Nat → Nat → Cx) : f (swp F r (r + 1)) = (f F).neg :=
  hf.swap_of (by omega) hr (by omega) (fun F h => hf.alt F r hr h) F
theorem Alt.zero_lt : ∀ (d r : Nat), r + 1 + d < n → ∀ F : Nat → Nat → Cx, (∀ j, j < n → F r j = F (r + 1 + d) j) → f F = .zero := by
  intro d
  induction d with
  | zero => intro r hr F h; exact hf.alt F r hr h
  | succ d ih =>
    intro r hr F h
    have h1 := hf.swap1 (r := r + 1 + d) (by omega) F
    have h2 := ih r (by omega) (swp F (r + 1 + d) (r + 1 + d + 1)) fun j hj => by
      unfold swp
      rw [if_neg (by omega), if_neg (by omega), if_pos rfl]
      exact h j hj
    rw [h2] at h1
    rw [← Cx.neg_neg (f F), ← h1, Cx.neg_zero]
theorem Alt.zero {r s : Nat} (hr : r < n) (hs : s < n) (hrs : r ≠ s) (F : Nat → Nat → Cx) (h : ∀ j, j < n → F r j = F s j) : f F = .zero := by
  rcases Nat.lt_or_ge r s with h1 | h1
  · exact hf.zero_lt (s - r - 1) r (by omega) F fun j hj => by rw [show r + 1 + (s - r - 1) = s by omega]; exact h j hj
  · exact hf.zero_lt (r - s - 1) s (by omega) F fun j hj => by rw [show s + 1 + (r - s - 1) = r by omega]; exact (h j hj).symm
theorem Alt.swap {r s : Nat} (hr : r < n) (hs : s < n) (hrs : r ≠ s) (F : Nat → Nat → Cx) : f (swp F r s) = (f F).neg :=
  hf.swap_of hr hs hrs (fun F h => hf.zero hr hs hrs F h) F
/-- A row may be subtracted from another one. -/
theorem Alt.sub {r s : Nat} (hr : r < n) (hs : s < n) (hrs : r ≠ s) (F : Nat → Nat → Cx) (c : Cx) : f (upf F s fun j => (F s j).sub (c.mul (F r j))) = f F := by
  have e : (fun j => (F s j).sub (c.mul (F r j))) = fun j => (F s j).add (c.neg.mul (F r j)) := by
    funext j
    exact Cx.sub_mul_eq _ _ _
  rw [e, hf.add F s _ _ hs, hf.mul F s _ _ hs, upf_self, hf.zero hr hs hrs (upf F s (F r)) fun j _ => by rw [upf_same, upf_other _ _ hrs], Cx.mul_zero, Cx.add_zero]
theorem Alt.zero_row {r : Nat} (hr : r < n) (F : Nat → Nat → Cx) : f (upf F r fun _ => .zero) = .zero := by
  have := hf.mul F r .zero (fun _ => .zero) hr
  rw [Cx.zero_mul, Cx.zero_mul] at this
  exact this
/-- A row that is a sum. -/
theorem Alt.lin {r : Nat} (hr : r < n) (F : Nat → Nat → Cx) (c : Nat → Cx) (E : Nat → Nat → Cx) : ∀ (d k : Nat), f (upf F r fun b => sm (fun j => (c j).mul (E j b)) k d) = sm (fun j => (c j).mul (f (upf F r (E j)))) k d := by
  intro d
  induction d with
  | zero => intro k; exact hf.zero_row hr F
  | succ d ih =>
    intro k
    rw [sm, ← ih (k + 1), ← hf.mul F r _ _ hr, ← hf.add F r _ _ hr]
    rfl
end
/-- The determinant along the first column is of this kind. -/
theorem mnr_upf_same (F : Nat → Nat → Cx) (r : Nat) (w : Nat → Cx) : mnr r 0 (upf F r w) = mnr r 0 F := by
  funext a b
  show upf F r w (sk r a) (sk 0 b) = F (sk r a) (sk 0 b)
  rw [upf_other _ _ (sk_ne r a)]
/-- Where row r lies when row i is left out. -/
def us (i r : Nat) : Nat := if r < i then r else r - 1
theorem sk_us {i r : Nat} (h : r ≠ i) : sk i (us i r) = r := by
  unfold sk us
  split <;> (try split) <;> omega
theorem us_sk (i a : Nat) : us i (sk i a) = a := by
  unfold sk us
  split <;> (try split) <;> omega
theorem mnr_upf (F : Nat → Nat → Cx) {i r : Nat} (h : r ≠ i) (w : Nat → Cx) : mnr i 0 (upf F r w) = upf (mnr i 0 F) (us i r) (fun b => w (sk 0 b)) := by
  funext a b
  show upf F r w (sk i a) (sk 0 b) = _
  unfold upf
  by_cases h1 : sk i a = r
  · rw [if_pos h1, if_pos (by rw [← h1, us_sk])]
  · rw [if_neg h1, if_neg fun e => h1 (by rw [e, sk_us h])]
    rfl
theorem dC_alt : ∀ n, Alt n (dC n) := by
  intro n
  induction n with
  | zero => exact ⟨fun F G h => dC_congr 0 F G h, fun F r u v h => absurd h (by omega), fun F r c u h => absurd h (by omega), fun F r h => absurd h (by omega)⟩
  | succ n ih =>
    refine ⟨fun F G h => dC_congr _ F G h, fun F r u v hr => ?_, fun F r c u hr => ?_, fun F r hr he => ?_⟩
    · rw [dC, dC, dC, ← sm_add]
      refine sm_congr _ _ fun i _ hi => ?_
      by_cases h : r = i
      · subst h
        simp only [upf_same, mnr_upf_same]
        generalize dC n (mnr r 0 F) = x
        generalize sg r = s
        apply Cx.ext <;> simp only [Cx.add, Cx.mul] <;> grind
      · have h' : i ≠ r := fun e => h e.symm
        have hu : us i r < n := by unfold us; split <;> omega
        simp only [upf_other _ _ h', mnr_upf F h, ih.add _ _ _ _ hu]
        generalize dC n (upf (mnr i 0 F) (us i r) fun b => u (sk 0 b)) = x
        generalize dC n (upf (mnr i 0 F) (us i r) fun b => v (sk 0 b)) = y
        generalize sg i = s
        apply Cx.ext <;> simp only [Cx.add, Cx.mul] <;> grind
    · rw [dC, dC, ← sm_mul]
      refine sm_congr _ _ fun i _ hi => ?_
      by_cases h : r = i
      · subst h
        simp only [upf_same, mnr_upf_same]
        generalize dC n (mnr r 0 F) = x
        generalize sg r = s
        apply Cx.ext <;> simp only [Cx.mul] <;> grind
      · have h' : i ≠ r := fun e => h e.symm
        have hu : us i r < n := by unfold us; split <;> omega
        simp only [upf_other _ _ h', mnr_upf F h, ih.mul _ _ _ _ hu]
        generalize dC n (upf (mnr i 0 F) (us i r) fun b => u (sk 0 b)) = x
        generalize sg i = s
        apply Cx.ext <;> simp only [Cx.mul] <;> grind
    · rw [dC, show n + 1 = r + (1 + (1 + (n - 1 - r))) by omega, sm_split, sm_split, sm_split]
      have hz : ∀ i, i < n + 1 → i ≠ r → i ≠ r + 1 → (sg i).mul ((F i 0).mul (dC n (mnr i 0 F))) = .zero := fun i hi h1 h2 => by
        have e : dC n (mnr i 0 F) = .zero := by
          refine ih.alt _ (us i r) (by unfold us; split <;> omega) fun j hj => ?_
          show F (sk i (us i r)) (sk 0 j) = F (sk i (us i r + 1)) (sk 0 j)
          have e2 : us i r + 1 = us i (r + 1) := by unfold us; split <;> split <;> omega
          rw [e2, sk_us (Ne.symm h1), sk_us (Ne.symm h2)]
          exact he _ (sk_lt hj)
        rw [e, Cx.mul_zero, Cx.mul_zero]
      rw [sm_zero r 0 fun i _ hi => hz i (by omega) (by omega) (by omega), sm_zero (n - 1 - r) _ fun i h1 h2 => hz i (by omega) (by omega) (by omega), sm_first', sm_first', Nat.zero_add]
      have e3 : dC n (mnr (r + 1) 0 F) = dC n (mnr r 0 F) := dC_congr _ _ _ fun a b ha hb => by
        show F (sk (r + 1) a) (sk 0 b) = F (sk r a) (sk 0 b)
        rcases Nat.lt_trichotomy a r with h | h | h
        · rw [show sk (r + 1) a = a by unfold sk; rw [if_pos (by omega)], show sk r a = a by unfold sk; rw [if_pos (by omega)]]
        · rw [show sk (r + 1) a = r by unfold sk; rw [if_pos (by omega)]; exact h, show sk r a = r + 1 by unfold sk; rw [if_neg (by omega)]; omega]
          exact he _ (sk_lt hb)
        · rw [show sk (r + 1) a = a + 1 by unfold sk; rw [if_neg (by omega)], show sk r a = a + 1 by unfold sk; rw [if_neg (by omega)]]
      rw [e3, ← he 0 (by omega), sg_next]
      generalize dC n (mnr r 0 F) = x
      generalize sg r = s
      generalize F r 0 = y
      apply Cx.ext <;> simp only [Cx.add, Cx.mul, Cx.neg, Cx.zero] <;> grind
theorem dC_id : ∀ n, dC n idF = .int 1 := by
  intro n
  induction n with
  | zero => rfl
  | succ n ih =>
    rw [dC, sm_one (i := 0) (by omega) fun i _ hi => by rw [show idF i 0 = .zero from if_neg hi, Cx.zero_mul, Cx.mul_zero]]
    have e : mnr 0 0 idF = idF := by
      funext a b
      show idF (a + 1) (b + 1) = idF a b
      unfold idF
      by_cases h : a = b
      · rw [if_pos h, if_pos (by omega)]
      · rw [if_neg h, if_neg (by omega)]
    rw [e, ih, sg_zero, show idF 0 0 = .int 1 from if_pos rfl, Cx.one_mul, Cx.one_mul]

/-- A row with a 0 put in at place j. -/
def ins (j : Nat) (w : Nat → Cx) : Nat → Cx := fun b => if b = j then .zero else w (us j b)
/-- A matrix with a row of the identity put on top, and zeros below its 1. -/
def top (j : Nat) (G : Nat → Nat → Cx) : Nat → Nat → Cx := fun a => if a = 0 then idF j else ins j (G (a - 1))
theorem top_upf (j : Nat) (G : Nat → Nat → Cx) (r : Nat) (w : Nat → Cx) : top j (upf G r w) = upf (top j G) (r + 1) (ins j w) := by
  funext a
  show (if a = 0 then idF j else ins j (if a - 1 = r then w else G (a - 1))) = if a = r + 1 then ins j w else if a = 0 then idF j else ins j (G (a - 1))
  by_cases h : a = 0
  · rw [if_pos h, if_neg (by omega), if_pos h]
  · rw [if_neg h]
    by_cases h1 : a = r + 1
    · rw [if_pos h1, if_pos (by omega)]
    · rw [if_neg h1, if_neg (by omega), if_neg h]
theorem top_alt {n j : Nat} {f : (Nat → Nat → Cx) → Cx} (hf : Alt (n + 1) f) (hj : j < n + 1) : Alt n (fun G => f (top j G)) := by
  refine ⟨fun F G h => hf.congr _ _ fun a b ha hb => ?_, fun F r u v hr => ?_, fun F r c u hr => ?_, fun F r hr he => ?_⟩
  · unfold top
    by_cases h0 : a = 0
    · rw [if_pos h0, if_pos h0]
    · rw [if_neg h0, if_neg h0]
      unfold ins
      by_cases h1 : b = j
      · rw [if_pos h1, if_pos h1]
      · rw [if_neg h1, if_neg h1]
        exact h _ _ (by omega) (by unfold us; split <;> omega)
  · simp only [top_upf]
    rw [← hf.add _ _ _ _ (by omega)]
    congr 1
    congr 1
    funext b
    unfold ins
    by_cases h : b = j
    · rw [if_pos h, if_pos h, if_pos h, Cx.zero_add]
    · rw [if_neg h, if_neg h, if_neg h]
  · simp only [top_upf]
    rw [← hf.mul _ _ _ _ (by omega)]
    congr 1
    congr 1
    funext b
    unfold ins
    by_cases h : b = j
    · rw [if_pos h, if_pos h, Cx.mul_zero]
    · rw [if_neg h, if_neg h]
  · refine hf.alt _ (r + 1) (by omega) fun b hb => ?_
    show (if b = j then Cx.zero else F r (us j b)) = if b = j then Cx.zero else F (r + 1) (us j b)
    by_cases h1 : b = j
    · rw [if_pos h1, if_pos h1]
    · rw [if_neg h1, if_neg h1]
      exact he _ (by unfold us; split <;> omega)
/-- The rows of the identity with row j brought up. -/
def perm (j : Nat) : Nat → Nat → Cx := fun a => if a = 0 then idF j else idF (sk j (a - 1))
theorem top_id (j : Nat) : top j idF = perm j := by
  funext a
  unfold top perm
  by_cases h : a = 0
  · rw [if_pos h, if_pos h]
  · rw [if_neg h, if_neg h]
    funext b
    unfold ins idF
    by_cases h1 : b = j
    · rw [if_pos h1, if_neg (by rw [h1]; exact sk_ne _ _)]
    · rw [if_neg h1]
      by_cases h2 : a - 1 = us j b
      · rw [if_pos h2, if_pos (by rw [h2, sk_us h1])]
      · rw [if_neg h2, if_neg fun e => h2 (by rw [← e, us_sk])]
theorem perm_zero : perm 0 = idF := by
  funext a
  unfold perm
  by_cases h : a = 0
  · rw [if_pos h, h]
  · rw [if_neg h]
    unfold sk
    rw [if_neg (by omega), show a - 1 + 1 = a by omega]
theorem perm_next (j : Nat) : perm (j + 1) = swp (perm j) 0 (j + 1) := by
  funext a
  show (if a = 0 then idF (j + 1) else idF (sk (j + 1) (a - 1))) = if a = 0 then idF (sk j j) else if a = j + 1 then idF j else if a = 0 then idF j else idF (sk j (a - 1))
  by_cases h : a = 0
  · rw [if_pos h, if_pos h, show sk j j = j + 1 by unfold sk; rw [if_neg (by omega)]]
  · rw [if_neg h, if_neg h]
    by_cases h1 : a = j + 1
    · rw [if_pos h1, show sk (j + 1) (a - 1) = j by unfold sk; rw [if_pos (by omega)]; omega]
    · rw [if_neg h1, if_neg h]
      congr 1
      unfold sk
      split <;> (try split) <;> omega
theorem perm_sign {n : Nat} {f : (Nat → Nat → Cx) → Cx} (hf : Alt (n + 1) f) : ∀ j, j < n + 1 → f (perm j) = (sg j).mul (f idF) := by
  intro j
  induction j with
  | zero => intro _; rw [perm_zero, sg_zero, Cx.one_mul]
  | succ j ih =>
    intro hj
    rw [perm_next, hf.swap (by omega) hj (by omega), ih (by omega), sg_next, Cx.neg_mul]
/-- Below the 1 of the first row, column j may be cleared. -/
def clr (j : Nat) (F : Nat → Nat → Cx) (t : Nat) : Nat → Nat → Cx := fun a => if a = 0 then idF j else if a < t + 1 then fun b => (F a b).sub ((F a j).mul (idF j b)) else F a
theorem clr_all {n : Nat} {f : (Nat → Nat → Cx) → Cx} (hf : Alt (n + 1) f) (j : Nat) (F : Nat → Nat → Cx) : ∀ t, t < n + 1 → f (clr j F t) = f (upf F 0 (idF j)) := by
  intro t
  induction t with
  | zero =>
    intro _
    congr 1
    funext a
    unfold clr upf
    by_cases h : a = 0
    · rw [if_pos h, if_pos h]
    · rw [if_neg h, if_neg h, if_neg (by omega)]
  | succ t ih =>
    intro ht
    rw [← ih (by omega), ← hf.sub (r := 0) (s := t + 1) (by omega) ht (by omega) (clr j F t) (F (t + 1) j)]
    congr 1
    funext a
    have e0 : clr j F t 0 = idF j := if_pos rfl
    have e1 : clr j F t (t + 1) = F (t + 1) := by
      unfold clr
      rw [if_neg (by omega), if_neg (by omega)]
    rw [e0, e1]
    unfold upf
    by_cases h1 : a = t + 1
    · subst h1
      rw [if_pos rfl]
      unfold clr
      rw [if_neg (by omega), if_pos (by omega)]
    · rw [if_neg h1]
      unfold clr
      by_cases h : a = 0
      · rw [if_pos h, if_pos h]
      · rw [if_neg h, if_neg h]
        by_cases h2 : a < t + 1
        · rw [if_pos h2, if_pos (by omega)]
        · rw [if_neg h2, if_neg (by omega)]
theorem clr_top {n j : Nat} {f : (Nat → Nat → Cx) → Cx} (hf : Alt (n + 1) f) (F : Nat → Nat → Cx) : f (clr j F n) = f (top j (mnr 0 j F)) := by
  refine hf.congr _ _ fun a b ha hb => ?_
  unfold clr top
  by_cases h : a = 0
  · rw [if_pos h, if_pos h]
  · rw [if_neg h, if_neg h, if_pos ha]
    show (F a b).sub ((F a j).mul (idF j b)) = ins j (mnr 0 j F (a - 1)) b
    unfold ins
    by_cases h1 : b = j
    · rw [if_pos h1, h1, show idF j j = .int 1 from if_pos rfl, Cx.mul_one]
      apply Cx.ext <;> simp only [Cx.sub, Cx.zero] <;> grind
    · rw [if_neg h1, show idF j b = .zero from if_neg fun e => h1 e.symm, Cx.mul_zero]
      show _ = F (sk 0 (a - 1)) (sk j (us j b))
      rw [sk_us h1, show sk 0 (a - 1) = a by unfold sk; rw [if_neg (by omega)]; omega]
      apply Cx.ext <;> simp only [Cx.sub, Cx.zero] <;> grind
/-- **There is only one such function, but for a factor.** -/
theorem alt_unique : ∀ (n : Nat) (f : (Nat → Nat → Cx) → Cx), Alt n f → ∀ F, f F = (dR n F).mul (f idF) := by
  intro n
  induction n with
  | zero => intro f hf F; rw [dR, Cx.one_mul]; exact hf.congr _ _ fun i j hi => absurd hi (by omega)
  | succ n ih =>
    intro f hf F
    have e1 : f F = f (upf F 0 fun b => sm (fun j => (F 0 j).mul (idF j b)) 0 (n + 1)) := hf.congr _ _ fun a b ha hb => by
      unfold upf
      by_cases h : a = 0
      · rw [if_pos h, h]
        exact (sm_id (F 0) (n + 1) b hb).symm
      · rw [if_neg h]
    rw [e1, hf.lin (by omega) F (F 0) idF (n + 1) 0, dR, Cx.mul_comm, ← sm_mul]
    refine sm_congr _ _ fun j _ hj => ?_
    rw [← clr_all hf j F n (by omega), clr_top hf F, ih _ (top_alt hf (show j < n + 1 by omega)) (mnr 0 j F), top_id, perm_sign hf j (by omega)]
    generalize dR n (mnr 0 j F) = x
    generalize f idF = y
    generalize sg j = s
    generalize F 0 j = z
    apply Cx.ext <;> simp only [Cx.mul] <;> grind
theorem dC_dR (n : Nat) (F : Nat → Nat → Cx) : dC n F = dR n F := by
  rw [alt_unique n (dC n) (dC_alt n) F, dC_id, Cx.mul_one]
theorem dC_trans (n : Nat) (F : Nat → Nat → Cx) : dC n (fun i j => F j i) = dC n F := by
  rw [dC_dR, dR_trans]
end Go.Proofs.YtmlkpnfjgifgfaaGreatDoor
set_option linter.unusedSimpArgs false
set_option linter.unusedVariables false
namespace Go.Proofs.YtmlkpnfjgifgfaaGreatDoor
set_option maxRecDepth 100000

/-- Row c subtracted from those between it and row t. -/
def part (c : Nat) (T : Nat → Nat → Cx) (q : Nat → Cx) (t : Nat) : Nat → Nat → Cx := fun a => if c < a ∧ a < t then fun b => (T a b).sub ((q a).mul (T c b)) else T a
theorem part_all {n : Nat} {f : (Nat → Nat → Cx) → Cx} (hf : Alt n f) {c : Nat} (hc : c < n) (T : Nat → Nat → Cx) (q : Nat → Cx) : ∀ t, t ≤ n → f (part c T q t) = f T := by
  intro t
  induction t with
  | zero =>
    intro _
    congr 1
    funext a
    exact if_neg (by omega)
  | succ t ih =>
    intro ht
    rw [← ih (by omega)]
    rcases Nat.lt_or_ge c t with h | h
    · rw [← hf.sub (r := c) (s := t) hc (by omega) (by omega) (part c T q t) (q t)]
      congr 1
      funext a
      have e0 : part c T q t c = T c := if_neg (by omega)
      have e1 : part c T q t t = T t := if_neg (by omega)
      rw [e0, e1]
      show (if c < a ∧ a < t + 1 then fun b => (T a b).sub ((q a).mul (T c b)) else T a) = if a = t then (fun b => (T t b).sub ((q t).mul (T c b))) else if c < a ∧ a < t then fun b => (T a b).sub ((q a).mul (T c b)) else T a
      by_cases h1 : a = t
      · rw [if_pos h1, if_pos (by omega), h1]
      · rw [if_neg h1]
        by_cases h2 : c < a ∧ a < t
        · rw [if_pos h2, if_pos (by omega)]
        · rw [if_neg h2, if_neg (by omega)]
    · congr 1
      funext a
      show (if c < a ∧ a < t + 1 then fun b => (T a b).sub ((q a).mul (T c b)) else T a) = if c < a ∧ a < t then fun b => (T a b).sub ((q a).mul (T c b)) else T a
      rw [if_neg (by omega), if_neg (by omega)]
theorem dC_clear {n c : Nat} (F : Nat → Nat → Cx) (hc : c < n) (h0 : F c c ≠ .zero) : dC n (eff (c + 1) (clearF F c c n)) = dC n (eff c F) := by
  rw [← part_all (dC_alt n) hc (eff c F) (fun a => (F a c).div (F c c)) n (Nat.le_refl _)]
  refine dC_congr n _ _ fun i j hi hj => ?_
  show eff (c + 1) (clearF F c c n) i j = (if c < i ∧ i < n then fun b => (eff c F i b).sub (((F i c).div (F c c)).mul (eff c F c b)) else eff c F i) j
  rcases Nat.lt_or_ge c i with h1 | h1
  · rw [if_pos ⟨h1, hi⟩]
    unfold eff
    rcases Nat.lt_trichotomy j c with h | h | h
    · rw [if_pos (by omega), if_pos (by omega), if_pos (by omega), Cx.mul_zero]
      apply Cx.ext <;> simp only [Cx.sub, Cx.zero] <;> grind
    · subst h
      rw [if_pos (by omega), if_neg (by omega), if_neg (by omega), Cx.div_mul' _ h0]
      apply Cx.ext <;> simp only [Cx.sub, Cx.zero] <;> grind
    · rw [if_neg (by omega), if_neg (by omega), if_neg (by omega), clear_low i j h1 hi h]
  · rw [if_neg (by omega)]
    unfold eff
    rw [clear_row i j h1]
    by_cases h : j < c ∧ j < i
    · rw [if_pos h, if_pos (by omega)]
    · rw [if_neg h, if_neg (by omega)]
/-- One step of the elimination, with the number of exchanges. -/
theorem elimS_step' (n d c : Nat) (F : Nat → Nat → Cx) (ex : Nat) (h : c + (d + 1) = n) : elimS n (d + 1) c F ex = (c, ex, F) ∨
    ∃ p, c ≤ p ∧ p < n ∧ swp F c p c c ≠ .zero ∧ elimS n (d + 1) c F ex = elimS n d (c + 1) (clearF (swp F c p) c c n) (if p = c then ex else ex + 1) := by
  rcases pivF_cases F c (n - c) c with ⟨hp, hz⟩ | ⟨p, h1, h2, hp, h3, -⟩
  · exact .inl (by rw [elimS, if_pos (by rw [hp]; omega)])
  · refine .inr ⟨p, h1, by omega, ?_, ?_⟩
    · unfold swp
      simp only [if_true]
      exact h3
    · by_cases hpc : p = c
      · subst hpc
        rw [elimS, if_neg (by rw [hp]; omega), if_pos hp, swp_id, if_pos rfl]
      · rw [elimS, if_neg (by rw [hp]; omega), if_neg (by rw [hp]; omega), hp, if_neg hpc]; rfl
theorem elimS_dC (n : Nat) : ∀ (d c : Nat) (F : Nat → Nat → Cx) (ex : Nat), c + d = n → ∃ k, (elimS n d c F ex).2.1 = ex + k ∧ dC n (eff c F) = (sg k).mul (dC n (eff (elimS n d c F ex).1 (elimS n d c F ex).2.2)) := by
  intro d
  induction d with
  | zero => intro c F ex h; exact ⟨0, rfl, by rw [sg_zero, Cx.one_mul]; rfl⟩
  | succ d ih =>
    intro c F ex h
    rcases elimS_step' n d c F ex h with e | ⟨p, h1, h2, h0, e⟩
    · rw [e]
      exact ⟨0, rfl, by rw [sg_zero, Cx.one_mul]⟩
    · rw [e]
      obtain ⟨k, hk, hd⟩ := ih (c + 1) (clearF (swp F c p) c c n) (if p = c then ex else ex + 1) (by omega)
      rw [dC_clear (swp F c p) (by omega) h0, eff_swp h1] at hd
      by_cases hpc : p = c
      · subst hpc
        rw [if_pos rfl] at hk hd
        rw [swp_id] at hd
        rw [if_pos rfl]
        exact ⟨k, hk, hd⟩
      · rw [if_neg hpc] at hk hd
        rw [if_neg hpc]
        refine ⟨k + 1, by omega, ?_⟩
        rw [(dC_alt n).swap (by omega) h2 (fun e => hpc e.symm)] at hd
        rw [sg_next, Cx.neg_mul, ← hd, Cx.neg_neg]
/-- The product of d elements of the diagonal, from s on. -/
def pr (G : Nat → Nat → Cx) : Nat → Nat → Cx
  | _, 0 => .int 1
  | s, d + 1 => (G s s).mul (pr G (s + 1) d)
theorem pr_last (G : Nat → Nat → Cx) : ∀ d s, pr G s (d + 1) = (pr G s d).mul (G (s + d) (s + d)) := by
  intro d
  induction d with
  | zero => intro s; rw [pr, pr, pr, Cx.mul_one, Cx.one_mul, Nat.add_zero]
  | succ d ih =>
    intro s
    rw [pr, ih (s + 1), pr, Cx.mul_assoc, show s + 1 + d = s + (d + 1) by omega]
theorem prodD_pr (G : Nat → Nat → Cx) : ∀ c, prodD G c = pr G 0 (c + 1) := by
  intro c
  induction c with
  | zero => rw [prodD, pr, pr, Cx.mul_one]
  | succ c ih => rw [prodD, ih, pr_last _ (c + 1), Nat.zero_add]
theorem mnr00 (T : Nat → Nat → Cx) (a b : Nat) : mnr 0 0 T a b = T (a + 1) (b + 1) := rfl
theorem pr_mnr (T : Nat → Nat → Cx) : ∀ d s, pr (mnr 0 0 T) s d = pr T (s + 1) d := by
  intro d
  induction d with
  | zero => intro s; rfl
  | succ d ih => intro s; rw [pr, pr, ih (s + 1), mnr00]
theorem dC_first {n : Nat} {T : Nat → Nat → Cx} (h : ∀ i, 0 < i → i < n + 1 → T i 0 = .zero) : dC (n + 1) T = (T 0 0).mul (dC n (mnr 0 0 T)) := by
  rw [dC, sm_one (i := 0) (by omega) fun i hi h0 => by rw [h i (by omega) hi, Cx.zero_mul, Cx.mul_zero], sg_zero, Cx.one_mul]
theorem dC_tri : ∀ (n : Nat) (T : Nat → Nat → Cx), (∀ i j, j < i → i < n → T i j = .zero) → dC n T = pr T 0 n := by
  intro n
  induction n with
  | zero => intro T _; rfl
  | succ n ih =>
    intro T h
    rw [dC_first fun i h0 hi => h i 0 h0 hi, ih (mnr 0 0 T) fun i j hj hi => h (i + 1) (j + 1) (by omega) (by omega), pr_mnr, pr]
theorem dC_sing : ∀ (n s : Nat) (T : Nat → Nat → Cx), s < n → (∀ i j, j < s → j < i → i < n → T i j = .zero) → (∀ i, s ≤ i → i < n → T i s = .zero) → dC n T = .zero := by
  intro n
  induction n with
  | zero => intro s T h; omega
  | succ n ih =>
    intro s T hs h1 h2
    cases s with
    | zero =>
      rw [dC]
      exact sm_zero _ _ fun i _ hi => by rw [h2 i (by omega) (by omega), Cx.zero_mul, Cx.mul_zero]
    | succ s =>
      rw [dC_first fun i h0 hi => h1 i 0 (by omega) h0 hi, ih s (mnr 0 0 T) (by omega) (fun i j hj hji hi => h1 (i + 1) (j + 1) (by omega) (by omega) (by omega)) (fun i hi hin => h2 (i + 1) (by omega) (by omega)), Cx.mul_zero]
theorem sg_even {k : Nat} (h : k % 2 ≠ 1) : sg k = .int 1 := if_pos (by omega)
theorem sg_odd {k : Nat} (h : k % 2 = 1) : sg k = (Cx.int 1).neg := by
  unfold sg
  rw [if_neg (by omega), int_neg_one]
/-- **What elimination reckons is the determinant.** -/
theorem detF_dC {n : Nat} (hn : 0 < n) (F : Nat → Nat → Cx) : detF n F = dC n F := by
  obtain ⟨k, hk, hd⟩ := elimS_dC n n 0 F 0 (by omega)
  rw [eff_zero] at hd
  obtain ⟨hle, -, -, hz⟩ := elimS_ok n n 0 F 0 (by omega)
  rw [hd]
  unfold detF detR
  rw [Nat.zero_add] at hk
  rw [hk]
  rcases Nat.lt_or_ge (elimS n n 0 F 0).1 n with h1 | h1
  · rw [if_pos h1, dC_sing n (elimS n n 0 F 0).1 (eff (elimS n n 0 F 0).1 (elimS n n 0 F 0).2.2) h1 (fun i j h2 h3 h4 => if_pos ⟨h2, h3⟩) (fun i h2 h3 => by
      unfold eff
      rw [if_neg (by omega)]
      exact hz h1 i h2 h3), Cx.mul_zero]
  · have e : (elimS n n 0 F 0).1 = n := by omega
    rw [if_neg (by omega), e, dC_tri n (eff n (elimS n n 0 F 0).2.2) fun i j hj hi => if_pos (by omega)]
    have ep : pr (eff n (elimS n n 0 F 0).2.2) 0 n = prodD (elimS n n 0 F 0).2.2 (n - 1) := by
      rw [prodD_pr, show n - 1 + 1 = n by omega]
      have : ∀ d s, s + d ≤ n → pr (eff n (elimS n n 0 F 0).2.2) s d = pr (elimS n n 0 F 0).2.2 s d := by
        intro d
        induction d with
        | zero => intro s _; rfl
        | succ d ih =>
          intro s hs
          rw [pr, pr, ih (s + 1) (by omega), show eff n (elimS n n 0 F 0).2.2 s s = (elimS n n 0 F 0).2.2 s s from if_neg (by omega)]
      exact this n 0 (by omega)
    rw [ep]
    by_cases hk2 : k % 2 = 1
    · rw [if_pos hk2, sg_odd hk2, Cx.neg_mul, Cx.one_mul]
    · rw [if_neg hk2, sg_even hk2, Cx.one_mul]

/-- Products. -/
theorem mulM_upf (n : Nat) (F G : Nat → Nat → Cx) (r : Nat) (w : Nat → Cx) : mulM n (upf F r w) G = upf (mulM n F G) r (fun k => sm (fun j => (w j).mul (G j k)) 0 n) := by
  funext a k
  unfold mulM upf
  by_cases h : a = r
  · simp only [if_pos h]
  · simp only [if_neg h]
theorem mul_alt (n : Nat) (G : Nat → Nat → Cx) : Alt n (fun F => dC n (mulM n F G)) := by
  refine ⟨fun F F' h => dC_congr n _ _ fun i k hi _ => sm_congr _ _ fun j _ hj => by rw [h i j hi (by omega)], fun F r u v hr => ?_, fun F r c u hr => ?_, fun F r hr he => ?_⟩
  · simp only [mulM_upf]
    rw [← (dC_alt n).add _ _ _ _ hr]
    congr 2
    funext k
    rw [← sm_add]
    exact sm_congr _ _ fun j _ _ => Cx.add_mul _ _ _
  · simp only [mulM_upf]
    rw [← (dC_alt n).mul _ _ _ _ hr]
    congr 2
    funext k
    rw [← sm_mul]
    exact sm_congr _ _ fun j _ _ => Cx.mul_assoc _ _ _
  · exact (dC_alt n).alt _ r hr fun k _ => sm_congr _ _ fun j _ hj => by rw [he j (by omega)]
theorem dC_mul (n : Nat) (F G : Nat → Nat → Cx) : dC n (mulM n F G) = (dC n F).mul (dC n G) := by
  have h := alt_unique n _ (mul_alt n G) F
  have e : dC n (mulM n idF G) = dC n G := dC_congr n _ _ fun i k hi _ => sm_id' (fun j => G j k) n i hi
  rw [h, e, dC_dR n F]
theorem sm_conj (f : Nat → Cx) : ∀ (d j : Nat), (sm f j d).conj = sm (fun i => (f i).conj) j d := by
  intro d
  induction d with
  | zero => intro j; rw [sm, sm]; apply Cx.ext <;> simp only [Cx.conj, Cx.zero] <;> grind
  | succ d ih => intro j; rw [sm, sm, Cx.conj_add, ih (j + 1)]
theorem sg_conj (i : Nat) : (sg i).conj = sg i := by
  unfold sg
  split <;> (apply Cx.ext <;> simp [Cx.conj, Cx.int])
theorem dC_conj : ∀ (n : Nat) (F : Nat → Nat → Cx), dC n (fun i j => (F i j).conj) = (dC n F).conj := by
  intro n
  induction n with
  | zero => intro F; rw [dC, dC]; apply Cx.ext <;> simp [Cx.conj, Cx.int]
  | succ n ih =>
    intro F
    rw [dC, dC, sm_conj]
    refine sm_congr _ _ fun i _ _ => ?_
    rw [Cx.conj_mul, Cx.conj_mul, sg_conj, ← ih (mnr i 0 F)]
    rfl
theorem det_mul {n : Nat} (hn : 0 < n) (F G : Nat → Nat → Cx) : detF n (mulM n F G) = (detF n F).mul (detF n G) := by
  rw [detF_dC hn, detF_dC hn, detF_dC hn, dC_mul]
theorem det_adj {n : Nat} (hn : 0 < n) (F : Nat → Nat → Cx) : detF n (fun i j => (F j i).conj) = (detF n F).conj := by
  rw [detF_dC hn, detF_dC hn, ← dC_trans n F, ← dC_conj]
theorem det_swp {n : Nat} (hn : 0 < n) (F : Nat → Nat → Cx) {r s : Nat} (hr : r < n) (hs : s < n) (hrs : r ≠ s) : detF n (swp F r s) = (detF n F).neg := by
  rw [detF_dC hn, detF_dC hn, (dC_alt n).swap hr hs hrs]
end Go.Proofs.YtmlkpnfjgifgfaaGreatDoor
