/- Hermitian matrices whose form is never negative, and what elimination leaves of them. -/
import Derived.Test.YtmlkpnfjgifgfaaGreatDoorG38
set_option linter.unusedSimpArgs false
set_option linter.unusedVariables false
namespace Go.Proofs.YtmlkpnfjgifgfaaGreatDoor
set_option maxRecDepth 100000

/-- The form of a matrix at two vectors, over the indices from c on. -/
def bf (n c : Nat) (H : Nat → Nat → Cx) (u v : Nat → Cx) : Cx := sm (fun i => (u i).conj.mul (sm (fun j => (H i j).mul (v j)) c (n - c))) c (n - c)
structure Psd (n c : Nat) (H : Nat → Nat → Cx) : Prop where
  herm : ∀ i j, c ≤ i → i < n → c ≤ j → j < n → H i j = (H j i).conj
  pos : ∀ w, 0 ≤ (bf n c H w w).re
theorem Cx.conj_conj (x : Cx) : x.conj.conj = x := by apply Cx.ext <;> simp only [Cx.conj] <;> grind
theorem Cx.conj_zero : Cx.zero.conj = .zero := by apply Cx.ext <;> simp only [Cx.conj, Cx.zero] <;> grind
theorem sm_conj' (f : Nat → Cx) : ∀ (d j : Nat), (sm f j d).conj = sm (fun i => (f i).conj) j d := by
  intro d
  induction d with
  | zero => intro j; rw [sm, sm, Cx.conj_zero]
  | succ d ih => intro j; rw [sm, sm, Cx.conj_add, ih (j + 1)]
theorem sm_at {f : Nat → Cx} {k : Nat} : ∀ (d s : Nat), s ≤ k → k < s + d → (∀ j, s ≤ j → j < s + d → j ≠ k → f j = .zero) → sm f s d = f k := by
  intro d
  induction d with
  | zero => intro s h1 h2; omega
  | succ d ih =>
    intro s h1 h2 h
    rw [sm]
    by_cases hs : s = k
    · rw [hs, sm_zero d (k + 1) fun j a b => h j (by omega) (by omega) (by omega), Cx.add_zero]
    · rw [h s (Nat.le_refl _) (by omega) hs, Cx.zero_add]
      exact ih (s + 1) (by omega) (by omega) fun j a b hj => h j (by omega) (by omega) hj
theorem bf_first {n c : Nat} (hc : c < n) (H : Nat → Nat → Cx) (u v : Nat → Cx) : bf n c H u v =
    ((u c).conj.mul (((H c c).mul (v c)).add (sm (fun j => (H c j).mul (v j)) (c + 1) (n - (c + 1))))).add (sm (fun i => (u i).conj.mul (((H i c).mul (v c)).add (sm (fun j => (H i j).mul (v j)) (c + 1) (n - (c + 1))))) (c + 1) (n - (c + 1))) := by
  unfold bf
  rw [show n - c = (n - (c + 1)) + 1 by omega, sm]
  rfl
section
variable {n c : Nat} {H : Nat → Nat → Cx} (h : Psd n c H) (hc : c < n)
include h hc
theorem Psd.real : (H c c).im = 0 := by
  have e := congrArg Cx.im (h.herm c c (Nat.le_refl _) hc (Nat.le_refl _) hc)
  simp only [Cx.conj] at e
  grind
theorem Psd.diag : 0 ≤ (H c c).re := by
  have e := h.pos (fun j => if j = c then .int 1 else .zero)
  rw [bf_first hc] at e
  rw [sm_zero (f := fun j => (H c j).mul (if j = c then .int 1 else .zero)) _ _ fun j a b => by rw [if_neg (by omega), Cx.mul_zero]] at e
  rw [sm_zero (f := fun i => (if i = c then Cx.int 1 else Cx.zero).conj.mul _) _ _ fun j a b => by rw [if_neg (by omega), Cx.conj_zero, Cx.zero_mul]] at e
  simp only [if_true, Cx.add_zero, Cx.mul_one] at e
  have e2 : (Cx.int 1).conj = .int 1 := by apply Cx.ext <;> simp [Cx.conj, Cx.int]
  rw [e2, Cx.one_mul] at e
  exact e
theorem Psd.next : Psd n (c + 1) H := by
  refine ⟨fun i j a b a' b' => h.herm i j (by omega) b (by omega) b', fun w => ?_⟩
  have e := h.pos (fun j => if j = c then .zero else w j)
  rw [bf_first hc] at e
  simp only [if_true, Cx.conj_zero, Cx.zero_mul, Cx.zero_add, Cx.mul_zero] at e
  have e2 : sm (fun i => (if i = c then Cx.zero else w i).conj.mul (sm (fun j => (H i j).mul (if j = c then Cx.zero else w j)) (c + 1) (n - (c + 1)))) (c + 1) (n - (c + 1)) = bf n (c + 1) H w w := by
    unfold bf
    refine sm_congr _ _ fun i a b => ?_
    rw [if_neg (by omega)]
    congr 1
    exact sm_congr _ _ fun j a b => by rw [if_neg (by omega)]
  rw [e2] at e
  exact e
/-- Where the diagonal is 0, the row is. -/
theorem Psd.row (h0 : H c c = .zero) {k : Nat} (hk : c < k) (hkn : k < n) : H c k = .zero := by
  apply Classical.byContradiction
  intro hz
  have hkc := h.herm k c (by omega) hkn (Nat.le_refl _) hc
  have hq : (H c k).nrm ≠ 0 := nrm_pos_ne hz
  obtain ⟨z, hzz⟩ : ∃ z, z = H c k := ⟨_, rfl⟩
  obtain ⟨l, hl⟩ : ∃ l : Rat, l = ((H k k).re + 1) / (2 * z.nrm) := ⟨_, rfl⟩
  obtain ⟨t, ht⟩ : ∃ t : Cx, t = ⟨-(l * z.re), -(l * z.im)⟩ := ⟨_, rfl⟩
  have e := h.pos (fun j => if j = c then t else if j = k then .int 1 else .zero)
  rw [bf_first hc] at e
  have s1 : ∀ i, sm (fun j => (H i j).mul (if j = c then t else if j = k then Cx.int 1 else Cx.zero)) (c + 1) (n - (c + 1)) = H i k := fun i => by
    rw [sm_at (k := k) _ _ (by omega) (by omega) fun j a b hj => by rw [if_neg (by omega), if_neg hj, Cx.mul_zero], if_neg (by omega), if_pos rfl, Cx.mul_one]
  simp only [s1] at e
  rw [sm_at (k := k) (n - (c + 1)) (c + 1) (by omega) (by omega) fun j a b hj => by rw [if_neg (by omega), if_neg hj, Cx.conj_zero, Cx.zero_mul]] at e
  have nck : ¬ (c = k) := by omega
  have nkc : ¬ (k = c) := by omega
  simp only [if_true, if_neg nck, if_neg nkc, h0, hkc, ← hzz, Cx.zero_mul, Cx.zero_add] at e
  rw [← hzz] at hq
  have hl2 : l * (2 * z.nrm) = (H k k).re + 1 := by
    rw [hl]
    grind
  simp only [Cx.add, Cx.mul, Cx.conj, Cx.int, ht] at e
  unfold Cx.nrm at hl2
  have e1 : (((1 : Int) : Rat)) = 1 := rfl
  rw [e1] at e
  grind
/-- The next matrix, where the diagonal is above 0. -/
theorem Psd.clear (h0 : 0 < (H c c).re) : Psd n (c + 1) (clearF H c c n) := by
  have hne : H c c ≠ .zero := fun e => by rw [e] at h0; simp [Cx.zero] at h0
  have hre : (H c c).conj = H c c := (h.herm c c (Nat.le_refl _) hc (Nat.le_refl _) hc).symm
  have hdc : ∀ x : Cx, (x.div (H c c)).conj = x.conj.div (H c c) := fun x => by
    have him := h.real hc
    apply Cx.ext <;> simp only [Cx.div, Cx.mul, Cx.inv, Cx.conj, him] <;> grind
  refine ⟨fun i j a b a' b' => ?_, fun w => ?_⟩
  · rw [clear_low i j (by omega) b (by omega), clear_low j i (by omega) b' (by omega)]
    have e1 := h.herm i j (by omega) b (by omega) b'
    have e2 := h.herm i c (by omega) b (Nat.le_refl _) hc
    have e3 := h.herm j c (by omega) b' (Nat.le_refl _) hc
    have hsub : ∀ x y : Cx, (x.sub y).conj = x.conj.sub y.conj := fun x y => by apply Cx.ext <;> simp only [Cx.sub, Cx.conj] <;> grind
    rw [hsub, ← e1, Cx.conj_mul, hdc, e3, Cx.conj_conj, ← e2]
    congr 1
    rw [Cx.div, Cx.div]
    generalize (H c c).inv = q
    generalize H c j = x
    generalize H i c = y
    apply Cx.ext <;> simp only [Cx.mul] <;> grind
  · obtain ⟨s, hs⟩ : ∃ s, s = sm (fun j => (H c j).mul (w j)) (c + 1) (n - (c + 1)) := ⟨_, rfl⟩
    have e := h.pos (fun j => if j = c then (s.div (H c c)).neg else w j)
    rw [bf_first hc] at e
    have s1 : ∀ i, sm (fun j => (H i j).mul (if j = c then (s.div (H c c)).neg else w j)) (c + 1) (n - (c + 1)) = sm (fun j => (H i j).mul (w j)) (c + 1) (n - (c + 1)) := fun i => sm_congr _ _ fun j a b => by rw [if_neg (by omega)]
    simp only [s1, if_true] at e
    rw [← hs] at e
    have e0 : ((H c c).mul (s.div (H c c)).neg).add s = .zero := by
      have := Cx.div_mul' s hne
      rw [Cx.mul_comm] at this
      have hneg : (H c c).mul (s.div (H c c)).neg = ((H c c).mul (s.div (H c c))).neg := by apply Cx.ext <;> simp only [Cx.mul, Cx.neg] <;> grind
      rw [hneg, this]
      apply Cx.ext <;> simp only [Cx.add, Cx.neg, Cx.zero] <;> grind
    rw [e0, Cx.mul_zero, Cx.zero_add] at e
    have e2 : sm (fun i => (if i = c then (s.div (H c c)).neg else w i).conj.mul (((H i c).mul (s.div (H c c)).neg).add (sm (fun j => (H i j).mul (w j)) (c + 1) (n - (c + 1))))) (c + 1) (n - (c + 1)) = bf n (c + 1) (clearF H c c n) w w := by
      unfold bf
      refine sm_congr _ _ fun i a b => ?_
      rw [if_neg (by omega)]
      congr 1
      have e3 : sm (fun j => (clearF H c c n i j).mul (w j)) (c + 1) (n - (c + 1)) = (sm (fun j => (H i j).mul (w j)) (c + 1) (n - (c + 1))).sub (((H i c).div (H c c)).mul s) := by
        rw [hs, ← sm_subc]
        refine sm_congr _ _ fun j a' b' => ?_
        rw [clear_low i j (by omega) (by omega) (by omega)]
        generalize (H i c).div (H c c) = q
        apply Cx.ext <;> simp only [Cx.sub, Cx.mul] <;> grind
      rw [e3]
      have e4 : (H i c).mul (s.div (H c c)) = ((H i c).div (H c c)).mul s := by
        rw [Cx.div, Cx.div, Cx.mul_assoc, Cx.mul_comm s]
      have e5 : (H i c).mul (s.div (H c c)).neg = ((H i c).mul (s.div (H c c))).neg := by apply Cx.ext <;> simp only [Cx.mul, Cx.neg] <;> grind
      rw [e5, e4]
      generalize ((H i c).div (H c c)).mul s = q
      apply Cx.ext <;> simp only [Cx.sub, Cx.add, Cx.neg] <;> grind
    rw [e2] at e
    exact e
end
theorem rat_sq (x : Rat) : 0 ≤ x * x := by
  rcases Rat.le_total (a := 0) (b := x) with h | h
  · exact Rat.mul_nonneg h h
  · have h1 : 0 ≤ -x := by grind
    have := Rat.mul_nonneg h1 h1
    grind
theorem sm_nonneg {f : Nat → Cx} : ∀ (d j : Nat), (∀ i, 0 ≤ (f i).re) → 0 ≤ (sm f j d).re := by
  intro d
  induction d with
  | zero => intro j _; rw [sm]; simp [Cx.zero]
  | succ d ih =>
    intro j h
    rw [sm]
    have h1 := h j
    have h2 := ih (j + 1) h
    simp only [Cx.add]
    grind
theorem idF_psd (n : Nat) : Psd n 0 idF := by
  refine ⟨fun i j _ _ _ _ => ?_, fun w => ?_⟩
  · unfold idF
    by_cases h : i = j
    · rw [if_pos h, if_pos h.symm]; apply Cx.ext <;> simp [Cx.conj, Cx.int]
    · rw [if_neg h, if_neg fun e => h e.symm, Cx.conj_zero]
  · unfold bf
    rw [Nat.sub_zero]
    have e : sm (fun i => (w i).conj.mul (sm (fun j => (idF i j).mul (w j)) 0 n)) 0 n = sm (fun i => (w i).conj.mul (w i)) 0 n := sm_congr _ _ fun i _ hi => by rw [sm_id' w n i (by omega)]
    rw [e]
    refine sm_nonneg _ _ fun i => ?_
    have h1 := rat_sq (w i).re
    have h2 := rat_sq (w i).im
    simp only [Cx.mul, Cx.conj]
    grind
theorem Psd.add {n : Nat} {X Y : Nat → Nat → Cx} (hX : Psd n 0 X) (hY : Psd n 0 Y) : Psd n 0 (fun i k => (X i k).add (Y i k)) := by
  refine ⟨fun i j a b a' b' => by rw [hX.herm i j a b a' b', hY.herm i j a b a' b', ← Cx.conj_add], fun w => ?_⟩
  have e : bf n 0 (fun i k => (X i k).add (Y i k)) w w = (bf n 0 X w w).add (bf n 0 Y w w) := by
    unfold bf
    rw [← sm_add]
    refine sm_congr _ _ fun i _ _ => ?_
    rw [← Cx.mul_add, ← sm_add]
    congr 1
    exact sm_congr _ _ fun j _ _ => Cx.add_mul _ _ _
  have h1 := hX.pos w
  have h2 := hY.pos w
  rw [e]
  simp only [Cx.add]
  grind
theorem Psd.congr {n c : Nat} {X Y : Nat → Nat → Cx} (hX : Psd n c X) (h : ∀ i j, i < n → j < n → X i j = Y i j) : Psd n c Y := by
  refine ⟨fun i j a b a' b' => by rw [← h i j b b', ← h j i b' b]; exact hX.herm i j a b a' b', fun w => ?_⟩
  have e : bf n c Y w w = bf n c X w w := by
    unfold bf
    refine sm_congr _ _ fun i _ hi => ?_
    congr 1
    exact sm_congr _ _ fun j _ hj => by rw [h i j (by omega) (by omega)]
  rw [e]
  exact hX.pos w
/-- What a matrix makes of a form. -/
theorem bf_entry (n : Nat) (S Z : Nat → Nat → Cx) (i k : Nat) : mulM n (mulM n (adjM Z) S) Z i k = bf n 0 S (fun a => Z a i) (fun b => Z b k) := by
  unfold bf
  rw [Nat.sub_zero]
  exact (mat_assoc (adjM Z) S (fun b => Z b k) n i).symm
theorem bf_herm {n : Nat} {S : Nat → Nat → Cx} (hS : Psd n 0 S) (u v : Nat → Cx) : bf n 0 S u v = (bf n 0 S v u).conj := by
  unfold bf
  rw [Nat.sub_zero, sm_conj']
  have e1 : ∀ i, ((v i).conj.mul (sm (fun j => (S i j).mul (u j)) 0 n)).conj = sm (fun j => (v i).mul ((S i j).conj.mul (u j).conj)) 0 n := fun i => by
    rw [Cx.conj_mul, Cx.conj_conj, sm_conj', ← sm_mul]
    exact sm_congr _ _ fun j _ _ => by rw [Cx.conj_mul]
  simp only [e1]
  rw [sm_swap]
  refine sm_congr _ _ fun i _ hi => ?_
  rw [← sm_mul]
  refine sm_congr _ _ fun j _ hj => ?_
  rw [hS.herm i j (by omega) (by omega) (by omega) (by omega)]
  generalize (S j i).conj = s
  apply Cx.ext <;> simp only [Cx.mul, Cx.conj] <;> grind
theorem Psd.conjugate {n : Nat} {S : Nat → Nat → Cx} (hS : Psd n 0 S) (Z : Nat → Nat → Cx) : Psd n 0 (mulM n (mulM n (adjM Z) S) Z) := by
  refine ⟨fun i j _ _ _ _ => by rw [bf_entry, bf_entry]; exact bf_herm hS _ _, fun w => ?_⟩
  obtain ⟨v, hv⟩ : ∃ v : Nat → Cx, v = fun b => sm (fun k => (Z b k).mul (w k)) 0 n := ⟨_, rfl⟩
  have e1 : ∀ i, sm (fun k => (mulM n (mulM n (adjM Z) S) Z i k).mul (w k)) 0 n = sm (fun a => (adjM Z i a).mul (sm (fun b => (S a b).mul (v b)) 0 n)) 0 n := fun i => by
    have h1 := mat_assoc (mulM n (adjM Z) S) Z w n i
    have h2 := mat_assoc (adjM Z) S v n i
    rw [h2, hv]
    exact h1.symm
  have e2 : bf n 0 (mulM n (mulM n (adjM Z) S) Z) w w = bf n 0 S v v := by
    unfold bf
    rw [Nat.sub_zero]
    simp only [e1]
    have h3 := mat_assoc (fun _ i => (w i).conj) (fun i a => adjM Z i a) (fun a => sm (fun b => (S a b).mul (v b)) 0 n) n 0
    rw [h3]
    refine sm_congr _ _ fun a _ _ => ?_
    congr 1
    rw [hv, sm_conj']
    refine sm_congr _ _ fun i _ _ => ?_
    rw [Cx.conj_mul, Cx.mul_comm]
    rfl
  rw [e2]
  exact hS.pos v
theorem gram_psd (n : Nat) (A : Nat → Nat → Cx) : Psd n 0 (mulM n (adjM A) A) := by
  refine ((idF_psd n).conjugate A).congr fun i k hi hk => ?_
  exact sm_congr _ _ fun j _ hj => by
    have : mulM n (adjM A) idF i j = adjM A i j := sm_id (fun l => adjM A i l) n j (by omega)
    rw [this]
end Go.Proofs.YtmlkpnfjgifgfaaGreatDoor
