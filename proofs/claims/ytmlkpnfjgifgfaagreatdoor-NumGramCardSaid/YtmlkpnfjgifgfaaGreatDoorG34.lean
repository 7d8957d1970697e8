/- Complex rationals are a field; contracts that say how a comparison comes out. -/
import Derived.Test.YtmlkpnfjgifgfaaGreatDoorG27
import Derived.Test.YtmlkpnfjgifgfaaGreatDoorG33
set_option linter.unusedSimpArgs false
set_option linter.unusedVariables false
namespace Go.Proofs.YtmlkpnfjgifgfaaGreatDoor
open Go.RowKit
set_option maxRecDepth 100000

section
variable (x y z : Cx)
theorem Cx.add_comm : x.add y = y.add x := by apply Cx.ext <;> simp only [Cx.add] <;> grind
theorem Cx.add_assoc : (x.add y).add z = x.add (y.add z) := by apply Cx.ext <;> simp only [Cx.add] <;> grind
theorem Cx.mul_comm : x.mul y = y.mul x := by apply Cx.ext <;> simp only [Cx.mul] <;> grind
theorem Cx.mul_assoc : (x.mul y).mul z = x.mul (y.mul z) := by apply Cx.ext <;> simp only [Cx.mul] <;> grind
theorem Cx.mul_add : x.mul (y.add z) = (x.mul y).add (x.mul z) := by apply Cx.ext <;> simp only [Cx.mul, Cx.add] <;> grind
theorem Cx.add_mul : (x.add y).mul z = (x.mul z).add (y.mul z) := by apply Cx.ext <;> simp only [Cx.mul, Cx.add] <;> grind
theorem Cx.sub_add : (x.sub y).add y = x := by apply Cx.ext <;> simp only [Cx.sub, Cx.add] <;> grind
theorem Cx.add_neg : x.add x.neg = .int 0 := by apply Cx.ext <;> simp [Cx.add, Cx.neg, Cx.int] <;> grind
theorem Cx.conj_add : (x.add y).conj = x.conj.add y.conj := by apply Cx.ext <;> simp only [Cx.conj, Cx.add] <;> grind
theorem Cx.conj_mul : (x.mul y).conj = x.conj.mul y.conj := by apply Cx.ext <;> simp only [Cx.conj, Cx.mul] <;> grind
theorem Cx.norm_conj : x.norm = x.mul x.conj := by apply Cx.ext <;> simp only [Cx.norm, Cx.nrm, Cx.conj, Cx.mul] <;> grind
theorem Cx.norm_mul : (x.mul y).norm = x.norm.mul y.norm := by apply Cx.ext <;> simp only [Cx.norm, Cx.nrm, Cx.mul] <;> grind
theorem Cx.div_mul {y : Cx} (h : y ≠ .zero) : (x.div y).mul y = x := by
  have h0 := nrm_pos_ne h
  have hinv : y.inv.mul y = .int 1 := by
    apply Cx.ext
    · simp only [Cx.inv, Cx.mul, Cx.int]
      have e : y.re / y.nrm * y.re - -y.im / y.nrm * y.im = (y.re * y.re + y.im * y.im) / y.nrm := by grind
      rw [e]
      show y.nrm / y.nrm = _
      have : y.nrm / y.nrm = 1 := by grind
      rw [this]; rfl
    · simp only [Cx.inv, Cx.mul, Cx.int]
      grind
  rw [Cx.div, Cx.mul_assoc, hinv]
  apply Cx.ext <;> simp [Cx.mul, Cx.int] <;> grind
end
theorem sz_int (z : Int) (h : (decide (-9223372036854775808 ≤ z) && decide (z < 9223372036854775808)) = true) : Sz (.int z) 2 := by
  simp only [Bool.and_eq_true, decide_eq_true_eq] at h
  exact Sz.int (wl_i64 h.1 h.2) (by omega)
theorem sameN_k (v u : Value) (x y : Cx) (w : World) (h : IsNum w v x) (h' : IsNum w u y) (m : Nat) (hx : Sz x m) (hy : Sz y m) (hm : m < 549755813888) {b : Bool} (hb : decide (x = y) = b) :
    Calls Tryz.prog 16 #[v, u] w fun e w' => e = .returned (.bool b) ∧ Below w.heap.size w w' := by
  have := sameN_any v u x y w h h' m hx hy hm
  rwa [hb] at this
theorem same_t {x y : Cx} (h : x = y) : decide (x = y) = true := decide_eq_true h
theorem clearN_k (v : Value) (x : Cx) (w : World) (h : IsNum w v x) {b : Bool} (hb : (!decide (x = .zero)) = b) :
    Calls Tryz.prog 10 #[v] w fun e w' => e = .returned (.bool b) ∧ Below w.heap.size w w' := by
  have := clear_any v x w h
  rwa [hb] at this
theorem clear_t {x : Cx} (h : x ≠ .zero) : (!decide (x = .zero)) = true := by simp [h]
theorem clear_f {x : Cx} (h : x = .zero) : (!decide (x = .zero)) = false := by simp [h]
theorem divN_k (v u : Value) (x y : Cx) (w : World) (h : IsNum w v x) (h' : IsNum w u y) (m n : Nat) (hx : Sz x m) (hy : Sz y n) (hm : m + 4 * n + 4 < 549755813888) (hT : Tab w) {k : Int} (hk : (if y = .zero then (3 : Int) else 0) = k) :
    Calls Tryz.prog 36 #[v, u] w (RetNumE w (x.div y) k) := by
  have := divN_any v u x y w h h' m n hx hy hm hT
  rwa [hk] at this
theorem div_ok {y : Cx} (h : y ≠ .zero) : (if y = .zero then (3 : Int) else 0) = 0 := if_neg h
theorem div_no {y : Cx} (h : y = .zero) : (if y = .zero then (3 : Int) else 0) = 3 := if_pos h
theorem cmpN_k (v u : Value) (x y : Cx) (w : World) (h : IsNum w v x) (h' : IsNum w u y) (m n : Nat) (hx : Sz x m) (hy : Sz y n) (hm : m + n < 549755813888) {k : Int} (hk : cmpC x y = k) :
    Calls Tryz.prog 56 #[v, u] w fun e w' => e = .returned (.int .i64 k) ∧ Below w.heap.size w w' := by
  have := cmpN_any' v u x y w h h' m n hx hy hm
  rwa [hk] at this
end Go.Proofs.YtmlkpnfjgifgfaaGreatDoor
set_option linter.unusedSimpArgs false
set_option linter.unusedVariables false
namespace Go.Proofs.YtmlkpnfjgifgfaaGreatDoor
set_option maxRecDepth 100000

/-- The sum of d terms from j on. -/
def sm (f : Nat → Cx) : Nat → Nat → Cx
  | _, 0 => .zero
  | j, d + 1 => (f j).add (sm f (j + 1) d)
theorem sm_congr {f g : Nat → Cx} : ∀ (d j : Nat), (∀ i, j ≤ i → i < j + d → f i = g i) → sm f j d = sm g j d := by
  intro d
  induction d with
  | zero => intro j _; rfl
  | succ d ih =>
    intro j h
    rw [sm, sm, h j (Nat.le_refl _) (by omega), ih (j + 1) fun i h1 h2 => h i (by omega) (by omega)]
theorem Cx.zero_add (x : Cx) : Cx.zero.add x = x := by apply Cx.ext <;> simp only [Cx.add, Cx.zero] <;> grind
theorem Cx.add_zero (x : Cx) : x.add Cx.zero = x := by apply Cx.ext <;> simp only [Cx.add, Cx.zero] <;> grind
theorem Cx.zero_mul (x : Cx) : Cx.zero.mul x = .zero := by apply Cx.ext <;> simp only [Cx.mul, Cx.zero] <;> grind
theorem Cx.mul_zero (x : Cx) : x.mul Cx.zero = .zero := by apply Cx.ext <;> simp only [Cx.mul, Cx.zero] <;> grind
theorem Cx.one_mul (x : Cx) : (Cx.int 1).mul x = x := by apply Cx.ext <;> simp [Cx.mul, Cx.int] <;> grind
theorem Cx.mul_one (x : Cx) : x.mul (Cx.int 1) = x := by apply Cx.ext <;> simp [Cx.mul, Cx.int] <;> grind
theorem sm_zero {f : Nat → Cx} : ∀ (d j : Nat), (∀ i, j ≤ i → i < j + d → f i = .zero) → sm f j d = .zero := by
  intro d
  induction d with
  | zero => intro j _; rfl
  | succ d ih =>
    intro j h
    rw [sm, h j (Nat.le_refl _) (by omega), ih (j + 1) fun i h1 h2 => h i (by omega) (by omega), Cx.zero_add]
theorem sm_split (f : Nat → Cx) : ∀ (a j b : Nat), sm f j (a + b) = (sm f j a).add (sm f (j + a) b) := by
  intro a
  induction a with
  | zero => intro j b; rw [Nat.zero_add, sm, Cx.zero_add, Nat.add_zero]
  | succ a ih =>
    intro j b
    rw [show a + 1 + b = (a + b) + 1 by omega, sm, sm, ih (j + 1) b, Cx.add_assoc, show j + 1 + a = j + (a + 1) by omega]
theorem sm_last (f : Nat → Cx) (j d : Nat) : sm f j (d + 1) = (sm f j d).add (f (j + d)) := by
  rw [sm_split f d j 1, sm, sm, Cx.add_zero]
theorem sm_add (f g : Nat → Cx) : ∀ (d j : Nat), sm (fun i => (f i).add (g i)) j d = (sm f j d).add (sm g j d) := by
  intro d
  induction d with
  | zero => intro j; rw [sm, sm, sm, Cx.zero_add]
  | succ d ih =>
    intro j
    rw [sm, sm, sm, ih (j + 1)]
    generalize sm f (j + 1) d = u
    generalize sm g (j + 1) d = v
    apply Cx.ext <;> simp only [Cx.add] <;> grind
theorem sm_mul (c : Cx) (f : Nat → Cx) : ∀ (d j : Nat), sm (fun i => c.mul (f i)) j d = c.mul (sm f j d) := by
  intro d
  induction d with
  | zero => intro j; rw [sm, sm, Cx.mul_zero]
  | succ d ih => intro j; rw [sm, sm, ih (j + 1), Cx.mul_add]
theorem sm_subc (c : Cx) (f g : Nat → Cx) : ∀ (d j : Nat), sm (fun i => (f i).sub (c.mul (g i))) j d = (sm f j d).sub (c.mul (sm g j d)) := by
  intro d
  induction d with
  | zero => intro j; rw [sm, sm, sm, Cx.mul_zero]; apply Cx.ext <;> simp only [Cx.sub, Cx.zero] <;> grind
  | succ d ih =>
    intro j
    rw [sm, sm, sm, ih (j + 1)]
    generalize sm f (j + 1) d = u
    generalize sm g (j + 1) d = v
    apply Cx.ext <;> simp only [Cx.sub, Cx.add, Cx.mul] <;> grind
theorem sm_swap (f : Nat → Nat → Cx) (m k : Nat) : ∀ (d j : Nat), sm (fun i => sm (fun l => f i l) k m) j d = sm (fun l => sm (fun i => f i l) j d) k m := by
  intro d
  induction d with
  | zero =>
    intro j
    rw [sm]
    exact (sm_zero m k fun _ _ _ => rfl).symm
  | succ d ih =>
    intro j
    rw [sm, ih (j + 1), ← sm_add]
    rfl
theorem sm_one {f : Nat → Cx} {n i : Nat} (hi : i < n) (h : ∀ j, j < n → j ≠ i → f j = .zero) : sm f 0 n = f i := by
  have e : n = i + (1 + (n - i - 1)) := by omega
  rw [e, sm_split, sm_split, sm_zero i 0 fun j _ h2 => h j (by omega) (by omega), sm_zero (n - i - 1) _ fun j h1 h2 => h j (by omega) (by omega), sm, sm, Cx.zero_add, Cx.add_zero, Cx.add_zero, Nat.zero_add]

/-- The elements below the diagonal in the first c columns count as 0. -/
def eff (c : Nat) (G : Nat → Nat → Cx) : Nat → Nat → Cx := fun i j => if j < c ∧ j < i then .zero else G i j
theorem eff_zero (G : Nat → Nat → Cx) : eff 0 G = G := by
  funext i j
  exact if_neg (by omega)
/-- A x = b -/
def Solves (n : Nat) (A : Nat → Nat → Cx) (b x : Nat → Cx) : Prop := ∀ i, i < n → sm (fun j => (A i j).mul (x j)) 0 n = b i
theorem Cx.div_mul' (x : Cx) {y : Cx} (h : y ≠ .zero) : (x.div y).mul y = x := Cx.div_mul x h
theorem clear_row {F : Nat → Nat → Cx} {n c : Nat} (i j : Nat) (h : i ≤ c) : clearF F c c n i j = F i j := by
  unfold clearF clearP
  rw [if_neg (by omega)]
theorem clear_low {F : Nat → Nat → Cx} {n c : Nat} (i j : Nat) (h : c < i) (hi : i < n) (hj : c < j) : clearF F c c n i j = (F i j).sub (((F i c).div (F c c)).mul (F c j)) := by
  unfold clearF clearP
  rw [if_pos (by omega)]
theorem step_clear {F : Nat → Nat → Cx} {n c k : Nat} (hc : c < n) (hk : n ≤ k) (h0 : F c c ≠ .zero) (x : Nat → Cx) :
    Solves n (eff c F) (fun i => F i k) x ↔ Solves n (eff (c + 1) (clearF F c c n)) (fun i => clearF F c c n i k) x := by
  have same : ∀ i, i ≤ c → (sm (fun j => (eff (c + 1) (clearF F c c n) i j).mul (x j)) 0 n = sm (fun j => (eff c F i j).mul (x j)) 0 n) ∧ clearF F c c n i k = F i k := fun i hi => by
    refine ⟨sm_congr _ _ fun j _ _ => ?_, clear_row i k hi⟩
    have : eff (c + 1) (clearF F c c n) i j = eff c F i j := by
      unfold eff
      rw [clear_row i j hi]
      by_cases h : j < c ∧ j < i
      · rw [if_pos h, if_pos (by omega)]
      · rw [if_neg h, if_neg (by omega)]
    rw [this]
  have low : ∀ i, c < i → i < n → sm (fun j => (eff (c + 1) (clearF F c c n) i j).mul (x j)) 0 n = (sm (fun j => (eff c F i j).mul (x j)) 0 n).sub (((F i c).div (F c c)).mul (sm (fun j => (eff c F c j).mul (x j)) 0 n)) := fun i h1 h2 => by
    rw [← sm_subc]
    refine sm_congr _ _ fun j _ hj => ?_
    have : eff (c + 1) (clearF F c c n) i j = (eff c F i j).sub (((F i c).div (F c c)).mul (eff c F c j)) := by
      unfold eff
      rcases Nat.lt_trichotomy j c with h | h | h
      · rw [if_pos (by omega), if_pos (by omega), if_pos (by omega), Cx.mul_zero]
        apply Cx.ext <;> simp only [Cx.sub, Cx.zero] <;> grind
      · subst h
        rw [if_pos (by omega), if_neg (by omega), if_neg (by omega), Cx.div_mul' _ h0]
        apply Cx.ext <;> simp only [Cx.sub, Cx.zero] <;> grind
      · rw [if_neg (by omega), if_neg (by omega), if_neg (by omega), clear_low i j h1 h2 h]
    rw [this]
    generalize eff c F i j = u
    generalize eff c F c j = v
    generalize (F i c).div (F c c) = f
    generalize x j = y
    apply Cx.ext <;> simp only [Cx.sub, Cx.mul] <;> grind
  have sub_inj : ∀ {u v w : Cx}, u.sub w = v.sub w → u = v := fun {u v w} h => by
    have h1 := congrArg Cx.re h
    have h2 := congrArg Cx.im h
    simp only [Cx.sub] at h1 h2
    apply Cx.ext <;> grind
  constructor
  · intro h i hi
    rcases Nat.lt_or_ge c i with h1 | h1
    · rw [low i h1 hi, h i hi, h c hc]
      exact (clear_low i k h1 hi (by omega)).symm
    · rw [(same i h1).1]
      exact (h i hi).trans (same i h1).2.symm
  · intro h i hi
    rcases Nat.lt_or_ge c i with h1 | h1
    · have e := h i hi
      have e2 := h c hc
      rw [(same c (Nat.le_refl _)).1] at e2
      simp only [(same c (Nat.le_refl _)).2] at e2
      rw [low i h1 hi, e2] at e
      simp only [clear_low i k h1 hi (show c < k by omega)] at e
      exact sub_inj e
    · have e := h i hi
      rw [(same i h1).1] at e
      simp only [(same i h1).2] at e
      exact e
theorem eff_swp {F : Nat → Nat → Cx} {c p : Nat} (hp : c ≤ p) : eff c (swp F c p) = swp (eff c F) c p := by
  funext i j
  unfold eff swp
  by_cases h1 : i = c
  · subst h1
    simp only [if_true]
    by_cases h : j < i
    · rw [if_pos (by omega), if_pos (by omega)]
    · rw [if_neg (by omega), if_neg (by omega)]
  · by_cases h2 : i = p
    · subst h2
      simp only [if_neg h1, if_true]
      by_cases h : j < c
      · rw [if_pos (by omega), if_pos (by omega)]
      · rw [if_neg (by omega), if_neg (by omega)]
    · simp only [if_neg h1, if_neg h2]
theorem step_swap {F : Nat → Nat → Cx} {n c p k : Nat} (hc : c < n) (hp : c ≤ p) (hpn : p < n) (x : Nat → Cx) :
    Solves n (eff c F) (fun i => F i k) x ↔ Solves n (eff c (swp F c p)) (fun i => swp F c p i k) x := by
  rw [eff_swp hp]
  have row : ∀ i, sm (fun j => (swp (eff c F) c p i j).mul (x j)) 0 n = (if i = c then sm (fun j => (eff c F p j).mul (x j)) 0 n else if i = p then sm (fun j => (eff c F c j).mul (x j)) 0 n else sm (fun j => (eff c F i j).mul (x j)) 0 n) := fun i => by
    unfold swp
    by_cases h1 : i = c
    · simp only [if_pos h1]
    · by_cases h2 : i = p
      · simp only [if_neg h1, if_pos h2]
      · simp only [if_neg h1, if_neg h2]
  have rhs : ∀ i, swp F c p i k = (if i = c then F p k else if i = p then F c k else F i k) := fun i => by
    unfold swp
    by_cases h1 : i = c
    · simp only [if_pos h1]
    · by_cases h2 : i = p
      · simp only [if_neg h1, if_pos h2]
      · simp only [if_neg h1, if_neg h2]
  constructor
  · intro h i hi
    simp only [row, rhs]
    by_cases h1 : i = c
    · rw [if_pos h1, if_pos h1]; exact h p hpn
    · by_cases h2 : i = p
      · rw [if_neg h1, if_neg h1, if_pos h2, if_pos h2]; exact h c hc
      · rw [if_neg h1, if_neg h1, if_neg h2, if_neg h2]; exact h i hi
  · intro h i hi
    by_cases h1 : i = c
    · have e := h p hpn
      simp only [row, rhs] at e
      by_cases h3 : p = c
      · rw [if_pos h3, if_pos h3] at e; rw [h1]; rw [h3] at e; exact e
      · simp only [if_neg h3, if_true] at e; rw [h1]; exact e
    · by_cases h2 : i = p
      · have e := h c hc
        simp only [row, rhs, if_true] at e
        rw [h2]; exact e
      · have e := h i hi
        simp only [row, rhs] at e
        rw [if_neg h1, if_neg h1, if_neg h2, if_neg h2] at e
        exact e
theorem swp_id {α : Type} (f : Nat → α) (c : Nat) : swp f c c = f := by
  funext i
  unfold swp
  by_cases h : i = c
  · rw [if_pos h, h]
  · rw [if_neg h, if_neg h]
/-- One step of the elimination: the row with the pivot is brought up, what lies below is cleared. -/
theorem elimS_step (n d c : Nat) (F : Nat → Nat → Cx) (ex : Nat) (h : c + (d + 1) = n) : ((∀ j, c ≤ j → j < n → F j c = .zero) ∧ elimS n (d + 1) c F ex = (c, ex, F) ∧ pivF F c c (n - c) = -1) ∨
    ∃ p ex', c ≤ p ∧ p < n ∧ F p c ≠ .zero ∧ pivF F c c (n - c) = (p : Int) ∧ elimS n (d + 1) c F ex = elimS n d (c + 1) (clearF (swp F c p) c c n) ex' ∧ swp F c p c c ≠ .zero := by
  rcases pivF_cases F c (n - c) c with ⟨hp, hz⟩ | ⟨p, h1, h2, hp, h3, -⟩
  · exact .inl ⟨fun j h1 h2 => hz j h1 (by omega), by rw [elimS, if_pos (by rw [hp]; omega)], hp⟩
  · refine .inr ?_
    by_cases hpc : p = c
    · subst hpc
      exact ⟨p, ex, h1, by omega, h3, hp, by rw [elimS, if_neg (by rw [hp]; omega), if_pos hp, swp_id], by rw [swp_id]; exact h3⟩
    · refine ⟨p, ex + 1, h1, by omega, h3, hp, by rw [elimS, if_neg (by rw [hp]; omega), if_neg (by rw [hp]; omega), hp]; rfl, ?_⟩
      unfold swp
      simp only [if_true]
      exact h3
theorem elimS_top (n : Nat) : ∀ (d c : Nat) (F : Nat → Nat → Cx) (ex : Nat), c + d = n → (∀ i, i < c → ∀ j, (elimS n d c F ex).2.2 i j = F i j) := by
  intro d
  induction d with
  | zero => intro c F ex h i hi j; rfl
  | succ d ih =>
    intro c F ex h i hi j
    rcases elimS_step n d c F ex h with ⟨-, e, -⟩ | ⟨p, ex', h1, h2, -, -, e, -⟩
    · rw [e]
    · rw [e, ih (c + 1) _ ex' (by omega) i (by omega) j, clear_row i j (by omega)]
      unfold swp
      rw [if_neg (by omega), if_neg (by omega)]
theorem elimS_diag (n : Nat) : ∀ (d c : Nat) (F : Nat → Nat → Cx) (ex : Nat), c + d = n → (elimS n d c F ex).1 = n → ∀ i, c ≤ i → i < n → (elimS n d c F ex).2.2 i i ≠ .zero := by
  intro d
  induction d with
  | zero => intro c F ex h _ i h1 h2; omega
  | succ d ih =>
    intro c F ex h hs i h1 h2
    rcases elimS_step n d c F ex h with ⟨-, e, -⟩ | ⟨p, ex', h3, h4, -, -, e, h0⟩
    · rw [e] at hs; simp only at hs; omega
    · rw [e] at hs ⊢
      by_cases hic : i = c
      · rw [hic, elimS_top n d (c + 1) _ ex' (by omega) c (by omega) c, clear_row c c (Nat.le_refl _)]
        exact h0
      · exact ih (c + 1) _ ex' (by omega) hs i (by omega) h2
theorem elimS_solves (n k : Nat) (hk : n ≤ k) (x : Nat → Cx) : ∀ (d c : Nat) (F : Nat → Nat → Cx) (ex : Nat), c + d = n → (elimS n d c F ex).1 = n →
    (Solves n (eff c F) (fun i => F i k) x ↔ Solves n (eff n (elimS n d c F ex).2.2) (fun i => (elimS n d c F ex).2.2 i k) x) := by
  intro d
  induction d with
  | zero => intro c F ex h _; obtain rfl : c = n := by omega
            exact Iff.rfl
  | succ d ih =>
    intro c F ex h hs
    rcases elimS_step n d c F ex h with ⟨-, e, -⟩ | ⟨p, ex', h3, h4, -, -, e, h0⟩
    · rw [e] at hs; simp only at hs; omega
    · rw [e] at hs ⊢
      rw [← ih (c + 1) _ ex' (by omega) hs, step_swap (by omega) h3 h4 x]
      exact step_clear (by omega) hk h0 x
theorem pivF_congr {F F' : Nat → Nat → Cx} (c : Nat) (h : ∀ i, F i c = F' i c) : ∀ (d i : Nat), pivF F c i d = pivF F' c i d := by
  intro d
  induction d with
  | zero => intro i; rfl
  | succ d ih => intro i; rw [pivF, pivF, h i, ih (i + 1)]
theorem elimS_cols (n : Nat) : ∀ (d c : Nat) (F F' : Nat → Nat → Cx) (ex : Nat), c + d = n → (∀ i j, j < n → F i j = F' i j) →
    (elimS n d c F ex).1 = (elimS n d c F' ex).1 ∧ (elimS n d c F ex).2.1 = (elimS n d c F' ex).2.1 ∧ ∀ i j, j < n → (elimS n d c F ex).2.2 i j = (elimS n d c F' ex).2.2 i j := by
  intro d
  induction d with
  | zero => intro c F F' ex h hF; exact ⟨rfl, rfl, hF⟩
  | succ d ih =>
    intro c F F' ex h hF
    have hp := pivF_congr (F := F) (F' := F') c (fun i => hF i c (by omega)) (n - c) c
    rw [elimS, elimS, hp]
    have hcl : ∀ G G' : Nat → Nat → Cx, (∀ i j, j < n → G i j = G' i j) → ∀ i j, j < n → clearF G c c n i j = clearF G' c c n i j := fun G G' hG i j hj => by
      unfold clearF clearP
      rw [hG i j hj, hG i c (by omega), hG c c (by omega), hG c j hj]
    split
    · exact ⟨rfl, rfl, hF⟩
    · split
      · exact ih (c + 1) _ _ ex (by omega) (hcl _ _ hF)
      · refine ih (c + 1) _ _ (ex + 1) (by omega) (hcl _ _ fun i j hj => ?_)
        unfold swp
        split
        · exact hF _ j hj
        · split
          · exact hF _ j hj
          · exact hF _ j hj

/-- s less d terms, from j on. -/
def subF (R : Nat → Nat → Cx) (c : Nat) (x : Nat → Cx) : Cx → Nat → Nat → Cx
  | s, _, 0 => s
  | s, j, d + 1 => subF R c x (s.sub ((R c j).mul (x j))) (j + 1) d
theorem subF_sum (R : Nat → Nat → Cx) (c : Nat) (x : Nat → Cx) : ∀ (d j : Nat) (s : Cx), subF R c x s j d = s.sub (sm (fun i => (R c i).mul (x i)) j d) := by
  intro d
  induction d with
  | zero => intro j s; rw [subF, sm]; apply Cx.ext <;> simp only [Cx.sub, Cx.zero] <;> grind
  | succ d ih =>
    intro j s
    rw [subF, ih (j + 1), sm]
    generalize sm (fun i => (R c i).mul (x i)) (j + 1) d = u
    apply Cx.ext <;> simp only [Cx.sub, Cx.add, Cx.mul] <;> grind
theorem subF_last (R : Nat → Nat → Cx) (c : Nat) (x : Nat → Cx) (d j : Nat) (s : Cx) : subF R c x s j (d + 1) = (subF R c x s j d).sub ((R c (j + d)).mul (x (j + d))) := by
  rw [subF_sum, subF_sum, sm_last]
  generalize sm (fun i => (R c i).mul (x i)) j d = u
  apply Cx.ext <;> simp only [Cx.sub, Cx.add, Cx.mul] <;> grind
/-- The last t elements of the solution. -/
def solT (R : Nat → Nat → Cx) (k n : Nat) : Nat → Nat → Cx
  | 0 => fun _ => .zero
  | t + 1 => upf (solT R k n t) (n - 1 - t) ((subF R (n - 1 - t) (solT R k n t) (R (n - 1 - t) k) (n - 1 - t + 1) t).div (R (n - 1 - t) (n - 1 - t)))
def solX (R : Nat → Nat → Cx) (k n : Nat) : Nat → Cx := solT R k n n
theorem solT_keep (R : Nat → Nat → Cx) (k n : Nat) : ∀ (s t j : Nat), t + s ≤ n → n - t ≤ j → solT R k n (t + s) j = solT R k n t j := by
  intro s
  induction s with
  | zero => intro t j _ _; rfl
  | succ s ih =>
    intro t j h1 h2
    rw [← Nat.add_assoc, solT, upf_other _ _ (by omega), ih t j (by omega) h2]
theorem solX_at (R : Nat → Nat → Cx) (k n c : Nat) (hc : c < n) : solX R k n c = (subF R c (solX R k n) (R c k) (c + 1) (n - 1 - c)).div (R c c) := by
  obtain ⟨t, ht⟩ : ∃ t, t = n - 1 - c := ⟨_, rfl⟩
  have e : n - 1 - t = c := by omega
  have h1 : solX R k n c = solT R k n (t + 1) c := by
    unfold solX
    have := solT_keep R k n (n - (t + 1)) (t + 1) c (by omega) (by omega)
    rwa [show t + 1 + (n - (t + 1)) = n by omega] at this
  rw [h1, solT, e, upf_same, ← ht]
  congr 1
  rw [subF_sum, subF_sum]
  congr 1
  refine sm_congr _ _ fun j h2 h3 => ?_
  have h4 := solT_keep R k n (n - t) t j (by omega) (by omega)
  rw [show t + (n - t) = n by omega] at h4
  show _ = (R c j).mul (solT R k n n j)
  rw [h4]
/-- A row of the triangle. -/
theorem eff_row (R : Nat → Nat → Cx) (x : Nat → Cx) (n c : Nat) (hc : c < n) : sm (fun j => (eff n R c j).mul (x j)) 0 n = ((R c c).mul (x c)).add (sm (fun j => (R c j).mul (x j)) (c + 1) (n - 1 - c)) := by
  have e : n = c + (n - 1 - c + 1) := by omega
  have h1 : ∀ j, j < c → eff n R c j = .zero := fun j hj => if_pos (by omega)
  have h2 : ∀ j, c ≤ j → eff n R c j = R c j := fun j hj => if_neg (by omega)
  have e2 : sm (fun j => (eff n R c j).mul (x j)) 0 n = sm (fun j => (eff n R c j).mul (x j)) 0 (c + (n - 1 - c + 1)) := by rw [← e]
  rw [e2, sm_split, sm_zero c 0 fun j _ hj => by rw [h1 j (by omega), Cx.zero_mul], Cx.zero_add, sm, Nat.zero_add, h2 c (Nat.le_refl _)]
  congr 1
  exact sm_congr _ _ fun j hj _ => by rw [h2 j (by omega)]
theorem solX_solves (R : Nat → Nat → Cx) (k n : Nat) (h : ∀ i, i < n → R i i ≠ .zero) : Solves n (eff n R) (fun i => R i k) (solX R k n) := fun c hc => by
  rw [eff_row _ _ _ _ hc, solX_at R k n c hc, Cx.mul_comm (R c c), Cx.div_mul' _ (h c hc), subF_sum]
  generalize sm (fun i => (R c i).mul (solX R k n i)) (c + 1) (n - 1 - c) = u
  apply Cx.ext <;> simp only [Cx.sub, Cx.add] <;> grind
theorem Cx.mul_cancel {x y z : Cx} (h : x ≠ .zero) (e : x.mul y = x.mul z) : y = z := by
  have h1 : ∀ u : Cx, (x.mul u).div x = u := fun u => by
    rw [Cx.div, Cx.mul_comm x u, Cx.mul_assoc]
    have h2 := Cx.div_mul (.int 1) h
    rw [Cx.div, Cx.one_mul, Cx.mul_comm] at h2
    rw [h2, Cx.mul_one]
  rw [← h1 y, e, h1 z]
theorem tri_unique (R : Nat → Nat → Cx) (b x y : Nat → Cx) (n : Nat) (h : ∀ i, i < n → R i i ≠ .zero) (hx : Solves n (eff n R) b x) (hy : Solves n (eff n R) b y) : ∀ (t c : Nat), n - 1 - c = t → c < n → x c = y c := by
  intro t
  induction t using Nat.strongRecOn with
  | ind t ih =>
    intro c ht hc
    have e1 := hx c hc
    have e2 := hy c hc
    rw [eff_row _ _ _ _ hc] at e1 e2
    have e3 : sm (fun j => (R c j).mul (x j)) (c + 1) (n - 1 - c) = sm (fun j => (R c j).mul (y j)) (c + 1) (n - 1 - c) := sm_congr _ _ fun j h1 h2 => by
      rw [ih (n - 1 - j) (by omega) j rfl (by omega)]
    rw [e3] at e1
    refine Cx.mul_cancel (h c hc) ?_
    have e4 := e1.trans e2.symm
    have f1 := congrArg Cx.re e4
    have f2 := congrArg Cx.im e4
    simp only [Cx.add] at f1 f2
    apply Cx.ext <;> grind
/-- What substitution finds solves the system. -/
theorem elim_solves {n k : Nat} (hk : n ≤ k) (F : Nat → Nat → Cx) (h : (elimS n n 0 F 0).1 = n) : Solves n F (fun i => F i k) (solX (elimS n n 0 F 0).2.2 k n) := by
  have h1 := elimS_solves n k hk (solX (elimS n n 0 F 0).2.2 k n) n 0 F 0 (by omega) h
  rw [eff_zero] at h1
  exact h1.2 (solX_solves _ k n fun i hi => elimS_diag n n 0 F 0 (by omega) h i (by omega) hi)
/-- There is no other. -/
theorem elim_unique {n : Nat} (F : Nat → Nat → Cx) (h : (elimS n n 0 F 0).1 = n) {b x y : Nat → Cx} (hx : Solves n F b x) (hy : Solves n F b y) : ∀ c, c < n → x c = y c := by
  have hG : ∀ i j, j < n → F i j = (fun i j => if j < n then F i j else b i) i j := fun i j hj => by simp only [if_pos hj]
  obtain ⟨G, hGG⟩ : ∃ G : Nat → Nat → Cx, G = fun i j => if j < n then F i j else b i := ⟨_, rfl⟩
  rw [← hGG] at hG
  have hs := (elimS_cols n n 0 F G 0 (by omega) hG).1
  rw [h] at hs
  have conv : ∀ z, Solves n F b z → Solves n G (fun i => G i n) z := fun z hz i hi => by
    have e := hz i hi
    have e2 : G i n = b i := by rw [hGG]; simp
    show _ = G i n
    rw [e2, ← e]
    exact sm_congr _ _ fun j _ hj => by rw [← hG i j (by omega)]
  have tri : ∀ z, Solves n F b z → Solves n (eff n (elimS n n 0 G 0).2.2) (fun i => (elimS n n 0 G 0).2.2 i n) z := fun z hz => by
    have h1 := elimS_solves n n (Nat.le_refl _) z n 0 G 0 (by omega) hs.symm
    rw [eff_zero] at h1
    exact h1.1 (conv z hz)
  intro c hc
  exact tri_unique _ _ x y n (fun i hi => elimS_diag n n 0 G 0 (by omega) hs.symm i (by omega) hi) (tri x hx) (tri y hy) _ c rfl hc

/-- The rank, as the program reckons it. -/
def rkS (rows : Nat) : Nat → Nat → Nat → (Nat → Nat → Cx) → Nat
  | 0, _, r, _ => r
  | d + 1, c, r, F => if r < rows then (if pivF F c r (rows - r) < 0 then rkS rows d (c + 1) r F else rkS rows d (c + 1) (r + 1) (clearF (swp F r (pivF F c r (rows - r)).toNat) r c rows)) else r
theorem rkS_le (rows : Nat) : ∀ (d c r : Nat) (F : Nat → Nat → Cx), rkS rows d c r F ≤ r + d := by
  intro d
  induction d with
  | zero => intro c r F; exact Nat.le_refl _
  | succ d ih =>
    intro c r F
    rw [rkS]
    split
    · split
      · have := ih (c + 1) r F; omega
      · have := ih (c + 1) (r + 1) (clearF (swp F r (pivF F c r (rows - r)).toNat) r c rows); omega
    · omega
theorem rkS_full (n : Nat) : ∀ (d c : Nat) (F : Nat → Nat → Cx) (ex : Nat), c + d = n → (rkS n d c c F = n ↔ (elimS n d c F ex).1 = n) := by
  intro d
  induction d with
  | zero => intro c F ex h; rw [rkS, elimS]
  | succ d ih =>
    intro c F ex h
    rw [rkS, if_pos (by omega)]
    rcases elimS_step n d c F ex h with ⟨-, e, hp⟩ | ⟨p, ex', h3, h4, -, hp, e, h0⟩
    · rw [if_pos (by rw [hp]; omega), e]
      have := rkS_le n d (c + 1) c F
      constructor
      · intro h'; omega
      · intro h'; simp only at h'; omega
    · rw [if_neg (by rw [hp]; omega), hp, e]
      exact ih (c + 1) _ ex' (by omega)
/-- The determinant is not 0 exactly if elimination comes through. -/
theorem prodD_ne {G : Nat → Nat → Cx} : ∀ c, (∀ i, i ≤ c → G i i ≠ .zero) → prodD G c ≠ .zero := by
  intro c
  induction c with
  | zero => intro h; exact h 0 (Nat.le_refl _)
  | succ c ih =>
    intro h e
    rw [prodD] at e
    have h1 := ih fun i hi => h i (by omega)
    exact h (c + 1) (Nat.le_refl _) (Cx.mul_cancel h1 (by rw [e, Cx.mul_zero]))
theorem detF_ne {n : Nat} (hn : 0 < n) (F : Nat → Nat → Cx) : detF n F ≠ .zero ↔ (elimS n n 0 F 0).1 = n := by
  have hle := (elimS_ok n n 0 F 0 (by omega)).1
  unfold detF detR
  constructor
  · intro h
    rcases Nat.lt_or_ge (elimS n n 0 F 0).1 n with h1 | h1
    · rw [if_pos h1] at h; exact absurd rfl h
    · omega
  · intro h
    have hd := prodD_ne (G := (elimS n n 0 F 0).2.2) (n - 1) fun i hi => elimS_diag n n 0 F 0 (by omega) h i (by omega) (by omega)
    rw [if_neg (by omega)]
    split
    · intro e
      refine hd ?_
      have f1 := congrArg Cx.re e
      have f2 := congrArg Cx.im e
      simp only [Cx.neg, Cx.zero] at f1 f2
      apply Cx.ext <;> simp only [Cx.zero] <;> grind
    · exact hd

/-- The identity. -/
def idF : Nat → Nat → Cx := fun i k => if i = k then .int 1 else .zero
theorem mat_assoc (A B : Nat → Nat → Cx) (x : Nat → Cx) (n i : Nat) : sm (fun j => (A i j).mul (sm (fun l => (B j l).mul (x l)) 0 n)) 0 n = sm (fun l => (sm (fun j => (A i j).mul (B j l)) 0 n).mul (x l)) 0 n := by
  have e1 : ∀ j, (A i j).mul (sm (fun l => (B j l).mul (x l)) 0 n) = sm (fun l => (A i j).mul ((B j l).mul (x l))) 0 n := fun j => (sm_mul _ _ _ _).symm
  have e2 : ∀ l, (sm (fun j => (A i j).mul (B j l)) 0 n).mul (x l) = sm (fun j => (A i j).mul ((B j l).mul (x l))) 0 n := fun l => by
    rw [Cx.mul_comm, ← sm_mul]
    refine sm_congr _ _ fun j _ _ => ?_
    rw [Cx.mul_comm, Cx.mul_assoc]
  simp only [e1, e2]
  exact sm_swap (fun j l => (A i j).mul ((B j l).mul (x l))) n 0 n 0
theorem sm_id (f : Nat → Cx) (n k : Nat) (hk : k < n) : sm (fun j => (f j).mul (idF j k)) 0 n = f k := by
  rw [sm_one hk fun j _ hj => by simp only [idF, if_neg hj, Cx.mul_zero]]
  simp only [idF, if_true, Cx.mul_one]
theorem sm_id' (x : Nat → Cx) (n i : Nat) (hi : i < n) : sm (fun j => (idF i j).mul (x j)) 0 n = x i := by
  rw [sm_one hi fun j _ hj => by simp only [idF, if_neg (Ne.symm hj), Cx.zero_mul]]
  simp only [idF, if_true, Cx.one_mul]
/-- A matrix whose product with F from the right is the identity has it from the left. -/
theorem left_inv {n : Nat} {F V : Nat → Nat → Cx} (h : (elimS n n 0 F 0).1 = n) (hr : ∀ i k, i < n → k < n → sm (fun j => (F i j).mul (V j k)) 0 n = idF i k) : ∀ i k, i < n → k < n → sm (fun j => (V i j).mul (F j k)) 0 n = idF i k := by
  intro i k hi hk
  have h1 : Solves n F (fun i => F i k) (fun j => sm (fun l => (V j l).mul (F l k)) 0 n) := fun i hi => by
    rw [mat_assoc F V (fun l => F l k) n i]
    have : ∀ l, l < n → (sm (fun j => (F i j).mul (V j l)) 0 n).mul (F l k) = (idF i l).mul (F l k) := fun l hl => by rw [hr i l hi hl]
    rw [sm_congr n 0 fun l _ hl => this l (by omega)]
    exact sm_id' (fun l => F l k) n i hi
  have h2 : Solves n F (fun i => F i k) (fun j => idF j k) := fun i hi => sm_id (fun j => F i j) n k hk
  exact elim_unique F h h1 h2 i hi
end Go.Proofs.YtmlkpnfjgifgfaaGreatDoor
