import Derived.Test.YtlljeccfhmojnaaGreatDoorJ39
set_option linter.unusedSimpArgs false
set_option linter.unusedVariables false
namespace Go.Proofs.YtlljeccfhmojnaaGreatDoor
open Go.RowKit
set_option maxRecDepth 100000
section
variable {P : Program} {ops : Array Oper} {a0 : Act}
def FreeOb (P : Program) (ops : Array Oper) (a0 : Act) (I : World → Prop) (p : Nat → Value → World → Prop) (m : Nat → World → Prop) (r : Nat → World → World → Prop) (o : Oper) (i : Nat) : Prop :=
  ∀ (ts : Nat → Value) (W : World), I W → m i W → (∀ j, predB ops i j = true → p j (ts j) W) → ∀ K : Act → World → Prop, (∀ v W', p i v W' → r i W W' → K (Act.put ⟨fillT ts ops.toList 0 a0.tmps, a0.defers⟩ o.dst v) W') →
    Goes (Oper.wp P o ⟨fillT ts ops.toList 0 a0.tmps, a0.defers⟩ W K (fun _ _ _ => False))
def AllFree (P : Program) (ops : Array Oper) (a0 : Act) (I : World → Prop) (p : Nat → Value → World → Prop) (m : Nat → World → Prop) (r : Nat → World → World → Prop) : List Oper → Nat → Prop
  | [], _ => True
  | o :: os, i => FreeOb P ops a0 I p m r o i ∧ AllFree P ops a0 I p m r os (i + 1)
theorem AllFree.at {I : World → Prop} {p : Nat → Value → World → Prop} {m : Nat → World → Prop} {r : Nat → World → World → Prop} {os : List Oper} {i0 : Nat} (h : AllFree P ops a0 I p m r os i0) {i : Nat} {o : Oper} (ho : os[i]? = some o) : FreeOb P ops a0 I p m r o (i0 + i) := by
  induction os generalizing i0 i with
  | nil => simp at ho
  | cons o1 os ih =>
    cases i with
    | zero => simp at ho; subst ho; exact h.1
    | succ i =>
      have := ih h.2 (i := i) (by simpa using ho)
      rw [show i0 + 1 + i = i0 + (i + 1) by omega] at this
      exact this
def anyK (n : Nat) : List RK := List.replicate n (.val fun _ _ => True)
theorem rk_any (n i : Nat) : rk (anyK n) i = .val fun _ _ => True := by
  unfold rk anyK
  rw [List.getD_eq_getElem?_getD, List.getElem?_replicate]
  split <;> rfl
theorem wp_transfer0 {o : Oper} {a a1 : Act} {W : World} (he : execOp a1.eval o = execOp a.eval o) (hd : o.dst = none) {k : World → Prop}
    (h : Oper.wp P o a1 W (fun a' W' => a'.defers = a1.defers ∧ k W') (fun _ _ _ => False)) {K : Act → World → Prop} {Q : Exit → Act → World → Prop}
    (hk : ∀ W', k W' → K a W') : Oper.wp P o a W K Q := by
  have hput : ∀ (b : Act) v, b.put none v = b := fun b v => rfl
  unfold Oper.wp at *
  rw [he] at h
  generalize (execOp a.eval o).run P W = r at *
  cases r with
  | ok n w' =>
    cases n <;> simp only [Oper.upon, hd, hput] at h ⊢
    case value v => exact hk w' h.2
    case skip => exact hk w' h.2
    case defer d' =>
      exfalso
      have h1 := h.1
      simp at h1
    case enter f args =>
      refine Calls.mono h fun e w'' h' => ?_
      cases e with
      | returned v => exact hk w'' h'.2
      | panicked c => exact h'.elim
      | outgrown => obtain ⟨_, _, h⟩ := h'; exact h.elim
    case row row args => exact Rows.mono h fun v w'' h' => hk w'' h'.2
  | halt x w' =>
    cases x <;> simp only [Oper.upon] at h ⊢
theorem free_step {w : World} {Q : Exit → Act → World → Prop} (I : World → Prop) (p : Nat → Value → World → Prop) (m : Nat → World → Prop) (r : Nat → World → World → Prop)
    (hb : backB ops = true) (hd : dstB ops a0.tmps.size = true) (hl : looksB ops = true)
    (hpp : ∀ i j v W W', i ≠ j → predB ops j i = false → I W → r i W W' → p j v W → p j v W') (hmm : ∀ i j W W', i ≠ j → predB ops i j = false → I W → r i W W' → m j W → m j W') (hII : ∀ i W W', r i W W' → I W → I W')
    (hob : AllFree P ops a0 I p m r ops.toList 0) {L : Nat → Bool} {ts : Nat → Value} {a : Act} {W : World} (h : Lin ops (anyK ops.size) w.heap.size w a0 L ts a w) (hI : I W) (hp : ∀ i, i < ops.size → L i = true → p i (ts i) W) (hmem : ∀ i, L i = false → m i W)
    {i : Nat} {o : Oper} (ho : ops[i]? = some o) (hLi : L i = false) (hpre : ∀ e ∈ o.after, Region.binds .any e = true → L e.on = true) :
    Oper.wp P o a W (fun a' W' => ∃ ts, Lin ops (anyK ops.size) w.heap.size w a0 (fun j => j == i || L j) ts a' w ∧ I W' ∧ (∀ k, k < ops.size → (k == i || L k) = true → p k (ts k) W') ∧ (∀ k, (k == i || L k) = false → m k W')) Q := by
  have hlen : (anyK ops.size).length = ops.size := by simp [anyK]
  have hi := lt_of_op ho
  have hobi := hob.at (i := i) (o := o) (by simpa using ho)
  rw [Nat.zero_add] at hobi
  have hpk : ∀ j, predB ops i j = true → p j (ts j) W := fun j hj => by
    obtain ⟨e, he, hbd, rfl⟩ := predB_spec ho hj
    exact hp _ (by have := backB_spec hb ho e he hbd; omega) (hpre e he hbd)
  have hbehind : ∀ v W', p i v W' → r i W W' → ∃ ts, Lin ops (anyK ops.size) w.heap.size w a0 (fun j => j == i || L j) ts (a.put o.dst v) w ∧ I W' ∧ (∀ k, k < ops.size → (k == i || L k) = true → p k (ts k) W') ∧ (∀ k, (k == i || L k) = false → m k W') := fun v W' hpv hrW => by
    obtain ⟨f1, f2, f3, f4⟩ := h.put_frame hd ho v
    refine ⟨fun j => if j = i then v else ts j, ⟨h.below, f1, f2, f3, f4, fun j hj _ => ?_, fun j k T z T' z' _ _ hk => (by rw [rk_any] at hk; cases hk), fun j o' hj hL e he hbd => ?_, fun j hL => ?_⟩, hII i W W' hrW hI, fun j hj hL => ?_, fun j hL => ?_⟩
    · unfold Held
      rw [rk_any]
      trivial
    · by_cases hji : j = i
      · subst hji
        rw [ho] at hj
        cases hj
        simp [hpre e he hbd]
      · simp [h.shut j o' hj (by simpa [hji] using hL) e he hbd]
    · rw [hlen]
      by_cases hji : j = i
      · rw [hji]; exact hi
      · have := h.dom j (by simpa [hji] using hL)
        rwa [hlen] at this
    · by_cases hji : j = i
      · subst hji
        simpa using hpv
      · simp only [if_neg hji]
        have hLj : L j = true := by simpa [hji] using hL
        have hoj : ops[j]? = some ops[j] := Array.getElem?_eq_getElem hj
        have hpr : predB ops j i = false := by
          cases hq : predB ops j i with
          | false => rfl
          | true =>
            obtain ⟨e, he, hbd, rfl⟩ := predB_spec hoj hq
            rw [h.shut j _ hoj hLj e he hbd] at hLi
            cases hLi
        exact hpp i j _ W W' (Ne.symm hji) hpr hI hrW (hp j hj hLj)
    · have hji : j ≠ i := fun e => by simp [e] at hL
      have hLj : L j = false := by simpa [hji] using hL
      have hpr : predB ops i j = false := by
        cases hq : predB ops i j with
        | false => rfl
        | true =>
          obtain ⟨e, he, hbd, rfl⟩ := predB_spec ho hq
          rw [hpre e he hbd] at hLj
          cases hLj
      exact hmm i j W W' (Ne.symm hji) hpr hI hrW (hmem j hLj)
  cases hod : o.dst with
  | some d =>
    have hsz : d < (fillT ts ops.toList 0 a0.tmps).size := by rw [fillT_size]; exact dstB_lt hd ho hod
    refine wp_transfer (k := fun v W' => p i v W' ∧ r i W W') (execOp_lin hd hl h ho hpre) hod hsz (hobi ts W hI (hmem i hLi) hpk _ fun v W' hpv hrW => ?_).out ?_
    · rw [hod]
      simp only [Act.put]
      refine ⟨trivial, ?_⟩
      have e : (Array.setIfInBounds (fillT ts ops.toList 0 a0.tmps) d v).getD d undef = v := by
        simp [Array.getD_eq_getD_getElem?, Array.getElem?_setIfInBounds, hsz]
      rw [e]
      exact ⟨hpv, hrW⟩
    · rintro v W' ⟨hpv, hrW⟩
      exact hbehind v W' hpv hrW
  | none =>
    refine wp_transfer0 (k := fun W' => ∃ v, p i v W' ∧ r i W W') (execOp_lin hd hl h ho hpre) hod (hobi ts W hI (hmem i hLi) hpk _ fun v W' hpv hrW => ?_).out ?_
    · rw [hod]
      exact ⟨rfl, v, hpv, hrW⟩
    · rintro W' ⟨v, hpv, hrW⟩
      have := hbehind v W' hpv hrW
      rw [hod] at this
      exact this
theorem region_free {id : Nat} {dr : Bool} {w : World} {Q : Exit → Act → World → Prop} (I : World → Prop) (p : Nat → Value → World → Prop) (m : Nat → World → Prop) (r : Nat → World → World → Prop)
    (hm : P.follows .mixedOrders = true) (hb : backB ops = true) (hd : dstB ops a0.tmps.size = true) (hl : looksB ops = true) (hg : (ops.toList.all fun o => o.guard.isNone) = true)
    (hs : ∀ W, W = w ∨ W = w.drew → I W ∧ ∀ i, m i W)
    (hpp : ∀ i j v W W', i ≠ j → predB ops j i = false → I W → r i W W' → p j v W → p j v W') (hmm : ∀ i j W W', i ≠ j → predB ops i j = false → I W → r i W W' → m j W → m j W') (hII : ∀ i W W', r i W W' → I W → I W')
    (hob : AllFree P ops a0 I p m r ops.toList 0)
    (fin : ∀ (ts : Nat → Value) (W : World), I W → (∀ i, i < ops.size → p i (ts i) W) → Q .normal ⟨fillT ts ops.toList 0 a0.tmps, a0.defers⟩ W) :
    (Code.region id ops dr).wp P Q a0 w := by
  have hlen : (anyK ops.size).length = ops.size := by simp [anyK]
  refine wp_region_lin' (fun L a W => ∃ ts, Lin ops (anyK ops.size) w.heap.size w a0 L ts a w ∧ I W ∧ (∀ i, i < ops.size → L i = true → p i (ts i) W) ∧ (∀ i, L i = false → m i W)) hm hb ?_ ?_ fun w' hw' => ?_
  · rintro L a W ⟨ts, h, hI, hp, hmem⟩ i o ho hLi hpre
    have hi := lt_of_op ho
    have hog : o.guard = none := by simpa using List.all_eq_true.1 hg o (Array.mem_toList_iff.2 (Array.mem_of_getElem? ho))
    have hwant : Region.wanted o (yielded ops a.tmps) = true := by unfold Region.wanted; rw [hog]
    unfold wpOp
    rw [ho]
    simp only [hwant, if_true]
    exact .inl (free_step I p m r hb hd hl hpp hmm hII hob h hI hp hmem ho hLi hpre)
  · rintro L a W ⟨ts, h, hI, hp, -⟩ hall
    obtain ⟨ha, -, -⟩ := lin_fin hd h (by omega) (fun j hj => hall j (by omega)) (fun i o ho hi => by have := lt_of_op ho; omega)
    rw [ha]
    exact fin ts W hI fun i hi => hp i hi (hall i hi)
  · obtain ⟨hI, hmw⟩ := hs w' hw'
    obtain ⟨ts, h⟩ := lin_start (ops := ops) (kl := anyK ops.size) (a0 := a0) (w := w) (.inl rfl)
    exact ⟨ts, h, hI, (fun i _ hL => absurd hL (by simp)), fun i _ => hmw i⟩
theorem region_free2 {id : Nat} {dr : Bool} {w : World} {Q : Exit → Act → World → Prop} {all : Array Oper} (n : Nat) (I : World → Prop) (p : Nat → Value → World → Prop) (m : Nat → World → Prop) (r : Nat → World → World → Prop)
    (hm : P.follows .mixedOrders = true) (hba : backB all = true) (hops : ops = (all.toList.take n).toArray) (hn : all.size = n + 2) (hb : backB ops = true) (hd : dstB ops a0.tmps.size = true) (hl : looksB ops = true) (hg : (all.toList.all fun o => o.guard.isNone) = true)
    {o1 o2 : Oper} (ho1 : all.toList[n]? = some o1) (ho2 : all.toList[n + 1]? = some o2) (hp1 : ((List.range n).all fun j => (mark all (List.range n).reverse (predsOf all n)).contains j) = true) (hp2 : predB all (n + 1) n = true)
    (hs : ∀ W, W = w ∨ W = w.drew → I W ∧ ∀ i, m i W)
    (hpp : ∀ i j v W W', i ≠ j → predB ops j i = false → I W → r i W W' → p j v W → p j v W') (hmm : ∀ i j W W', i ≠ j → predB ops i j = false → I W → r i W W' → m j W → m j W') (hII : ∀ i W W', r i W W' → I W → I W')
    (hob : AllFree P ops a0 I p m r ops.toList 0)
    (fin : ∀ (ts : Nat → Value) (W : World), I W → (∀ i, i < n → p i (ts i) W) → ∀ K : Act → World → Prop, (∀ a' W', Q .normal a' W' → K a' W') →
      Goes (Oper.wp P o1 ⟨fillT ts ops.toList 0 a0.tmps, a0.defers⟩ W (fun a' W' => Oper.wp P o2 a' W' K Q) Q)) :
    (Code.region id all dr).wp P Q a0 w := by
  have hsz : ops.size = n := by rw [hops]; simp; omega
  have hat : ∀ i, i < n → ops[i]? = all[i]? := fun i hi => by
    rw [hops]
    simp only [List.getElem?_toArray]
    rw [List.getElem?_take_of_lt hi]
    simp
  replace ho1 : all[n]? = some o1 := by simpa using ho1
  replace ho2 : all[n + 1]? = some o2 := by simpa using ho2
  have hgo : ∀ (i : Nat) (o : Oper), all[i]? = some o → o.guard = none := fun i o ho => by simpa using List.all_eq_true.1 hg o (Array.mem_toList_iff.2 (Array.mem_of_getElem? ho))
  refine wp_region_lin' (fun L a W => (L n = false ∧ L (n + 1) = false ∧ ∃ ts, Lin ops (anyK ops.size) w.heap.size w a0 L ts a w ∧ I W ∧ (∀ i, i < ops.size → L i = true → p i (ts i) W) ∧ (∀ i, L i = false → m i W)) ∨
    (L n = true ∧ L (n + 1) = false ∧ (∀ j, j < n → L j = true) ∧ Oper.wp P o2 a W (Q .normal) Q) ∨ ((∀ j, j < all.size → L j = true) ∧ Q .normal a W)) hm hba ?_ ?_ fun w' hw' => .inl ⟨rfl, rfl, ?_⟩
  · rintro L a W hJ i o ho hLi hpre
    have hi := lt_of_op ho
    have hwant : Region.wanted o (yielded all a.tmps) = true := by unfold Region.wanted; rw [hgo i o ho]
    unfold wpOp
    rw [ho]
    simp only [hwant, if_true]
    rcases hJ with ⟨hn1, hn2, ts, h, hI, hp, hmem⟩ | ⟨hn1, hn2, hall, hq⟩ | ⟨hall, -⟩
    · by_cases hi1 : i < n
      · refine .inl (Oper.wp_mono (fun a' w' hq => .inl ⟨?_, ?_, hq⟩) (free_step I p m r hb hd hl hpp hmm hII hob h hI hp hmem ((hat i hi1).trans ho) hLi hpre))
        · have : (n == i) = false := by simp; omega
          simp [this, hn1]
        · have : (n + 1 == i) = false := by simp; omega
          simp [this, hn2]
      · by_cases hi2 : i = n
        · subst hi2
          rw [ho1] at ho
          cases ho
          have hall : ∀ j, j < i → L j = true := fun j hj =>
            mark_done (fun k o' hk hLk e he hbd => by
              have hkn : k < i := by have := h.dom k hLk; rwa [show (anyK ops.size).length = ops.size by simp [anyK], hsz] at this
              exact h.shut k o' ((hat k hkn).trans hk) hLk e he hbd) (List.range i).reverse (predsOf all i) (fun j' hj' => by
              obtain ⟨e, he, hbd, rfl⟩ := predsOf_mem ho1 hj'
              exact hpre e he hbd) j (by simpa using List.all_eq_true.1 hp1 j (List.mem_range.2 hj))
          obtain ⟨ha, -, -⟩ := lin_fin hd h (by simp [anyK]) (fun j hj => hall j (by rw [← hsz]; simpa [anyK] using hj)) (fun k o' hk hkl => by have h1 := lt_of_op hk; have h2 : (anyK ops.size).length = ops.size := (by simp [anyK]); exfalso; omega)
          rw [ha]
          refine .inl (Oper.wp_mono (fun a' w' hq => .inr (.inl ⟨by simp, by simp [hn2], fun j hj => by simp [hall j hj], hq⟩)) (fin ts W hI (fun k hk => hp k (by omega) (hall k hk)) (Q .normal) fun _ _ h => h).out)
        · have : i = n + 1 := by omega
          subst this
          rw [ho2] at ho
          cases ho
          obtain ⟨e, he, hbd, hon⟩ := predB_spec ho2 hp2
          have := hpre e he hbd
          rw [hon, hn1] at this
          cases this
    · have : i = n + 1 := by
        rcases Nat.lt_trichotomy i n with h | h | h
        · rw [hall i h] at hLi; cases hLi
        · rw [h, hn1] at hLi; cases hLi
        · omega
      subst this
      rw [ho2] at ho
      cases ho
      refine .inl (Oper.wp_mono (fun a' w' hq => .inr (.inr ⟨fun j hj => ?_, hq⟩)) hq)
      rcases Nat.lt_trichotomy j n with h | h | h
      · simp [hall j h]
      · simp [h, hn1]
      · have : j = n + 1 := by omega
        simp [this]
    · rw [hall i hi] at hLi; cases hLi
  · rintro L a W (⟨hn1, -⟩ | ⟨-, hn2, -⟩ | ⟨-, hq⟩) hall
    · rw [hall n (by omega)] at hn1; cases hn1
    · rw [hall (n + 1) (by omega)] at hn2; cases hn2
    · exact hq
  · obtain ⟨hI, hmw⟩ := hs w' hw'
    obtain ⟨ts, h⟩ := lin_start (ops := ops) (kl := anyK ops.size) (a0 := a0) (w := w) (.inl rfl)
    exact ⟨ts, h, hI, (fun i _ hL => absurd hL (by simp)), fun i _ => hmw i⟩
theorem region_free10 {id : Nat} {dr : Bool} {w : World} {Q : Exit → Act → World → Prop} {q0 q1 q2 q3 q4 q5 q6 q7 o1 o2 : Oper} (I : World → Prop) (p : Nat → Value → World → Prop) (m : Nat → World → Prop) (r : Nat → World → World → Prop)
    (hm : P.follows .mixedOrders = true) (hba : backB #[q0, q1, q2, q3, q4, q5, q6, q7, o1, o2] = true) (hb : backB #[q0, q1, q2, q3, q4, q5, q6, q7] = true) (hd : dstB #[q0, q1, q2, q3, q4, q5, q6, q7] a0.tmps.size = true) (hl : looksB #[q0, q1, q2, q3, q4, q5, q6, q7] = true) (hg : ([q0, q1, q2, q3, q4, q5, q6, q7, o1, o2].all fun o => o.guard.isNone) = true)
    (hp1 : ((List.range 8).all fun j => (mark #[q0, q1, q2, q3, q4, q5, q6, q7, o1, o2] (List.range 8).reverse (predsOf #[q0, q1, q2, q3, q4, q5, q6, q7, o1, o2] 8)).contains j) = true) (hp2 : predB #[q0, q1, q2, q3, q4, q5, q6, q7, o1, o2] 9 8 = true)
    (hs : ∀ W, W = w ∨ W = w.drew → I W ∧ ∀ i, m i W)
    (hpp : ∀ i j v W W', i ≠ j → predB #[q0, q1, q2, q3, q4, q5, q6, q7] j i = false → I W → r i W W' → p j v W → p j v W') (hmm : ∀ i j W W', i ≠ j → predB #[q0, q1, q2, q3, q4, q5, q6, q7] i j = false → I W → r i W W' → m j W → m j W') (hII : ∀ i W W', r i W W' → I W → I W')
    (hob : AllFree P #[q0, q1, q2, q3, q4, q5, q6, q7] a0 I p m r [q0, q1, q2, q3, q4, q5, q6, q7] 0)
    (fin : ∀ (ts : Nat → Value) (W : World), I W → (∀ i, i < 8 → p i (ts i) W) → ∀ K : Act → World → Prop, (∀ a' W', Q .normal a' W' → K a' W') →
      Goes (Oper.wp P o1 ⟨fillT ts [q0, q1, q2, q3, q4, q5, q6, q7] 0 a0.tmps, a0.defers⟩ W (fun a' W' => Oper.wp P o2 a' W' K Q) Q)) :
    (Code.region id #[q0, q1, q2, q3, q4, q5, q6, q7, o1, o2] dr).wp P Q a0 w :=
  region_free2 (ops := #[q0, q1, q2, q3, q4, q5, q6, q7]) 8 I p m r hm hba rfl rfl hb hd hl hg rfl rfl hp1 hp2 hs hpp hmm hII hob fin
theorem wp_move {o : Oper} {a : Act} {w : World} {K : Act → World → Prop} {Q : Exit → Act → World → Prop} {x : Operand} (ho : o.op = .move x) {v : Value} (hx : a.eval x = v) (hK : K (a.put o.dst v) w) : o.wp P a w K Q := by
  unfold Oper.wp execOp
  simp only [ho, hx, Sem.run_pure]
  exact hK
theorem ops_step {Q : Exit → Act → World → Prop} {i : Nat} {js : List Nat} {a : Act} {w : World} {o : Oper} (ho : ops[i]? = some o) (hg : o.guard = none) (h : ∀ K : Act → World → Prop, (∀ a' w', wpOps P ops Q js a' w' → K a' w') → Goes (o.wp P a w K Q)) : wpOps P ops Q (i :: js) a w := by
  rw [wpOps_cons]
  unfold wpOp
  rw [ho]
  have hwant : Region.wanted o (yielded ops a.tmps) = true := by unfold Region.wanted; rw [hg]
  simp only [hwant, if_true]
  exact .inl (h _ fun _ _ h => h).out
end
end Go.Proofs.YtlljeccfhmojnaaGreatDoor
