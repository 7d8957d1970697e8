import Derived.Test.YtccldiokpgjocaaGreatDoorR13
import Derived.Test.YtccldiokpgjocaaGreatDoorR14
import Derived.Test.YtccldiokpgjocaaGreatDoorR31
import Derived.Test.YtccldiokpgjocaaGreatDoorR40
set_option linter.unusedSimpArgs false
set_option linter.unusedVariables false
namespace Go.Proofs.YtccldiokpgjocaaGreatDoor
open Go.RowKit
set_option maxRecDepth 100000
section
variable {P : Program} {ops : Array Oper} {a0 : Act}
def FreeOb (P : Program) (ops : Array Oper) (a0 : Act) (I : World → Prop) (p : Nat → Value → World → Prop) (m : Nat → World → Prop) (r : Nat → World → World → Prop) (o : Oper) (i : Nat) : Prop :=
  ∀ (ts : Nat → Value) (W : World), I W → m i W → (∀ j, predB ops i j = true → p j (ts j) W) → ∀ K : Act → World → Prop, (∀ v W', p i v W' → r i W W' → K (Act.put ⟨fillT ts ops.toList 0 a0.tmps, a0.defers⟩ o.dst v) W') →
    Goes (Oper.wp P o ⟨fillT ts ops.toList 0 a0.tmps, a0.defers⟩ W K (fun _ _ _ => False))
def AllFree (P : Program) (ops : Array Oper) (a0 : Act) (I : World → Prop) (p : Nat → Value → World → Prop) (m : Nat → World → Prop) (r : Nat → World → World → Prop) : List Oper → Nat → Prop
  | [], _ => True
  | o :: os, i => FreeOb P ops a0 I p m r o i ∧ AllFree P ops a0 I p m r os (i + 1)
theorem AllFree.at {I : World → Prop} {p : Nat → Value → World → Prop} {m : Nat → World → Prop} {r : Nat → World → World → Prop} {os : List Oper} {i0 : Nat} (h : AllFree P ops a0 I p m r os i0) {i : Nat} {o : Oper} (ho : os[i]? = some o) : FreeOb P ops a0 I p m r o (i0 + i) := by
  induction os generalizing i0 i with
  | nil => simp at ho
  | cons o1 os ih =>
    cases i with
    | zero => simp at ho; subst ho; exact h.1
    | succ i =>
      have := ih h.2 (i := i) (by simpa using ho)
      rw [show i0 + 1 + i = i0 + (i + 1) by omega] at this
      exact this
def anyK (n : Nat) : List RK := List.replicate n (.val fun _ _ => True)
theorem rk_any (n i : Nat) : rk (anyK n) i = .val fun _ _ => True := by
  unfold rk anyK
  rw [List.getD_eq_getElem?_getD, List.getElem?_replicate]
  split <;> rfl
theorem wp_transfer0 {o : Oper} {a a1 : Act} {W : World} (he : execOp a1.eval o = execOp a.eval o) (hd : o.dst = none) {k : World → Prop}
    (h : Oper.wp P o a1 W (fun a' W' => a'.defers = a1.defers ∧ k W') (fun _ _ _ => False)) {K : Act → World → Prop} {Q : Exit → Act → World → Prop}
    (hk : ∀ W', k W' → K a W') : Oper.wp P o a W K Q := by
  have hput : ∀ (b : Act) v, b.put none v = b := fun b v => rfl
  unfold Oper.wp at *
  rw [he] at h
  generalize (execOp a.eval o).run P W = r at *
  cases r with
  | ok n w' =>
    cases n <;> simp only [Oper.upon, hd, hput] at h ⊢
    case value v => exact hk w' h.2
    case skip => exact hk w' h.2
    case defer d' =>
      exfalso
      have h1 := h.1
      simp at h1
    case enter f args =>
      refine Calls.mono h fun e w'' h' => ?_
      cases e with
      | returned v => exact hk w'' h'.2
      | panicked c => exact h'.elim
      | outgrown => obtain ⟨_, _, h⟩ := h'; exact h.elim
    case row row args => exact Rows.mono h fun v w'' h' => hk w'' h'.2
  | halt x w' =>
    cases x <;> simp only [Oper.upon] at h ⊢
theorem free_step {w : World} {Q : Exit → Act → World → Prop} (I : World → Prop) (p : Nat → Value → World → Prop) (m : Nat → World → Prop) (r : Nat → World → World → Prop)
    (hb : backB ops = true) (hd : dstB ops a0.tmps.size = true) (hl : looksB ops = true)
    (hpp : ∀ i j v W W', i ≠ j → predB ops j i = false → I W → r i W W' → p j v W → p j v W') (hmm : ∀ i j W W', i ≠ j → predB ops i j = false → I W → r i W W' → m j W → m j W') (hII : ∀ i W W', r i W W' → I W → I W')
    (hob : AllFree P ops a0 I p m r ops.toList 0) {L : Nat → Bool} {ts : Nat → Value} {a : Act} {W : World} (h : Lin ops (anyK ops.size) w.heap.size w a0 L ts a w) (hI : I W) (hp : ∀ i, i < ops.size → L i = true → p i (ts i) W) (hmem : ∀ i, L i = false → m i W)
    {i : Nat} {o : Oper} (ho : ops[i]? = some o) (hLi : L i = false) (hpre : ∀ e ∈ o.after, Region.binds .any e = true → L e.on = true) :
    Oper.wp P o a W (fun a' W' => ∃ ts, Lin ops (anyK ops.size) w.heap.size w a0 (fun j => j == i || L j) ts a' w ∧ I W' ∧ (∀ k, k < ops.size → (k == i || L k) = true → p k (ts k) W') ∧ (∀ k, (k == i || L k) = false → m k W')) Q := by
  have hlen : (anyK ops.size).length = ops.size := by simp [anyK]
  have hi := lt_of_op ho
  have hobi := hob.at (i := i) (o := o) (by simpa using ho)
  rw [Nat.zero_add] at hobi
  have hpk : ∀ j, predB ops i j = true → p j (ts j) W := fun j hj => by
    obtain ⟨e, he, hbd, rfl⟩ := predB_spec ho hj
    exact hp _ (by have := backB_spec hb ho e he hbd; omega) (hpre e he hbd)
  have hbehind : ∀ v W', p i v W' → r i W W' → ∃ ts, Lin ops (anyK ops.size) w.heap.size w a0 (fun j => j == i || L j) ts (a.put o.dst v) w ∧ I W' ∧ (∀ k, k < ops.size → (k == i || L k) = true → p k (ts k) W') ∧ (∀ k, (k == i || L k) = false → m k W') := fun v W' hpv hrW => by
    obtain ⟨f1, f2, f3, f4⟩ := h.put_frame hd ho v
    refine ⟨fun j => if j = i then v else ts j, ⟨h.below, f1, f2, f3, f4, fun j hj _ => ?_, fun j k T z T' z' _ _ hk => (by rw [rk_any] at hk; cases hk), fun j o' hj hL e he hbd => ?_, fun j hL => ?_⟩, hII i W W' hrW hI, fun j hj hL => ?_, fun j hL => ?_⟩
    · unfold Held
      rw [rk_any]
      trivial
    · by_cases hji : j = i
      · subst hji
        rw [ho] at hj
        cases hj
        simp [hpre e he hbd]
      · simp [h.shut j o' hj (by simpa [hji] using hL) e he hbd]
    · rw [hlen]
      by_cases hji : j = i
      · rw [hji]; exact hi
      · have := h.dom j (by simpa [hji] using hL)
        rwa [hlen] at this
    · by_cases hji : j = i
      · subst hji
        simpa using hpv
      · simp only [if_neg hji]
        have hLj : L j = true := by simpa [hji] using hL
        have hoj : ops[j]? = some ops[j] := Array.getElem?_eq_getElem hj
        have hpr : predB ops j i = false := by
          cases hq : predB ops j i with
          | false => rfl
          | true =>
            obtain ⟨e, he, hbd, rfl⟩ := predB_spec hoj hq
            rw [h.shut j _ hoj hLj e he hbd] at hLi
            cases hLi
        exact hpp i j _ W W' (Ne.symm hji) hpr hI hrW (hp j hj hLj)
    · have hji : j ≠ i := fun e => by simp [e] at hL
      have hLj : L j = false := by simpa [hji] using hL
      have hpr : predB ops i j = false := by
        cases hq : predB ops i j with
        | false => rfl
        | true =>
          obtain ⟨e, he, hbd, rfl⟩ := predB_spec ho hq
          rw [hpre e he hbd] at hLj
          cases hLj
      exact hmm i j W W' (Ne.symm hji) hpr hI hrW (hmem j hLj)
  cases hod : o.dst with
  | some d =>
    have hsz : d < (fillT ts ops.toList 0 a0.tmps).size := by rw [fillT_size]; exact dstB_lt hd ho hod
    refine wp_transfer (k := fun v W' => p i v W' ∧ r i W W') (execOp_lin hd hl h ho hpre) hod hsz (hobi ts W hI (hmem i hLi) hpk _ fun v W' hpv hrW => ?_).out ?_
    · rw [hod]
      simp only [Act.put]
      refine ⟨trivial, ?_⟩
      have e : (Array.setIfInBounds (fillT ts ops.toList 0 a0.tmps) d v).getD d undef = v := by
        simp [Array.getD_eq_getD_getElem?, Array.getElem?_setIfInBounds, hsz]
      rw [e]
      exact ⟨hpv, hrW⟩
    · rintro v W' ⟨hpv, hrW⟩
      exact hbehind v W' hpv hrW
  | none =>
    refine wp_transfer0 (k := fun W' => ∃ v, p i v W' ∧ r i W W') (execOp_lin hd hl h ho hpre) hod (hobi ts W hI (hmem i hLi) hpk _ fun v W' hpv hrW => ?_).out ?_
    · rw [hod]
      exact ⟨rfl, v, hpv, hrW⟩
    · rintro W' ⟨v, hpv, hrW⟩
      have := hbehind v W' hpv hrW
      rw [hod] at this
      exact this
theorem region_free {id : Nat} {dr : Bool} {w : World} {Q : Exit → Act → World → Prop} (I : World → Prop) (p : Nat → Value → World → Prop) (m : Nat → World → Prop) (r : Nat → World → World → Prop)
    (hm : P.follows .mixedOrders = true) (hb : backB ops = true) (hd : dstB ops a0.tmps.size = true) (hl : looksB ops = true) (hg : (ops.toList.all fun o => o.guard.isNone) = true)
    (hs : ∀ W, W = w ∨ W = w.drew → I W ∧ ∀ i, m i W)
    (hpp : ∀ i j v W W', i ≠ j → predB ops j i = false → I W → r i W W' → p j v W → p j v W') (hmm : ∀ i j W W', i ≠ j → predB ops i j = false → I W → r i W W' → m j W → m j W') (hII : ∀ i W W', r i W W' → I W → I W')
    (hob : AllFree P ops a0 I p m r ops.toList 0)
    (fin : ∀ (ts : Nat → Value) (W : World), I W → (∀ i, i < ops.size → p i (ts i) W) → Q .normal ⟨fillT ts ops.toList 0 a0.tmps, a0.defers⟩ W) :
    (Code.region id ops dr).wp P Q a0 w := by
  have hlen : (anyK ops.size).length = ops.size := by simp [anyK]
  refine wp_region_lin' (fun L a W => ∃ ts, Lin ops (anyK ops.size) w.heap.size w a0 L ts a w ∧ I W ∧ (∀ i, i < ops.size → L i = true → p i (ts i) W) ∧ (∀ i, L i = false → m i W)) hm hb ?_ ?_ fun w' hw' => ?_
  · rintro L a W ⟨ts, h, hI, hp, hmem⟩ i o ho hLi hpre
    have hi := lt_of_op ho
    have hog : o.guard = none := by simpa using List.all_eq_true.1 hg o (Array.mem_toList_iff.2 (Array.mem_of_getElem? ho))
    have hwant : Region.wanted o (yielded ops a.tmps) = true := by unfold Region.wanted; rw [hog]
    unfold wpOp
    rw [ho]
    simp only [hwant, if_true]
    exact .inl (free_step I p m r hb hd hl hpp hmm hII hob h hI hp hmem ho hLi hpre)
  · rintro L a W ⟨ts, h, hI, hp, -⟩ hall
    obtain ⟨ha, -, -⟩ := lin_fin hd h (by omega) (fun j hj => hall j (by omega)) (fun i o ho hi => by have := lt_of_op ho; omega)
    rw [ha]
    exact fin ts W hI fun i hi => hp i hi (hall i hi)
  · obtain ⟨hI, hmw⟩ := hs w' hw'
    obtain ⟨ts, h⟩ := lin_start (ops := ops) (kl := anyK ops.size) (a0 := a0) (w := w) (.inl rfl)
    exact ⟨ts, h, hI, (fun i _ hL => absurd hL (by simp)), fun i _ => hmw i⟩
end
section
variable {P : Program} {ops : Array Oper} {a0 : Act}
def FreeObL (P : Program) (ops : Array Oper) (fl : (Nat → Value) → Array Value) (df : List Deferred) (I : World → Prop) (p : Nat → Value → World → Prop) (m : Nat → World → Prop) (r : Nat → World → World → Prop) (o : Oper) (i : Nat) : Prop :=
  ∀ (ts : Nat → Value) (W : World), I W → m i W → (∀ j, predB ops i j = true → p j (ts j) W) → ∀ K : Act → World → Prop, (∀ v W', p i v W' → r i W W' → K (Act.put ⟨fl ts, df⟩ o.dst v) W') →
    Goes (Oper.wp P o ⟨fl ts, df⟩ W K (fun _ _ _ => False))
def AllFreeL (P : Program) (ops : Array Oper) (fl : (Nat → Value) → Array Value) (df : List Deferred) (I : World → Prop) (p : Nat → Value → World → Prop) (m : Nat → World → Prop) (r : Nat → World → World → Prop) : List Oper → Nat → Prop
  | [], _ => True
  | o :: os, i => FreeObL P ops fl df I p m r o i ∧ AllFreeL P ops fl df I p m r os (i + 1)
theorem AllFreeL.all {I : World → Prop} {p : Nat → Value → World → Prop} {m : Nat → World → Prop} {r : Nat → World → World → Prop} : ∀ (os : List Oper) (i : Nat), AllFreeL P ops (fun ts => fillT ts ops.toList 0 a0.tmps) a0.defers I p m r os i → AllFree P ops a0 I p m r os i
  | [], _, _ => trivial
  | _ :: os, i, h => ⟨h.1, AllFreeL.all os (i + 1) h.2⟩
theorem region_freeL {id : Nat} {dr : Bool} {w : World} {Q : Exit → Act → World → Prop} (I : World → Prop) (p : Nat → Value → World → Prop) (m : Nat → World → Prop) (r : Nat → World → World → Prop) (fl : (Nat → Value) → Array Value) (hfl : ∀ ts, fillT ts ops.toList 0 a0.tmps = fl ts)
    (hm : P.follows .mixedOrders = true) (hb : backB ops = true) (hd : dstB ops a0.tmps.size = true) (hl : looksB ops = true) (hg : (ops.toList.all fun o => o.guard.isNone) = true)
    (hs : ∀ W, W = w ∨ W = w.drew → I W ∧ ∀ i, m i W)
    (hpp : ∀ i j v W W', i ≠ j → predB ops j i = false → I W → r i W W' → p j v W → p j v W') (hmm : ∀ i j W W', i ≠ j → predB ops i j = false → I W → r i W W' → m j W → m j W') (hII : ∀ i W W', r i W W' → I W → I W')
    (hob : AllFreeL P ops fl a0.defers I p m r ops.toList 0)
    (fin : ∀ (ts : Nat → Value) (W : World), I W → (∀ i, i < ops.size → p i (ts i) W) → Q .normal ⟨fl ts, a0.defers⟩ W) :
    (Code.region id ops dr).wp P Q a0 w := by
  obtain rfl : fl = fun ts => fillT ts ops.toList 0 a0.tmps := funext fun ts => (hfl ts).symm
  exact region_free I p m r hm hb hd hl hg hs hpp hmm hII (AllFreeL.all _ _ hob) fin
end
theorem NumAt.blk {W : World} {v : Value} {lo : Nat} {x : Cx} (h : NumAt W v lo x) : ∃ g, v = .pointer (some ⟨g, 0, none⟩) ∧ lo ≤ g ∧ NBlk W g 1 (fun _ => x) := by
  obtain ⟨g, A, n, c, p, A', n', c', p', A'', n'', c'', h1, h2, h3, h4, h5⟩ := h
  exact ⟨g, h1, h2, _, h4, rfl, by simp [Value.oneCell'], fun j hj => by
    obtain rfl : j = 0 := by omega
    exact ⟨_, _, _, _, _, _, _, _, _, _, _, rfl, rfl, rfl, rfl, rfl, h5⟩⟩
theorem upf_one (f : Nat → Cx) (z : Cx) : ∀ j, j < 1 → upf f 0 z j = z := fun j hj => by
  obtain rfl : j = 0 := by omega
  exact upf_same _ _ _
theorem QBlk.to {W : World} {g n : Nat} {V V' : Nat → Prop} {f f' : Nat → Cx} (h : QBlk W g n V f) (hV : ∀ j, j < n → V' j → V j ∧ f j = f' j) : QBlk W g n V' f' := by
  obtain ⟨cs, h1, h2, h3, h4⟩ := h
  refine ⟨cs, h1, h2, h3, fun j hj => ?_⟩
  obtain ⟨A, B, C, p, q, na, ca, nb, cb, nc, cc, a1, a2, a3, a4, a5, a6⟩ := h4 j hj
  exact ⟨A, B, C, p, q, na, ca, nb, cb, nc, cc, a1, a2, a3, a4, a5, fun hv => by
    obtain ⟨v1, v2⟩ := hV j hj hv
    rw [← v2]; exact a6 v1⟩
end Go.Proofs.YtccldiokpgjocaaGreatDoor
