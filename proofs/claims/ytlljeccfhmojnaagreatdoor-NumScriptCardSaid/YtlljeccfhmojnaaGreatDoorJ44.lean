import Derived.Test.YtlljeccfhmojnaaGreatDoorJ40
set_option linter.unusedSimpArgs false
set_option linter.unusedVariables false
namespace Go.Proofs.YtlljeccfhmojnaaGreatDoor
open Go.RowKit
set_option maxRecDepth 100000
def runB : List Oper → Nat → Bool
  | [], _ => true
  | o :: os, d => (match o.dst with | some e => e == d | none => false) && runB os (d + 1)
def tsl (ts : Nat → Value) : Nat → Nat → List Value
  | _, 0 => []
  | i, n + 1 => ts i :: tsl ts (i + 1) n
theorem fillT_run (ts : Nat → Value) : ∀ (os : List Oper) (i d n e : Nat) (l : List Value), runB os d = true → os.length = n → d + n = e → e ≤ l.length → fillT ts os i l.toArray = (l.take d ++ (tsl ts i n ++ l.drop e)).toArray
  | [], i, d, n, e, l, _, hn, he, hl => by
    simp at hn
    subst hn
    simp at he
    subst he
    simp [fillT, tsl]
  | o :: os, i, d, n, e, l, hr, hn, he, hl => by
    unfold runB at hr
    simp only [Bool.and_eq_true] at hr
    obtain ⟨h1, h2⟩ := hr
    cases hd : o.dst with
    | none => rw [hd] at h1; cases h1
    | some d' =>
      rw [hd] at h1
      have h1' : d' = d := by simpa using h1
      rw [h1'] at hd
      clear h1 h1' d'
      obtain ⟨m, rfl⟩ : ∃ m, n = m + 1 := ⟨os.length, by simpa using hn.symm⟩
      have hlt : d < l.length := by omega
      have hm' : os.length = m := by simpa using hn
      have he' : d + 1 + m = e := by omega
      have ih := fillT_run ts os (i + 1) (d + 1) m e (l.set d (ts i)) h2 hm' he' (by simpa using hl)
      have e1 : (l.set d (ts i)).take (d + 1) = l.take d ++ [ts i] := by
        rw [List.take_add_one, List.take_set_of_le (Nat.le_refl _)]
        simp [hlt]
      have e2 : (l.set d (ts i)).drop e = l.drop e := by
        rw [List.drop_set_of_lt (by omega)]
      have e3 : fillT ts (o :: os) i l.toArray = fillT ts os (i + 1) (l.set d (ts i)).toArray := by
        show fillT ts os (i + 1) (match o.dst with | some d => l.toArray.setIfInBounds d (ts i) | none => l.toArray) = _
        rw [hd]
        simp
      rw [e3, ih, e1, e2]
      simp [tsl]
section
variable {P : Program} {ops : Array Oper} {a0 : Act}
def ObL (P : Program) (ops : Array Oper) (kl : List RK) (B : Nat) (w0 : World) (fl : (Nat → Value) → Array Value) (df : List Deferred) (o : Oper) (i : Nat) (p : Value → World → Prop) : Prop :=
  ∀ (ts : Nat → Value) (W : World), Below B w0 W → B ≤ W.heap.size → (∀ j, predB ops i j = true → match rk kl j with | .val q => q (ts j) W | _ => True) →
    Guarded o.guard ts (p undef W) (∀ K : Act → World → Prop, (∀ v W', p v W' → Below W.heap.size W W' → K (Act.put ⟨fl ts, df⟩ o.dst v) W') →
      Goes (Oper.wp P o ⟨fl ts, df⟩ W K (fun _ _ _ => False)))
def AllObL (P : Program) (ops : Array Oper) (kl : List RK) (B : Nat) (w0 : World) (fl : (Nat → Value) → Array Value) (df : List Deferred) : List Oper → List RK → Nat → Prop
  | o :: os, .val p :: r, i => ObL P ops kl B w0 fl df o i p ∧ AllObL P ops kl B w0 fl df os r (i + 1)
  | _ :: os, .box T z :: r, i => AllocOk P T z ∧ AllObL P ops kl B w0 fl df os r (i + 1)
  | _ :: os, .put b c :: r, i => (match rk kl b, rk kl c with | .box T z, .val p => StoreOk P T z p | _, _ => True) ∧ AllObL P ops kl B w0 fl df os r (i + 1)
  | [], _, _ => True
  | _ :: _, [], _ => False
theorem AllObL.all {kl : List RK} {B : Nat} {w0 : World} : ∀ (os : List Oper) (r : List RK) (i : Nat), AllObL P ops kl B w0 (fun ts => fillT ts ops.toList 0 a0.tmps) a0.defers os r i → AllOb P ops kl B w0 a0 os r i
  | _ :: os, .val _ :: r, i, h => ⟨h.1, AllObL.all os r (i + 1) h.2⟩
  | _ :: os, .box _ _ :: r, i, h => ⟨h.1, AllObL.all os r (i + 1) h.2⟩
  | _ :: os, .put _ _ :: r, i, h => ⟨h.1, AllObL.all os r (i + 1) h.2⟩
  | [], _, _, _ => trivial
  | _ :: _, [], _, h => h
theorem region_lit {id : Nat} {dr : Bool} {w : World} {Q : Exit → Act → World → Prop} (kl : List RK) (fl : (Nat → Value) → Array Value) (hfl : ∀ ts, fillT ts ops.toList 0 a0.tmps = fl ts) (hm : P.follows .mixedOrders = true) (hb : backB ops = true) (hd : dstB ops a0.tmps.size = true) (hl : looksB ops = true) (hkd : kindB ops kl = true)
    (hst : stabs (hasPut kl) kl) (hlen : kl.length = ops.size) (hob : AllObL P ops kl w.heap.size w fl a0.defers (ops.toList.take kl.length) kl 0)
    (fin : ∀ (ts : Nat → Value) (W : World), Below w.heap.size w W → (∀ i, i < kl.length → Held kl w.heap.size ts (fun _ => true) W i) →
      (∀ i j, i < kl.length → j < kl.length → i ≠ j → (match rk kl i, rk kl j with | .box _ _, .box _ _ => ts i ≠ ts j | _, _ => True)) → Q .normal ⟨fl ts, a0.defers⟩ W) :
    (Code.region id ops dr).wp P Q a0 w := by
  obtain rfl : fl = fun ts => fillT ts ops.toList 0 a0.tmps := funext fun ts => (hfl ts).symm
  exact region_lin kl hm hb hd hl hkd hst hlen (AllObL.all _ _ _ hob) fin
def FreeObL (P : Program) (ops : Array Oper) (fl : (Nat → Value) → Array Value) (df : List Deferred) (I : World → Prop) (p : Nat → Value → World → Prop) (m : Nat → World → Prop) (r : Nat → World → World → Prop) (o : Oper) (i : Nat) : Prop :=
  ∀ (ts : Nat → Value) (W : World), I W → m i W → (∀ j, predB ops i j = true → p j (ts j) W) → ∀ K : Act → World → Prop, (∀ v W', p i v W' → r i W W' → K (Act.put ⟨fl ts, df⟩ o.dst v) W') →
    Goes (Oper.wp P o ⟨fl ts, df⟩ W K (fun _ _ _ => False))
def AllFreeL (P : Program) (ops : Array Oper) (fl : (Nat → Value) → Array Value) (df : List Deferred) (I : World → Prop) (p : Nat → Value → World → Prop) (m : Nat → World → Prop) (r : Nat → World → World → Prop) : List Oper → Nat → Prop
  | [], _ => True
  | o :: os, i => FreeObL P ops fl df I p m r o i ∧ AllFreeL P ops fl df I p m r os (i + 1)
theorem AllFreeL.all {I : World → Prop} {p : Nat → Value → World → Prop} {m : Nat → World → Prop} {r : Nat → World → World → Prop} : ∀ (os : List Oper) (i : Nat), AllFreeL P ops (fun ts => fillT ts ops.toList 0 a0.tmps) a0.defers I p m r os i → AllFree P ops a0 I p m r os i
  | [], _, _ => trivial
  | _ :: os, i, h => ⟨h.1, AllFreeL.all os (i + 1) h.2⟩
theorem region_freeL {id : Nat} {dr : Bool} {w : World} {Q : Exit → Act → World → Prop} (I : World → Prop) (p : Nat → Value → World → Prop) (m : Nat → World → Prop) (r : Nat → World → World → Prop) (fl : (Nat → Value) → Array Value) (hfl : ∀ ts, fillT ts ops.toList 0 a0.tmps = fl ts)
    (hm : P.follows .mixedOrders = true) (hb : backB ops = true) (hd : dstB ops a0.tmps.size = true) (hl : looksB ops = true) (hg : (ops.toList.all fun o => o.guard.isNone) = true)
    (hs : ∀ W, W = w ∨ W = w.drew → I W ∧ ∀ i, m i W)
    (hpp : ∀ i j v W W', i ≠ j → predB ops j i = false → I W → r i W W' → p j v W → p j v W') (hmm : ∀ i j W W', i ≠ j → predB ops i j = false → I W → r i W W' → m j W → m j W') (hII : ∀ i W W', r i W W' → I W → I W')
    (hob : AllFreeL P ops fl a0.defers I p m r ops.toList 0)
    (fin : ∀ (ts : Nat → Value) (W : World), I W → (∀ i, i < ops.size → p i (ts i) W) → Q .normal ⟨fl ts, a0.defers⟩ W) :
    (Code.region id ops dr).wp P Q a0 w := by
  obtain rfl : fl = fun ts => fillT ts ops.toList 0 a0.tmps := funext fun ts => (hfl ts).symm
  exact region_free I p m r hm hb hd hl hg hs hpp hmm hII (AllFreeL.all _ _ hob) fin
theorem region_free10L {id : Nat} {dr : Bool} {w : World} {Q : Exit → Act → World → Prop} {q0 q1 q2 q3 q4 q5 q6 q7 o1 o2 : Oper} (I : World → Prop) (p : Nat → Value → World → Prop) (m : Nat → World → Prop) (r : Nat → World → World → Prop) (fl : (Nat → Value) → Array Value) (hfl : ∀ ts, fillT ts [q0, q1, q2, q3, q4, q5, q6, q7] 0 a0.tmps = fl ts)
    (hm : P.follows .mixedOrders = true) (hba : backB #[q0, q1, q2, q3, q4, q5, q6, q7, o1, o2] = true) (hb : backB #[q0, q1, q2, q3, q4, q5, q6, q7] = true) (hd : dstB #[q0, q1, q2, q3, q4, q5, q6, q7] a0.tmps.size = true) (hl : looksB #[q0, q1, q2, q3, q4, q5, q6, q7] = true) (hg : ([q0, q1, q2, q3, q4, q5, q6, q7, o1, o2].all fun o => o.guard.isNone) = true)
    (hp1 : ((List.range 8).all fun j => (mark #[q0, q1, q2, q3, q4, q5, q6, q7, o1, o2] (List.range 8).reverse (predsOf #[q0, q1, q2, q3, q4, q5, q6, q7, o1, o2] 8)).contains j) = true) (hp2 : predB #[q0, q1, q2, q3, q4, q5, q6, q7, o1, o2] 9 8 = true)
    (hs : ∀ W, W = w ∨ W = w.drew → I W ∧ ∀ i, m i W)
    (hpp : ∀ i j v W W', i ≠ j → predB #[q0, q1, q2, q3, q4, q5, q6, q7] j i = false → I W → r i W W' → p j v W → p j v W') (hmm : ∀ i j W W', i ≠ j → predB #[q0, q1, q2, q3, q4, q5, q6, q7] i j = false → I W → r i W W' → m j W → m j W') (hII : ∀ i W W', r i W W' → I W → I W')
    (hob : AllFreeL P #[q0, q1, q2, q3, q4, q5, q6, q7] fl a0.defers I p m r [q0, q1, q2, q3, q4, q5, q6, q7] 0)
    (fin : ∀ (ts : Nat → Value) (W : World), I W → (∀ i, i < 8 → p i (ts i) W) → ∀ K : Act → World → Prop, (∀ a' W', Q .normal a' W' → K a' W') →
      Goes (Oper.wp P o1 ⟨fl ts, a0.defers⟩ W (fun a' W' => Oper.wp P o2 a' W' K Q) Q)) :
    (Code.region id #[q0, q1, q2, q3, q4, q5, q6, q7, o1, o2] dr).wp P Q a0 w := by
  obtain rfl : fl = fun ts => fillT ts [q0, q1, q2, q3, q4, q5, q6, q7] 0 a0.tmps := funext fun ts => (hfl ts).symm
  exact region_free10 I p m r hm hba hb hd hl hg hp1 hp2 hs hpp hmm hII (AllFreeL.all (ops := #[q0, q1, q2, q3, q4, q5, q6, q7]) _ _ hob) fin
end
end Go.Proofs.YtlljeccfhmojnaaGreatDoor
