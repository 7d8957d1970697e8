import Derived.Test.YtlljeccfhmojnaaGreatDoorJ44
set_option linter.unusedSimpArgs false
set_option linter.unusedVariables false
namespace Go.Proofs.YtlljeccfhmojnaaGreatDoor
open Go.RowKit
set_option maxRecDepth 100000
section
variable {P : Program} {ops : Array Oper} {a0 : Act}
def slot (ops : Array Oper) (a0 : Act) (ts : Nat → Value) (t : Nat) : Value :=
  match (List.range ops.size).find? (fun k => ((ops[k]?).bind (·.dst)) == some t) with
  | some k => ts k
  | none => a0.tmps.getD t undef
theorem fill_slot (hd : dstB ops a0.tmps.size = true) (ts : Nat → Value) (t : Nat) : (fillT ts ops.toList 0 a0.tmps).getD t undef = slot ops a0 ts t := by
  unfold slot
  cases hf : (List.range ops.size).find? (fun k => ((ops[k]?).bind (·.dst)) == some t) with
  | some k =>
    have h := List.find?_some hf
    simp only [beq_iff_eq] at h
    cases ho : ops[k]? with
    | none => rw [ho] at h; cases h
    | some o =>
      rw [ho] at h
      have h2 : o.dst = some t := h
      simp only
      rw [fillT_at ts t ops.toList 0 k o a0.tmps (by simpa using ho) h2 (dstB_lt hd ho h2) (fun j o' hj hd' => dstB_one hd (by simpa using hj) ho hd' h2), Nat.zero_add]
  | none =>
    simp only
    refine fillT_other _ _ _ _ _ fun o ho => ?_
    obtain ⟨j, hj⟩ := List.getElem?_of_mem ho
    have hj' : ops[j]? = some o := by simpa using hj
    have := List.find?_eq_none.1 hf j (List.mem_range.2 (lt_of_op hj'))
    simp only [hj', Option.bind_some, beq_iff_eq] at this
    exact this
def ObA (P : Program) (ops : Array Oper) (kl : List RK) (B : Nat) (w0 : World) (a0 : Act) (o : Oper) (i : Nat) (p : Value → World → Prop) : Prop :=
  ∀ (ts : Nat → Value) (W : World) (a : Act), (∀ t, a.eval (.tmp t) = slot ops a0 ts t) → Below B w0 W → B ≤ W.heap.size → (∀ j, predB ops i j = true → match rk kl j with | .val q => q (ts j) W | _ => True) →
    Guarded o.guard ts (p undef W) (∀ K : Act → World → Prop, (∀ v W', p v W' → Below W.heap.size W W' → K (a.put o.dst v) W') → Goes (Oper.wp P o a W K (fun _ _ _ => False)))
def AllObA (P : Program) (ops : Array Oper) (kl : List RK) (B : Nat) (w0 : World) (a0 : Act) : List Oper → List RK → Nat → Prop
  | o :: os, .val p :: r, i => ObA P ops kl B w0 a0 o i p ∧ AllObA P ops kl B w0 a0 os r (i + 1)
  | _ :: os, .box T z :: r, i => AllocOk P T z ∧ AllObA P ops kl B w0 a0 os r (i + 1)
  | _ :: os, .put b c :: r, i => (match rk kl b, rk kl c with | .box T z, .val p => StoreOk P T z p | _, _ => True) ∧ AllObA P ops kl B w0 a0 os r (i + 1)
  | [], _, _ => True
  | _ :: _, [], _ => False
theorem AllObA.all (hd : dstB ops a0.tmps.size = true) {kl : List RK} {B : Nat} {w0 : World} : ∀ (os : List Oper) (r : List RK) (i : Nat), AllObA P ops kl B w0 a0 os r i → AllOb P ops kl B w0 a0 os r i
  | _ :: os, .val _ :: r, i, h => ⟨fun ts W hb hB hp => h.1 ts W ⟨fillT ts ops.toList 0 a0.tmps, a0.defers⟩ (fun t => fill_slot hd ts t) hb hB hp, AllObA.all hd os r (i + 1) h.2⟩
  | _ :: os, .box _ _ :: r, i, h => ⟨h.1, AllObA.all hd os r (i + 1) h.2⟩
  | _ :: os, .put _ _ :: r, i, h => ⟨h.1, AllObA.all hd os r (i + 1) h.2⟩
  | [], _, _, _ => trivial
  | _ :: _, [], _, h => h
theorem wp_false {o : Oper} {a : Act} {w : World} {K K' : Act → World → Prop} {Q : Exit → Act → World → Prop} (hK : ∀ a w, K a w → K' a w) (h : Oper.wp P o a w K (fun _ _ _ => False)) : Oper.wp P o a w K' Q := by
  unfold Oper.wp at *
  generalize (execOp a.eval o).run P w = r at *
  cases r with
  | ok n w' =>
    cases n <;> simp only [Oper.upon] at h ⊢
    case value v => exact hK _ _ h
    case skip => exact hK _ _ h
    case defer d' => exact hK _ _ h
    case enter f args =>
      refine Calls.mono h fun e w'' h' => ?_
      cases e with
      | returned v => exact hK _ _ h'
      | panicked c => exact h'.elim
      | outgrown => obtain ⟨_, _, h⟩ := h'; exact h.elim
    case row row args => exact Rows.mono h fun v w'' h' => hK _ _ h'
  | halt x w' =>
    cases x <;> simp only [Oper.upon] at h ⊢
theorem region_litA {id : Nat} {dr : Bool} {w : World} {Q : Exit → Act → World → Prop} (kl : List RK) (fl : (Nat → Value) → Array Value) (hfl : ∀ ts, fillT ts ops.toList 0 a0.tmps = fl ts) (hm : P.follows .mixedOrders = true) (hb : backB ops = true) (hd : dstB ops a0.tmps.size = true) (hl : looksB ops = true) (hkd : kindB ops kl = true)
    (hst : stabs (hasPut kl) kl) (hlen : kl.length = ops.size) (hob : AllObA P ops kl w.heap.size w a0 (ops.toList.take kl.length) kl 0)
    (fin : ∀ (ts : Nat → Value) (W : World), Below w.heap.size w W → (∀ i, i < kl.length → Held kl w.heap.size ts (fun _ => true) W i) →
      (∀ i j, i < kl.length → j < kl.length → i ≠ j → (match rk kl i, rk kl j with | .box _ _, .box _ _ => ts i ≠ ts j | _, _ => True)) → Q .normal ⟨fl ts, a0.defers⟩ W) :
    (Code.region id ops dr).wp P Q a0 w := by
  obtain rfl : fl = fun ts => fillT ts ops.toList 0 a0.tmps := funext fun ts => (hfl ts).symm
  exact region_lin kl hm hb hd hl hkd hst hlen (AllObA.all hd _ _ _ hob) fin
theorem region_last2A {id : Nat} {dr : Bool} {w : World} {Q : Exit → Act → World → Prop} (kl : List RK) (fl : (Nat → Value) → Array Value) (hfl : ∀ ts, fillT ts ops.toList 0 a0.tmps = fl ts) (hm : P.follows .mixedOrders = true) (hb : backB ops = true) (hd : dstB ops a0.tmps.size = true) (hl : looksB ops = true) (hkd : kindB ops kl = true)
    (hst : stabs (hasPut kl) kl) (hlen : kl.length + 2 = ops.size) {o1 o2 : Oper} (ho1 : ops.toList[kl.length]? = some o1) (ho2 : ops.toList[kl.length + 1]? = some o2)
    (hp1 : (o1.dst.isNone && o1.guard.isNone && (List.range kl.length).all (fun j => (mark ops (List.range kl.length).reverse (predsOf ops kl.length)).contains j)) = true) (hp2 : (o2.dst.isNone && o2.guard.isNone && (List.range kl.length).all (fun j => (mark ops (List.range kl.length).reverse (predsOf ops (kl.length + 1))).contains j)) = true)
    (hob : AllObA P ops kl w.heap.size w a0 (ops.toList.take kl.length) kl 0)
    (fin : ∀ (ts : Nat → Value) (W : World) (a : Act), (∀ t, a.eval (.tmp t) = slot ops a0 ts t) → Below w.heap.size w W → (∀ i, i < kl.length → Held kl w.heap.size ts (fun _ => true) W i) →
      ∀ K : Act → World → Prop, (∀ W', Q .normal ⟨fl ts, a0.defers⟩ W' → K a W') →
        Goes (Oper.wp P o1 a W (fun a' W' => Oper.wp P o2 a' W' K (fun _ _ _ => False)) (fun _ _ _ => False)) ∧ Goes (Oper.wp P o2 a W (fun a' W' => Oper.wp P o1 a' W' K (fun _ _ _ => False)) (fun _ _ _ => False))) :
    (Code.region id ops dr).wp P Q a0 w := by
  obtain rfl : fl = fun ts => fillT ts ops.toList 0 a0.tmps := funext fun ts => (hfl ts).symm
  refine region_last2 kl hm hb hd hl hkd hst hlen ho1 ho2 hp1 hp2 (AllObA.all hd _ _ _ hob) fun ts W hbW hh _ K hK => ?_
  obtain ⟨h1, h2⟩ := fin ts W ⟨fillT ts ops.toList 0 a0.tmps, a0.defers⟩ (fun t => fill_slot hd ts t) hbW hh K fun W' hq => hK _ _ hq
  exact ⟨⟨wp_false (fun a' w' h => wp_false (fun _ _ h => h) h) h1.out⟩, ⟨wp_false (fun a' w' h => wp_false (fun _ _ h => h) h) h2.out⟩⟩
theorem wp_callf {o : Oper} {a : Act} {w : World} {K : Act → World → Prop} {Q : Exit → Act → World → Prop} {f : FuncId} {args : Array Operand} {tys : Array TypeId} (ho : o.op = .call ⟨.value (.func f), args, tys⟩)
    {xs : Array Value} (has : args.map a.eval = xs) (hf : ∀ w, (invoke (.fn (.func f) #[]) xs).run P w = .ok (.enter f xs) w) (h : Calls P f xs w fun e w' => ∃ v, e = .returned v ∧ K (a.put o.dst v) w') : o.wp P a w K Q := by
  unfold Oper.wp execOp
  have e : a.eval (.func f) = .func (.func f) #[] #[] := rfl
  simp only [ho, resolve, e, Deferred.ofValue, has, Sem.run_bind, Sem.run_pure, Result.andThen_ok, Array.empty_append, hf]
  refine Calls.mono h fun e w' h' => ?_
  obtain ⟨v, rfl, h'⟩ := h'
  exact h'
theorem wp_not {o : Oper} {a : Act} {w : World} {K : Act → World → Prop} {Q : Exit → Act → World → Prop} {T : TypeId} {x : Operand} (ho : o.op = .unOp .not T x) {b : Bool} (hx : a.eval x = .bool b) (hK : K (a.put o.dst (.bool (!b))) w) : o.wp P a w K Q := by
  unfold Oper.wp execOp
  simp only [ho, hx, Op.unary, Sem.run_bind, Sem.run_pure, Result.andThen_ok]
  exact hK
theorem wp_pick {o : Oper} {a : Act} {w : World} {K : Act → World → Prop} {Q : Exit → Act → World → Prop} {c x y : Operand} (ho : o.op = .pick c x y) {b : Bool} (hc : a.eval c = .bool b) {v : Value} (hv : (if b then a.eval x else a.eval y) = v) (hK : K (a.put o.dst v) w) : o.wp P a w K Q := by
  unfold Oper.wp execOp
  simp only [ho, hc, asBool, Sem.run_bind, Sem.run_pure, Result.andThen_ok, hv]
  exact hK
theorem wp_bin {o : Oper} {a : Act} {w : World} {K : Act → World → Prop} {Q : Exit → Act → World → Prop} {op : BinOp} {T T' : TypeId} {x y : Operand} (ho : o.op = .binOp op T x y T') {u v r : Value} (hx : a.eval x = u) (hy : a.eval y = v)
    (hr : (do eqGuard op T x y u v; binOp op T u v : Sem Value).run P w = .ok r w) (hK : K (a.put o.dst r) w) : o.wp P a w K Q := by
  unfold Oper.wp execOp
  simp only [ho, hx, hy]
  rw [Sem.run_bind, hr]
  simp only [Sem.run_pure, Result.andThen_ok]
  exact hK
end
end Go.Proofs.YtlljeccfhmojnaaGreatDoor
