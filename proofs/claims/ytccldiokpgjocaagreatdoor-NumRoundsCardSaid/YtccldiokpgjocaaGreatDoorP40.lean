import Derived.Test.YtccldiokpgjocaaGreatDoorP13
set_option linter.unusedSimpArgs false
set_option linter.unusedVariables false
namespace Go.Proofs.YtccldiokpgjocaaGreatDoor
open Go.RowKit
set_option maxRecDepth 100000
def predsOf (ops : Array Oper) (i : Nat) : List Nat := ((ops[i]?).map fun o => (o.after.toList.filter (Region.binds .any ·)).map (·.on)).getD []
def mark (ops : Array Oper) : List Nat → List Nat → List Nat
  | [], acc => acc
  | k :: ks, acc => mark ops ks (if acc.contains k then acc ++ predsOf ops k else acc)
theorem predsOf_mem {ops : Array Oper} {i j : Nat} {o : Oper} (ho : ops[i]? = some o) (h : j ∈ predsOf ops i) : ∃ e ∈ o.after, Region.binds .any e = true ∧ e.on = j := by
  unfold predsOf at h
  rw [ho] at h
  simp only [Option.map_some, Option.getD_some, List.mem_map, List.mem_filter] at h
  obtain ⟨e, ⟨h1, h2⟩, h3⟩ := h
  exact ⟨e, by simpa using h1, h2, h3⟩
theorem mark_done {ops : Array Oper} {L : Nat → Bool} (hsh : ∀ (i : Nat) (o : Oper), ops[i]? = some o → L i = true → ∀ e ∈ o.after, Region.binds .any e = true → L e.on = true) : ∀ (ks acc : List Nat), (∀ j ∈ acc, L j = true) → ∀ j ∈ mark ops ks acc, L j = true
  | [], _, h, j, hj => h j hj
  | k :: ks, acc, h, j, hj => by
    unfold mark at hj
    refine mark_done hsh ks _ (fun j' hj' => ?_) j hj
    split at hj'
    · next hk =>
      rcases List.mem_append.1 hj' with hj' | hj'
      · exact h j' hj'
      · cases hq : ops[k]? with
        | none => unfold predsOf at hj'; rw [hq] at hj'; cases hj'
        | some o =>
          obtain ⟨e, he, hbd, rfl⟩ := predsOf_mem hq hj'
          exact hsh k o hq (h k (by simpa using hk)) e he hbd
    · exact h j' hj'
theorem region_last2 {P : Program} {ops : Array Oper} {a0 : Act} {id : Nat} {dr : Bool} {w : World} {Q : Exit → Act → World → Prop} (kl : List RK) (hm : P.follows .mixedOrders = true) (hb : backB ops = true) (hd : dstB ops a0.tmps.size = true) (hl : looksB ops = true) (hkd : kindB ops kl = true)
    (hst : stabs (hasPut kl) kl) (hlen : kl.length + 2 = ops.size) {o1 o2 : Oper} (ho1 : ops.toList[kl.length]? = some o1) (ho2 : ops.toList[kl.length + 1]? = some o2)
    (hp1 : (o1.dst.isNone && o1.guard.isNone && (List.range kl.length).all (fun j => (mark ops (List.range kl.length).reverse (predsOf ops kl.length)).contains j)) = true) (hp2 : (o2.dst.isNone && o2.guard.isNone && (List.range kl.length).all (fun j => (mark ops (List.range kl.length).reverse (predsOf ops (kl.length + 1))).contains j)) = true)
    (hob : AllOb P ops kl w.heap.size w a0 (ops.toList.take kl.length) kl 0)
    (fin : ∀ (ts : Nat → Value) (W : World), Below w.heap.size w W → (∀ i, i < kl.length → Held kl w.heap.size ts (fun _ => true) W i) →
      (∀ i j, i < kl.length → j < kl.length → i ≠ j → (match rk kl i, rk kl j with | .box _ _, .box _ _ => ts i ≠ ts j | _, _ => True)) →
      ∀ K : Act → World → Prop, (∀ a' W', Q .normal a' W' → K a' W') →
        Goes (Oper.wp P o1 ⟨fillT ts ops.toList 0 a0.tmps, a0.defers⟩ W (fun a' W' => Oper.wp P o2 a' W' K Q) Q) ∧ Goes (Oper.wp P o2 ⟨fillT ts ops.toList 0 a0.tmps, a0.defers⟩ W (fun a' W' => Oper.wp P o1 a' W' K Q) Q)) :
    (Code.region id ops dr).wp P Q a0 w := by
  replace ho1 : ops[kl.length]? = some o1 := by simpa using ho1
  replace ho2 : ops[kl.length + 1]? = some o2 := by simpa using ho2
  simp only [Bool.and_eq_true] at hp1 hp2
  obtain ⟨⟨h1d, h1g⟩, h1p⟩ := hp1
  obtain ⟨⟨h2d, h2g⟩, h2p⟩ := hp2
  have h1d' : o1.dst = none := by simpa using h1d
  have h1g' : o1.guard = none := by simpa using h1g
  have h2d' : o2.dst = none := by simpa using h2d
  have h2g' : o2.guard = none := by simpa using h2g
  refine wp_region_lin' (fun L a W => (L kl.length = false ∧ L (kl.length + 1) = false ∧ ∃ ts, Lin ops kl w.heap.size w a0 L ts a W) ∨ (L kl.length = true ∧ L (kl.length + 1) = false ∧ (∀ j, j < kl.length → L j = true) ∧ Oper.wp P o2 a W (Q .normal) Q) ∨
    (L kl.length = false ∧ L (kl.length + 1) = true ∧ (∀ j, j < kl.length → L j = true) ∧ Oper.wp P o1 a W (Q .normal) Q) ∨ ((∀ j, j < ops.size → L j = true) ∧ Q .normal a W)) hm hb ?_ ?_ fun w' hw' => .inl ⟨rfl, rfl, lin_start hw'⟩
  · rintro L a W hJ i o ho hLi hpre
    have hi := lt_of_op ho
    rcases hJ with ⟨hn1, hn2, ts, h⟩ | ⟨hn1, hn2, hall, hq⟩ | ⟨hn1, hn2, hall, hq⟩ | ⟨hall, -⟩
    · have hfinish : (∀ j, j < kl.length → L j = true) → _ := fun hall => lin_fin hd h (by omega) hall (fun i o ho hi => by
        have := lt_of_op ho
        have : i = kl.length ∨ i = kl.length + 1 := by omega
        rcases this with rfl | rfl
        · rw [ho1] at ho; cases ho; exact h1d'
        · rw [ho2] at ho; cases ho; exact h2d')
      by_cases hi1 : i = kl.length
      · subst hi1
        rw [ho1] at ho
        cases ho
        have hall : ∀ j, j < kl.length → L j = true := fun j hj =>
          mark_done (fun i o hoi hLi => h.shut i o hoi hLi) (List.range kl.length).reverse (predsOf ops kl.length) (fun j' hj' => by
            obtain ⟨e, he, hbd, rfl⟩ := predsOf_mem ho1 hj'
            exact hpre e he hbd) j (by simpa using List.all_eq_true.1 h1p j (List.mem_range.2 hj))
        obtain ⟨ha, x1, x2⟩ := hfinish hall
        have hwant : Region.wanted o1 (yielded ops a.tmps) = true := by unfold Region.wanted; rw [h1g']
        have hfin := (fin ts W h.below x1 x2 (Q .normal) (fun _ _ h => h)).1.out
        unfold wpOp
        rw [ho1]
        simp only [hwant, if_true]
        rw [ha]
        refine .inl (Oper.wp_mono (fun a' w' hq => .inr (.inl ⟨by simp, by simp [hn2], fun j hj => by simp [hall j hj], hq⟩)) hfin)
      · by_cases hi2 : i = kl.length + 1
        · subst hi2
          rw [ho2] at ho
          cases ho
          have hall : ∀ j, j < kl.length → L j = true := fun j hj =>
          mark_done (fun i o hoi hLi => h.shut i o hoi hLi) (List.range kl.length).reverse (predsOf ops (kl.length + 1)) (fun j' hj' => by
            obtain ⟨e, he, hbd, rfl⟩ := predsOf_mem ho2 hj'
            exact hpre e he hbd) j (by simpa using List.all_eq_true.1 h2p j (List.mem_range.2 hj))
          obtain ⟨ha, x1, x2⟩ := hfinish hall
          have hwant : Region.wanted o2 (yielded ops a.tmps) = true := by unfold Region.wanted; rw [h2g']
          have hfin := (fin ts W h.below x1 x2 (Q .normal) (fun _ _ h => h)).2.out
          unfold wpOp
          rw [ho2]
          simp only [hwant, if_true]
          rw [ha]
          refine .inl (Oper.wp_mono (fun a' w' hq => .inr (.inr (.inl ⟨by simp [hn1], by simp, fun j hj => by simp [hall j hj], hq⟩))) hfin)
        · have hi' : i < kl.length := by omega
          refine wpOp_mono (fun a' w' hh => .inl ⟨?_, ?_, hh⟩) (lin_step hb hd hl hkd hst hob h hi' ho hLi hpre)
          · have : (kl.length == i) = false := by simpa using fun e => hi1 (Eq.symm e)
            simp [this, hn1]
          · have : (kl.length + 1 == i) = false := by simpa using fun e => hi2 (Eq.symm e)
            simp [this, hn2]
    · have : i = kl.length + 1 := by
        rcases Nat.lt_trichotomy i kl.length with h | h | h
        · rw [hall i h] at hLi; cases hLi
        · rw [h, hn1] at hLi; cases hLi
        · omega
      subst this
      rw [ho2] at ho
      cases ho
      have hwant : Region.wanted o2 (yielded ops a.tmps) = true := by unfold Region.wanted; rw [h2g']
      unfold wpOp
      rw [ho2]
      simp only [hwant, if_true]
      refine .inl (Oper.wp_mono (fun a' w' hq => .inr (.inr (.inr ⟨fun j hj => ?_, hq⟩))) hq)
      rcases Nat.lt_trichotomy j kl.length with h | h | h
      · simp [hall j h]
      · simp [h, hn1]
      · have : j = kl.length + 1 := by omega
        simp [this]
    · have : i = kl.length := by
        rcases Nat.lt_trichotomy i kl.length with h | h | h
        · rw [hall i h] at hLi; cases hLi
        · exact h
        · have : i = kl.length + 1 := by omega
          rw [this, hn2] at hLi; cases hLi
      subst this
      rw [ho1] at ho
      cases ho
      have hwant : Region.wanted o1 (yielded ops a.tmps) = true := by unfold Region.wanted; rw [h1g']
      unfold wpOp
      rw [ho1]
      simp only [hwant, if_true]
      refine .inl (Oper.wp_mono (fun a' w' hq => .inr (.inr (.inr ⟨fun j hj => ?_, hq⟩))) hq)
      rcases Nat.lt_trichotomy j kl.length with h | h | h
      · simp [hall j h]
      · simp [h]
      · have : j = kl.length + 1 := by omega
        simp [this, hn2]
    · rw [hall i hi] at hLi; cases hLi
  · rintro L a W (⟨hn, -⟩ | ⟨-, hn, -⟩ | ⟨hn, -⟩ | ⟨-, hq⟩) hall
    · rw [hall _ (by omega)] at hn; cases hn
    · rw [hall _ (by omega)] at hn; cases hn
    · rw [hall _ (by omega)] at hn; cases hn
    · exact hq
end Go.Proofs.YtccldiokpgjocaaGreatDoor
set_option linter.unusedSimpArgs false
set_option linter.unusedVariables false
namespace Go.Proofs.YtccldiokpgjocaaGreatDoor
open Go.RowKit
section
variable {P : Program} {ops : Array Oper} {kl : List RK} {a0 : Act}
theorem region_tail {id : Nat} {dr : Bool} {w : World} {Q : Exit → Act → World → Prop} {all : Array Oper} (n : Nat) (kl : List RK)
    (hm : P.follows .mixedOrders = true) (hba : backB all = true) (hops : ops = (all.toList.take n).toArray) (hn : all.size = n + 1) (hlen : kl.length = n) (hb : backB ops = true) (hd : dstB ops a0.tmps.size = true) (hl : looksB ops = true) (hkd : kindB ops kl = true)
    (hst : stabs (hasPut kl) kl) (hg : (all.toList.all fun o => o.guard.isNone) = true)
    {ol : Oper} (hol : all.toList[n]? = some ol) (hlp : ((List.range n).all fun j => (mark all (List.range n).reverse (predsOf all n)).contains j) = true)
    (hob : AllOb P ops kl w.heap.size w a0 (ops.toList.take kl.length) kl 0)
    (fin : ∀ (ts : Nat → Value) (W : World), Below w.heap.size w W → (∀ i, i < kl.length → Held kl w.heap.size ts (fun _ => true) W i) →
      (∀ i j, i < kl.length → j < kl.length → i ≠ j → (match rk kl i, rk kl j with | .box _ _, .box _ _ => ts i ≠ ts j | _, _ => True)) →
      ∀ K : Act → World → Prop, (∀ a' W', Q .normal a' W' → K a' W') → Goes (Oper.wp P ol ⟨fillT ts ops.toList 0 a0.tmps, a0.defers⟩ W K Q)) :
    (Code.region id all dr).wp P Q a0 w := by
  have hsz : ops.size = n := by rw [hops]; simp; omega
  have hat : ∀ i, i < n → ops[i]? = all[i]? := fun i hi => by
    rw [hops]
    simp only [List.getElem?_toArray]
    rw [List.getElem?_take_of_lt hi]
    simp
  replace hol : all[n]? = some ol := by simpa using hol
  have hgo : ∀ (i : Nat) (o : Oper), all[i]? = some o → o.guard = none := fun i o ho => by simpa using List.all_eq_true.1 hg o (Array.mem_toList_iff.2 (Array.mem_of_getElem? ho))
  refine wp_region_lin' (fun L a W => (L n = false ∧ ∃ ts, Lin ops kl w.heap.size w a0 L ts a W) ∨ ((∀ j, j < all.size → L j = true) ∧ Q .normal a W)) hm hba ?_ ?_ fun w' hw' => .inl ⟨rfl, lin_start hw'⟩
  · rintro L a W (⟨hn1, ts, h⟩ | ⟨hall, -⟩) i o ho hLi hpre
    · have hi := lt_of_op ho
      have hwant : Region.wanted o (yielded all a.tmps) = true := by unfold Region.wanted; rw [hgo i o ho]
      by_cases hi1 : i < n
      · have hs := lin_step (Q := Q) hb hd hl hkd hst hob h (by omega) ((hat i hi1).trans ho) hLi hpre
        have hwant2 : Region.wanted o (yielded ops a.tmps) = true := by unfold Region.wanted; rw [hgo i o ho]
        unfold wpOp at hs ⊢
        rw [(hat i hi1).trans ho] at hs
        rw [ho]
        simp only [hwant, hwant2, if_true] at hs ⊢
        rcases hs with hs | hs
        · refine .inl (Oper.wp_mono (fun a' w' hq => .inl ⟨?_, hq⟩) hs)
          have : (n == i) = false := by simp; omega
          simp [this, hn1]
        · exact .inr hs
      · have : i = n := by omega
        subst this
        rw [hol] at ho
        cases ho
        have hall : ∀ j, j < i → L j = true := fun j hj =>
          mark_done (fun k o' hk hLk e he hbd => by
            have hkn : k < i := by have := h.dom k hLk; omega
            exact h.shut k o' ((hat k hkn).trans hk) hLk e he hbd) (List.range i).reverse (predsOf all i) (fun j' hj' => by
            obtain ⟨e, he, hbd, rfl⟩ := predsOf_mem hol hj'
            exact hpre e he hbd) j (by simpa using List.all_eq_true.1 hlp j (List.mem_range.2 hj))
        obtain ⟨ha, h1, h2⟩ := lin_fin hd h (by omega) (fun j hj => hall j (by omega)) (fun k o' hk hkl => by have h1 := lt_of_op hk; exfalso; omega)
        unfold wpOp
        rw [hol]
        simp only [hwant, if_true]
        rw [ha]
        refine .inl (Oper.wp_mono (fun a' w' hq => .inr ⟨fun j hj => ?_, hq⟩) (fin ts W h.below h1 h2 (Q .normal) fun _ _ h => h).out)
        by_cases hjk : j = i
        · simp [hjk]
        · simp [hall j (by omega)]
    · rw [hall i (lt_of_op ho)] at hLi; cases hLi
  · rintro L a W (⟨hn1, -⟩ | ⟨-, hq⟩) hall
    · rw [hall _ (by omega)] at hn1; cases hn1
    · exact hq
theorem region_tail10 {id : Nat} {dr : Bool} {w : World} {Q : Exit → Act → World → Prop} {q0 q1 q2 q3 q4 q5 q6 q7 q8 q9 ol : Oper} (kl : List RK)
    (hm : P.follows .mixedOrders = true) (hba : backB #[q0, q1, q2, q3, q4, q5, q6, q7, q8, q9, ol] = true) (hlen : kl.length = 10) (hb : backB #[q0, q1, q2, q3, q4, q5, q6, q7, q8, q9] = true) (hd : dstB #[q0, q1, q2, q3, q4, q5, q6, q7, q8, q9] a0.tmps.size = true) (hl : looksB #[q0, q1, q2, q3, q4, q5, q6, q7, q8, q9] = true) (hkd : kindB #[q0, q1, q2, q3, q4, q5, q6, q7, q8, q9] kl = true)
    (hst : stabs (hasPut kl) kl) (hg : ([q0, q1, q2, q3, q4, q5, q6, q7, q8, q9, ol].all fun o => o.guard.isNone) = true)
    (hlp : ((List.range 10).all fun j => (mark #[q0, q1, q2, q3, q4, q5, q6, q7, q8, q9, ol] (List.range 10).reverse (predsOf #[q0, q1, q2, q3, q4, q5, q6, q7, q8, q9, ol] 10)).contains j) = true)
    (hob : AllOb P #[q0, q1, q2, q3, q4, q5, q6, q7, q8, q9] kl w.heap.size w a0 [q0, q1, q2, q3, q4, q5, q6, q7, q8, q9] kl 0)
    (fin : ∀ (ts : Nat → Value) (W : World), Below w.heap.size w W → (∀ i, i < kl.length → Held kl w.heap.size ts (fun _ => true) W i) →
      (∀ i j, i < kl.length → j < kl.length → i ≠ j → (match rk kl i, rk kl j with | .box _ _, .box _ _ => ts i ≠ ts j | _, _ => True)) →
      ∀ K : Act → World → Prop, (∀ a' W', Q .normal a' W' → K a' W') → Goes (Oper.wp P ol ⟨fillT ts [q0, q1, q2, q3, q4, q5, q6, q7, q8, q9] 0 a0.tmps, a0.defers⟩ W K Q)) :
    (Code.region id #[q0, q1, q2, q3, q4, q5, q6, q7, q8, q9, ol] dr).wp P Q a0 w :=
  region_tail (ops := #[q0, q1, q2, q3, q4, q5, q6, q7, q8, q9]) 10 kl hm hba rfl rfl hlen hb hd hl hkd hst hg rfl hlp (by rw [hlen]; exact hob) fin
end
end Go.Proofs.YtccldiokpgjocaaGreatDoor
