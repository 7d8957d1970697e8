import Derived.Deep.DeepCutAuto
import Derived.Test.YtphlmmjlpbledaaGreatDoorK13
import Derived.Test.YtphlmmjlpbledaaGreatDoorK14
import Derived.Test.YtphlmmjlpbledaaGreatDoorK36
import Derived.Test.YtphlmmjlpbledaaGreatDoorK38
import Derived.Test.YtphlmmjlpbledaaGreatDoorK42
set_option linter.unusedSimpArgs false
set_option linter.unusedVariables false
namespace Go.Proofs.YtphlmmjlpbledaaGreatDoor
open Go.RowKit
set_option maxRecDepth 100000
theorem digs_take {l : List UInt8} {k : Nat} (hk : k ≤ l.length) (h1 : ∀ c ∈ l.take k, dgt c = true) (h2 : ∀ c ∈ (l.drop k).head?, dgt c = false) : digs l = l.take k := by
  have := (digs_app h1 h2).1
  rwa [List.take_append_drop] at this
theorem take_digit {l : List UInt8} {k : Nat} (h : k < l.length) (h1 : ∀ c ∈ l.take k, dgt c = true) (h2 : dgt l[k] = true) : ∀ c ∈ l.take (k + 1), dgt c = true := by
  intro c hc
  rw [List.take_succ_eq_append_getElem h] at hc
  rcases List.mem_append.1 hc with h3 | h3
  · exact h1 c h3
  · rw [List.mem_singleton.1 h3]; exact h2
set_option maxHeartbeats 1000000 in
theorem rdigits_any (l : List UInt8) (w : World) (hs : l.length ≤ 1000000) :
    Calls Tryz.prog 120 #[.string (sl l)] w fun e w' => e = .returned (.int .i64 ((digs l).length : Int)) ∧ w = w' := by
  have hsz := sl_size l
  go_enter Tryz.func120, Tryz.ntmps120
  go_wp2
  go_loop [3] (fun v => ∃ k : Nat, k ≤ l.length ∧ v = .int .i64 (k : Int) ∧ ∀ c ∈ l.take k, dgt c = true) (fun v => l.length - (intOf v).toNat)
  case atStart => exact ⟨0, by omega, rfl, by simp⟩
  case round =>
    obtain ⟨k, hk, rfl, hd⟩ := hrel
    have HD := hid hd
    clear hd
    by_cases hlt : k < l.length
    · have hk' : k < (sl l).size := by rw [sl_size]; exact hlt
      have hc : (sl l)[k]'hk' = l[k] := rfl
      by_cases hdg : dgt l[k] = true
      · have H1 := hid (take_digit hlt HD.out hdg)
        have h1 : (48 : Int) ≤ (((sl l)[k]'hk').toNat : Int) := by rw [hc]; unfold dgt at hdg; simp at hdg; omega
        have h2 : (((sl l)[k]'hk').toNat : Int) ≤ 57 := by rw [hc]; unfold dgt at hdg; simp at hdg; omega
        clear hdg hc
        go_wp2
        go_round
        case rel => exact ⟨k + 1, by omega, by go_num, H1.out⟩
        case measure => simp [intOf]; omega
      · have H1 := hid (digs_take hk HD.out (by rw [List.drop_eq_getElem_cons hlt, List.head?_cons]; intro c hc; obtain rfl := Option.some.inj hc; exact (Bool.not_eq_true _).mp hdg))
        have H2 := hid (show ((digs l).length : Int) = (k : Int) by rw [H1.out, List.length_take]; omega)
        by_cases h1 : 48 ≤ ((sl l)[k]'hk').toNat
        · have h3 : (48 : Int) ≤ (((sl l)[k]'hk').toNat : Int) := by omega
          have h4 : ¬ (((sl l)[k]'hk').toNat : Int) ≤ 57 := fun h => hdg (by rw [← hc]; unfold dgt; simp; omega)
          clear hdg hc
          go_wp2
          go_ret
          exact ⟨by rw [H2.out]; rfl, rfl⟩
        · have h4 : ¬ (48 : Int) ≤ (((sl l)[k]'hk').toNat : Int) := by omega
          clear hdg hc
          go_wp2
          go_ret
          exact ⟨by rw [H2.out]; rfl, rfl⟩
    · obtain rfl : k = l.length := by omega
      have H1 := hid (digs_take hk HD.out (by simp))
      have H2 := hid (show ((digs l).length : Int) = (l.length : Int) by rw [H1.out, List.length_take]; omega)
      go_wp2
      go_ret
      exact ⟨by rw [H2.out]; rfl, rfl⟩
theorem rwhole_any (l : List UInt8) (w : World) (hs : l.length ≤ 1000000) :
    Calls Tryz.prog 118 #[.string (sl l)] w fun e w' => e = .returned (.int .i64 (rW l : Int)) ∧ w = w' := by
  have hsz := sl_size l
  have HD := hid (rdigits_any l w hs)
  have hdl := congrArg List.length (digs_past l)
  rw [List.length_append] at hdl
  by_cases h1 : 1 < (digs l).length
  · obtain ⟨c, t, e⟩ : ∃ c t, l = c :: t := by
      cases l with
      | nil => simp [digs] at h1
      | cons c t => exact ⟨c, t, rfl⟩
    have hk' : 0 < (sl l).size := by rw [sl_size, e]; simp
    have hc : (sl l)[0]'hk' = c := by subst e; rfl
    have hg : (1 : Int) < ((digs l).length : Int) := by omega
    by_cases h2 : c = 48
    · have H1 := hid (show rW l = 1 by simp [rW, h1, e, isHd, h2]; intro h; rw [e, h2] at h1; omega)
      have hq : (((sl l)[0]'hk').toNat : Int) == 48 := by rw [hc, h2]; rfl
      clear hdl h1 h2 hc e
      go_enter Tryz.func118, Tryz.ntmps118
      go_wp2_with fail
      refine HD.out.mono ?_
      rintro e w' ⟨rfl, rfl⟩
      go_wp2
      go_ret
      exact ⟨by rw [H1.out]; rfl, rfl⟩
    · have H1 := hid (show rW l = (digs l).length by simp [rW, e, isHd, h2])
      have hq : ((((sl l)[0]'hk').toNat : Int) == 48) = false := by
        rw [hc]; simp
        intro e2
        exact h2 (UInt8.toNat_inj.1 (by simpa using (show c.toNat = 48 by omega)))
      clear hdl h1 h2 hc e
      go_enter Tryz.func118, Tryz.ntmps118
      go_wp2_with fail
      refine HD.out.mono ?_
      rintro e w' ⟨rfl, rfl⟩
      go_wp2
      go_ret
      exact ⟨by rw [H1.out]; rfl, rfl⟩
  · have H1 := hid (show rW l = (digs l).length by simp [rW, h1])
    have hg : ¬ (1 : Int) < ((digs l).length : Int) := by omega
    clear hdl h1
    go_enter Tryz.func118, Tryz.ntmps118
    go_wp2_with fail
    refine HD.out.mono ?_
    rintro e w' ⟨rfl, rfl⟩
    go_wp2
    go_ret
    exact ⟨by rw [H1.out]; rfl, rfl⟩
theorem wl_10 : wl 10 = 1 := by rw [wl_pos (by omega), show 10 / 4294967296 = 0 from rfl, wl_zero]
theorem tenNat (w : World) : IsNat (w.alloc (.cells #[.int .u32 10] 56)) (.slice (some ⟨w.heap.size, 0, none⟩) 1 1) 10 := by
  refine ⟨some ⟨w.heap.size, 0, none⟩, 1, by rw [wl_10], by rw [wl_10]; exact Nat.le_refl _, ?_⟩
  rw [wl_10]
  refine fun _ => ⟨_, _, rfl, by simp, fun j hj => ?_⟩
  obtain rfl : j = 0 := by omega
  simp [dg]
theorem rpower_any (n : Nat) (w : World) (h : n ≤ 1000000) : Calls Tryz.prog 121 #[.int .i64 (n : Int)] w (RetNat w (10 ^ n)) := by
  go_enter Tryz.func121, Tryz.ntmps121
  go_wp2
  go_loopw [3, 4] (fun pv iv wr => ∃ k : Nat, k ≤ n ∧ iv = .int .i64 (k : Int) ∧ IsNat wr pv (10 ^ k) ∧ Below w.heap.size w wr) (fun _ iv _ => n - (intOf iv).toNat)
  case atStart => exact ⟨0, by omega, rfl, oneNat w, below_alloc _ _⟩
  case round =>
    obtain ⟨k, hk, rfl, hp, hb⟩ := hrel
    have HP := hid hp
    have HB := hid hb
    clear hp hb
    by_cases hlt : k < n
    · go_wp2_with fail
      refine (rNatMul_any _ _ (10 ^ k) 10 _ (HP.out.below (below_alloc _ _)) (tenNat _) (by have := wl_ten1 k; omega) (by rw [wl_10]; omega)).mono ?_
      rintro e w2 ⟨v, rfl, hv, hb2⟩
      have HV := hid hv
      have HB2 := hid (below_trans HB.out (below_trans (below_alloc _ _) hb2))
      clear hv hb2
      go_wp2
      go_roundw
      case rel => exact ⟨k + 1, by omega, by go_num, HV.out, HB2.out⟩
      case measure => simp [intOf]; omega
    · obtain rfl : k = n := by omega
      go_wp2
      go_ret
      exact ⟨_, rfl, HP.out, HB.out⟩
def predsOf (ops : Array Oper) (i : Nat) : List Nat := ((ops[i]?).map fun o => (o.after.toList.filter (Region.binds .any ·)).map (·.on)).getD []
def mark (ops : Array Oper) : List Nat → List Nat → List Nat
  | [], acc => acc
  | k :: ks, acc => mark ops ks (if acc.contains k then acc ++ predsOf ops k else acc)
theorem predsOf_mem {ops : Array Oper} {i j : Nat} {o : Oper} (ho : ops[i]? = some o) (h : j ∈ predsOf ops i) : ∃ e ∈ o.after, Region.binds .any e = true ∧ e.on = j := by
  unfold predsOf at h
  rw [ho] at h
  simp only [Option.map_some, Option.getD_some, List.mem_map, List.mem_filter] at h
  obtain ⟨e, ⟨h1, h2⟩, h3⟩ := h
  exact ⟨e, by simpa using h1, h2, h3⟩
theorem mark_done {ops : Array Oper} {L : Nat → Bool} (hsh : ∀ (i : Nat) (o : Oper), ops[i]? = some o → L i = true → ∀ e ∈ o.after, Region.binds .any e = true → L e.on = true) : ∀ (ks acc : List Nat), (∀ j ∈ acc, L j = true) → ∀ j ∈ mark ops ks acc, L j = true
  | [], _, h, j, hj => h j hj
  | k :: ks, acc, h, j, hj => by
    unfold mark at hj
    refine mark_done hsh ks _ (fun j' hj' => ?_) j hj
    split at hj'
    · next hk =>
      rcases List.mem_append.1 hj' with hj' | hj'
      · exact h j' hj'
      · cases hq : ops[k]? with
        | none => unfold predsOf at hj'; rw [hq] at hj'; cases hj'
        | some o =>
          obtain ⟨e, he, hbd, rfl⟩ := predsOf_mem hq hj'
          exact hsh k o hq (h k (by simpa using hk)) e he hbd
    · exact h j' hj'
end Go.Proofs.YtphlmmjlpbledaaGreatDoor
set_option linter.unusedSimpArgs false
set_option linter.unusedVariables false
namespace Go.Proofs.YtphlmmjlpbledaaGreatDoor
open Go.RowKit
section
variable {P : Program} {ops : Array Oper} {kl : List RK} {a0 : Act}
theorem region_tail {id : Nat} {dr : Bool} {w : World} {Q : Exit → Act → World → Prop} {all : Array Oper} (n : Nat) (kl : List RK)
    (hm : P.follows .mixedOrders = true) (hba : backB all = true) (hops : ops = (all.toList.take n).toArray) (hn : all.size = n + 1) (hlen : kl.length = n) (hb : backB ops = true) (hd : dstB ops a0.tmps.size = true) (hl : looksB ops = true) (hkd : kindB ops kl = true)
    (hst : stabs (hasPut kl) kl) (hg : (all.toList.all fun o => o.guard.isNone) = true)
    {ol : Oper} (hol : all.toList[n]? = some ol) (hlp : ((List.range n).all fun j => (mark all (List.range n).reverse (predsOf all n)).contains j) = true)
    (hob : AllOb P ops kl w.heap.size w a0 (ops.toList.take kl.length) kl 0)
    (fin : ∀ (ts : Nat → Value) (W : World), Below w.heap.size w W → (∀ i, i < kl.length → Held kl w.heap.size ts (fun _ => true) W i) →
      (∀ i j, i < kl.length → j < kl.length → i ≠ j → (match rk kl i, rk kl j with | .box _ _, .box _ _ => ts i ≠ ts j | _, _ => True)) →
      ∀ K : Act → World → Prop, (∀ a' W', Q .normal a' W' → K a' W') → Goes (Oper.wp P ol ⟨fillT ts ops.toList 0 a0.tmps, a0.defers⟩ W K Q)) :
    (Code.region id all dr).wp P Q a0 w := by
  have hsz : ops.size = n := by rw [hops]; simp; omega
  have hat : ∀ i, i < n → ops[i]? = all[i]? := fun i hi => by
    rw [hops]
    simp only [List.getElem?_toArray]
    rw [List.getElem?_take_of_lt hi]
    simp
  replace hol : all[n]? = some ol := by simpa using hol
  have hgo : ∀ (i : Nat) (o : Oper), all[i]? = some o → o.guard = none := fun i o ho => by simpa using List.all_eq_true.1 hg o (Array.mem_toList_iff.2 (Array.mem_of_getElem? ho))
  refine wp_region_lin' (fun L a W => (L n = false ∧ ∃ ts, Lin ops kl w.heap.size w a0 L ts a W) ∨ ((∀ j, j < all.size → L j = true) ∧ Q .normal a W)) hm hba ?_ ?_ fun w' hw' => .inl ⟨rfl, lin_start hw'⟩
  · rintro L a W (⟨hn1, ts, h⟩ | ⟨hall, -⟩) i o ho hLi hpre
    · have hi := lt_of_op ho
      have hwant : Region.wanted o (yielded all a.tmps) = true := by unfold Region.wanted; rw [hgo i o ho]
      by_cases hi1 : i < n
      · have hs := lin_step (Q := Q) hb hd hl hkd hst hob h (by omega) ((hat i hi1).trans ho) hLi hpre
        have hwant2 : Region.wanted o (yielded ops a.tmps) = true := by unfold Region.wanted; rw [hgo i o ho]
        unfold wpOp at hs ⊢
        rw [(hat i hi1).trans ho] at hs
        rw [ho]
        simp only [hwant, hwant2, if_true] at hs ⊢
        rcases hs with hs | hs
        · refine .inl (Oper.wp_mono (fun a' w' hq => .inl ⟨?_, hq⟩) hs)
          have : (n == i) = false := by simp; omega
          simp [this, hn1]
        · exact .inr hs
      · have : i = n := by omega
        subst this
        rw [hol] at ho
        cases ho
        have hall : ∀ j, j < i → L j = true := fun j hj =>
          mark_done (fun k o' hk hLk e he hbd => by
            have hkn : k < i := by have := h.dom k hLk; omega
            exact h.shut k o' ((hat k hkn).trans hk) hLk e he hbd) (List.range i).reverse (predsOf all i) (fun j' hj' => by
            obtain ⟨e, he, hbd, rfl⟩ := predsOf_mem hol hj'
            exact hpre e he hbd) j (by simpa using List.all_eq_true.1 hlp j (List.mem_range.2 hj))
        obtain ⟨ha, h1, h2⟩ := lin_fin hd h (by omega) (fun j hj => hall j (by omega)) (fun k o' hk hkl => by have h1 := lt_of_op hk; exfalso; omega)
        unfold wpOp
        rw [hol]
        simp only [hwant, if_true]
        rw [ha]
        refine .inl (Oper.wp_mono (fun a' w' hq => .inr ⟨fun j hj => ?_, hq⟩) (fin ts W h.below h1 h2 (Q .normal) fun _ _ h => h).out)
        by_cases hjk : j = i
        · simp [hjk]
        · simp [hall j (by omega)]
    · rw [hall i (lt_of_op ho)] at hLi; cases hLi
  · rintro L a W (⟨hn1, -⟩ | ⟨-, hq⟩) hall
    · rw [hall _ (by omega)] at hn1; cases hn1
    · exact hq
theorem region_tail10 {id : Nat} {dr : Bool} {w : World} {Q : Exit → Act → World → Prop} {q0 q1 q2 q3 q4 q5 q6 q7 q8 q9 ol : Oper} (kl : List RK)
    (hm : P.follows .mixedOrders = true) (hba : backB #[q0, q1, q2, q3, q4, q5, q6, q7, q8, q9, ol] = true) (hlen : kl.length = 10) (hb : backB #[q0, q1, q2, q3, q4, q5, q6, q7, q8, q9] = true) (hd : dstB #[q0, q1, q2, q3, q4, q5, q6, q7, q8, q9] a0.tmps.size = true) (hl : looksB #[q0, q1, q2, q3, q4, q5, q6, q7, q8, q9] = true) (hkd : kindB #[q0, q1, q2, q3, q4, q5, q6, q7, q8, q9] kl = true)
    (hst : stabs (hasPut kl) kl) (hg : ([q0, q1, q2, q3, q4, q5, q6, q7, q8, q9, ol].all fun o => o.guard.isNone) = true)
    (hlp : ((List.range 10).all fun j => (mark #[q0, q1, q2, q3, q4, q5, q6, q7, q8, q9, ol] (List.range 10).reverse (predsOf #[q0, q1, q2, q3, q4, q5, q6, q7, q8, q9, ol] 10)).contains j) = true)
    (hob : AllOb P #[q0, q1, q2, q3, q4, q5, q6, q7, q8, q9] kl w.heap.size w a0 [q0, q1, q2, q3, q4, q5, q6, q7, q8, q9] kl 0)
    (fin : ∀ (ts : Nat → Value) (W : World), Below w.heap.size w W → (∀ i, i < kl.length → Held kl w.heap.size ts (fun _ => true) W i) →
      (∀ i j, i < kl.length → j < kl.length → i ≠ j → (match rk kl i, rk kl j with | .box _ _, .box _ _ => ts i ≠ ts j | _, _ => True)) →
      ∀ K : Act → World → Prop, (∀ a' W', Q .normal a' W' → K a' W') → Goes (Oper.wp P ol ⟨fillT ts [q0, q1, q2, q3, q4, q5, q6, q7, q8, q9] 0 a0.tmps, a0.defers⟩ W K Q)) :
    (Code.region id #[q0, q1, q2, q3, q4, q5, q6, q7, q8, q9, ol] dr).wp P Q a0 w :=
  region_tail (ops := #[q0, q1, q2, q3, q4, q5, q6, q7, q8, q9]) 10 kl hm hba rfl rfl hlen hb hd hl hkd hst hg rfl hlp (by rw [hlen]; exact hob) fin
end
end Go.Proofs.YtphlmmjlpbledaaGreatDoor
set_option linter.unusedSimpArgs false
set_option linter.unusedVariables false
namespace Go.Proofs.YtphlmmjlpbledaaGreatDoor
open Go.RowKit
set_option maxRecDepth 100000
theorem ten_run (W : World) : (Instr.buildSlice 23 1 #[(0, .int .u32 10)]).run Tryz.prog W =
    .ok (.slice (some ⟨W.heap.size, 0, none⟩) 1 1) (W.alloc (.cells #[.int .u32 10] 56)) := by kernel_rfl
set_option maxHeartbeats 1000000 in
theorem rread_any (l : List UInt8) (w : World) (hd : ∀ c ∈ l, dgt c = true) (hs : l.length ≤ 1000000) : Calls Tryz.prog 119 #[.string (sl l)] w (RetNat w (dval l)) := by
  have hsz := sl_size l
  have HD := hid hd
  clear hd
  go_enter Tryz.func119, Tryz.ntmps119
  go_wp2
  go_loopw [3, 4] (fun pv iv wr => ∃ k : Nat, k ≤ l.length ∧ iv = .int .i64 (k : Int) ∧ IsNat wr pv (dval (l.take k)) ∧ Below w.heap.size w wr) (fun _ iv _ => l.length - (intOf iv).toNat)
  case atStart => exact ⟨0, by omega, rfl, IsNat.zero _ _ _, Below.refl _ _⟩
  case round =>
    obtain ⟨k, hk, rfl, hv, hb⟩ := hrel
    have HB := hid hb
    clear hb
    by_cases hlt : k < l.length
    · have hk' : k < (sl l).size := by rw [sl_size]; exact hlt
      have hc : (sl l)[k]'hk' = l[k]'hlt := rfl
      have hdg := HD.out (l[k]'hlt) (List.getElem_mem hlt)
      have HST := hid (dval_step hlt)
      have hxl : wl (dval (l.take k)) ≤ k := by
        have := wl_ten (dval_lt (l := l.take k) (fun c hc => HD.out c (List.mem_of_mem_take hc)))
        rw [List.length_take] at this
        omega
      rw [← hc] at HST hdg
      unfold dgt at hdg
      obtain ⟨x, hx⟩ : ∃ x, x = dval (l.take k) := ⟨_, rfl⟩
      rw [← hx] at HST hxl hv
      obtain ⟨d, hd⟩ : ∃ d, d = ((sl l)[k]'hk').toNat := ⟨_, rfl⟩
      rw [← hd] at HST hdg
      have hd1 : 48 ≤ d := by simp at hdg; omega
      have hd2 : d ≤ 57 := by simp at hdg; omega
      have hw := sub48 d hd1 hd2
      have hw2 : IntKind.u64.wrap ((d - 48 : Nat) : Int) = ((d - 48 : Nat) : Int) := by simp [IntKind.wrap, IntKind.bits, IntKind.signed]; omega
      have hq : ((sl l)[k]'hk').toNat = d := hd.symm
      have HX := hid (show wl x < 549755813888 by omega)
      have HX2 := hid (show wl (x * 10) < 1099511627776 by have := wl_mul x 10; rw [wl_10] at this; omega)
      have HX3 := hid (show wl (d - 48) < 1099511627776 by have := wl_le_one (x := d - 48) (by omega); omega)
      obtain ⟨A, n, c, rfl, -⟩ := hv.ex
      have HV := hid hv
      clear hx hd hdg hc hv hxl
      go_upto_region 5 with fail
      refine region_tail10 [.val (kIs (.slice A n c)), .val (kNat (10)), .val (kNat (x * 10)), .val (kIs (.string (sl l))), .val (kIs (.int .i64 (k : Int))), .val (kIs (.int .u8 (d : Int))), .val (kIs (.int .u8 ((d - 48 : Nat) : Int))), .val (kIs (.int .u64 ((d - 48 : Nat) : Int))), .val (kNat (d - 48)), .val (kNat (x * 10 + (d - 48)))]
        (by kernel_rfl) (by kernel_rfl) rfl (by kernel_rfl) (by kernel_rfl) (by kernel_rfl) (by kernel_rfl) ⟨Stab.b (stab_is _), stabB_nat _, stabB_nat _, Stab.b (stab_is _), Stab.b (stab_is _), Stab.b (stab_is _), Stab.b (stab_is _), Stab.b (stab_is _), stabB_nat _, stabB_nat _, trivial⟩ (by kernel_rfl) (by kernel_rfl) ⟨?_, ?_, ?_, ?_, ?_, ?_, ?_, ?_, ?_, ?_, trivial⟩ ?_
      · exact obp
      · intro ts W hb hB hp; intro K hK; simp only [fillT, Nat.zero_add, Nat.reduceAdd, sA, sB, sC] at hK ⊢; have HK := hid hK; clear hK hp; refine ⟨?_⟩; exact wp_buildSlice rfl (by simp [Act.eval]) (ten_run W) (HK.out _ _ (tenNat W) (below_alloc _ _))
      · intro ts W hb hB hp; have h0 : ts 0 = _ := hp 0 (by kernel_rfl); have h1 := hp 1 (by kernel_rfl); intro K hK; simp only [fillT, Nat.zero_add, Nat.reduceAdd, sA, sB, sC, h0] at hK ⊢; have HK := hid hK; clear hK hp; refine ⟨?_⟩; go_simp; refine (rNatMul_any _ _ x 10 W (HV.out.below hb) h1 HX.out (by rw [wl_10]; omega)).mono ?_; rintro e W9 ⟨r9, rfl, hr9, hb9⟩; exact HK.out _ _ hr9 hb9
      · exact obp
      · exact obp
      · intro ts W hb hB hp; have h3 : ts 3 = _ := hp 3 (by kernel_rfl); have h4 : ts 4 = _ := hp 4 (by kernel_rfl); intro K hK; simp only [fillT, Nat.zero_add, Nat.reduceAdd, sA, sB, sC, h3, h4] at hK ⊢; have HK := hid hK; clear hK hp; refine ⟨?_⟩; go_simp; exact HK.out _ _ rfl rfB
      · intro ts W hb hB hp; have h5 : ts 5 = _ := hp 5 (by kernel_rfl); intro K hK; simp only [fillT, Nat.zero_add, Nat.reduceAdd, sA, sB, sC, h5] at hK ⊢; have HK := hid hK; clear hK hp; refine ⟨?_⟩; go_simp; exact HK.out _ _ rfl rfB
      · intro ts W hb hB hp; have h6 : ts 6 = _ := hp 6 (by kernel_rfl); intro K hK; simp only [fillT, Nat.zero_add, Nat.reduceAdd, sA, sB, sC, h6] at hK ⊢; have HK := hid hK; clear hK hp; refine ⟨?_⟩; go_simp; exact HK.out _ _ rfl rfB
      · intro ts W hb hB hp; have h7 : ts 7 = _ := hp 7 (by kernel_rfl); intro K hK; simp only [fillT, Nat.zero_add, Nat.reduceAdd, sA, sB, sC, h7] at hK ⊢; have HK := hid hK; clear hK hp; refine ⟨?_⟩; go_simp; refine (rNatOf_any (d - 48) W (by omega)).mono ?_; rintro e W9 ⟨r9, rfl, hr9, hb9⟩; exact HK.out _ _ hr9 hb9
      · intro ts W hb hB hp; have h2 := hp 2 (by kernel_rfl); have h8 := hp 8 (by kernel_rfl); intro K hK; simp only [fillT, Nat.zero_add, Nat.reduceAdd, sA, sB, sC] at hK ⊢; have HK := hid hK; clear hK hp; refine ⟨?_⟩; go_simp; refine (rNatAdd_any _ _ (x * 10) (d - 48) W h2 h8 HX2.out HX3.out).mono ?_; rintro e W9 ⟨r9, rfl, hr9, hb9⟩; exact HK.out _ _ hr9 hb9
      intro ts W2 hb2 hh hap K hK
      have h9 : IsNat W2 (ts 9) (x * 10 + (d - 48)) := hh 9 (by simp)
      simp only [fillT, Nat.zero_add, Nat.reduceAdd, sA, sB, sC]
      have H9 := hid h9
      have HB2 := hid (below_trans HB.out hb2)
      have HK := hid hK
      clear hh hap h9 hb2 hK
      refine ⟨?_⟩
      go_simp
      refine HK.out _ _ ?_
      clear HK
      generalize ts 0 = u0_2 at *
      generalize ts 1 = u1_2 at *
      generalize ts 2 = u2_2 at *
      generalize ts 3 = u3_2 at *
      generalize ts 4 = u4_2 at *
      generalize ts 5 = u5_2 at *
      generalize ts 6 = u6_2 at *
      generalize ts 7 = u7_2 at *
      generalize ts 8 = u8_2 at *
      generalize ts 9 = u9_2 at *
      clear hw hw2 hq
      go_wp2
      go_roundw
      case rel => exact ⟨k + 1, by omega, by go_num, by rw [HST.out, Nat.mul_comm]; exact H9.out, HB2.out⟩
      case measure => simp [intOf]; omega
    · obtain rfl : k = l.length := by omega
      have HV := hid hv
      clear hv
      go_wp2
      go_ret
      exact ⟨_, rfl, by have := HV.out; rwa [List.take_length] at this, HB.out⟩
end Go.Proofs.YtphlmmjlpbledaaGreatDoor
