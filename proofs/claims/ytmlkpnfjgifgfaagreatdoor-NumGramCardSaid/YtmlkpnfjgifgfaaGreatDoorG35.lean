/- A region whose last store leaves one operation free, whose value nobody wants: it may come behind the store. -/
import Derived.Test.YtmlkpnfjgifgfaaGreatDoorG16
import Derived.Test.YtmlkpnfjgifgfaaGreatDoorG34
set_option linter.unusedSimpArgs false
set_option linter.unusedVariables false
namespace Go.Proofs.YtmlkpnfjgifgfaaGreatDoor
open Go.RowKit
section
variable {P : Program} {ops : Array Oper} {a0 : Act}
theorem region_last1 {id : Nat} {dr : Bool} {w : World} {Q : Exit → Act → World → Prop} (kl : List RK) (hm : P.follows .mixedOrders = true) (hb : backB ops = true) (hd : dstB ops a0.tmps.size = true) (hl : looksB ops = true) (hkd : kindB ops kl = true)
    (hst : stabs (hasPut kl) kl) (hlen : kl.length + 1 = ops.size) {ol : Oper} (hol : ops.toList[kl.length]? = some ol) (fr : Nat) {fo : Oper} (hof : ops.toList[fr]? = some fo) (hfrk : rk kl fr = .val fun _ _ => True)
    (hlast : (ol.dst.isNone && ol.guard.isNone && fo.guard.isNone && decide (fr < kl.length) && !predB ops kl.length fr && (List.range kl.length).all (fun j => j == fr || predB ops kl.length j) && (List.range kl.length).all fun j => !predB ops j fr) = true)
    (hob : AllOb P ops kl w.heap.size w a0 (ops.toList.take kl.length) kl 0)
    (hfr : ∀ (ts : Nat → Value) (W : World), (∀ i p, i < kl.length → i ≠ fr → rk kl i = .val p → p (ts i) W) → ∃ v, ∀ W', (execOp (Act.eval ⟨fillT ts ops.toList 0 a0.tmps, a0.defers⟩) fo).run P W' = .ok (.value v) W')
    (fin : ∀ (ts : Nat → Value) (W : World), Below w.heap.size w W → (∀ i, i < kl.length → Held kl w.heap.size ts (fun _ => true) W i) →
      (∀ i j, i < kl.length → j < kl.length → i ≠ j → (match rk kl i, rk kl j with | .box _ _, .box _ _ => ts i ≠ ts j | _, _ => True)) →
      ∀ K : Act → World → Prop, (∀ a' W', Q .normal a' W' → K a' W') → Goes (Oper.wp P ol ⟨fillT ts ops.toList 0 a0.tmps, a0.defers⟩ W K (fun _ _ _ => False))) :
    (Code.region id ops dr).wp P Q a0 w := by
  replace hol : ops[kl.length]? = some ol := by simpa using hol
  replace hof : ops[fr]? = some fo := by simpa using hof
  simp only [Bool.and_eq_true, decide_eq_true_eq] at hlast
  obtain ⟨⟨⟨⟨⟨⟨hld, hlg⟩, hfg⟩, hfl⟩, hnf⟩, hlp⟩, hnb⟩ := hlast
  have hld' : ol.dst = none := by simpa using hld
  have hlg' : ol.guard = none := by simpa using hlg
  have hfg' : fo.guard = none := by simpa using hfg
  have hnf' : predB ops kl.length fr = false := by simpa using hnf
  have hstab : ∀ j p, rk kl j = .val p → StabB p := fun j p h => hst.b j p h
  have hpred : ∀ j, j < kl.length → j ≠ fr → ∃ e ∈ ol.after, Region.binds .any e = true ∧ e.on = j := fun j hj hjf => by
    have h1 := List.all_eq_true.1 hlp j (List.mem_range.2 hj)
    simp only [Bool.or_eq_true, beq_iff_eq] at h1
    rcases h1 with h1 | h1
    · exact absurd h1 hjf
    · obtain ⟨e, he, hbd, heq⟩ := predB_spec hol h1
      exact ⟨e, he, hbd, heq⟩
  have hrest : ∀ (i : Nat) (o : Oper), ops[i]? = some o → kl.length ≤ i → o.dst = none := fun i o ho hi => by
    have := lt_of_op ho
    obtain rfl : i = kl.length := by omega
    rw [hol] at ho; cases ho; exact hld'
  have wantL : ∀ l, Region.wanted ol l = true := fun l => by unfold Region.wanted; rw [hlg']
  have wantF : ∀ l, Region.wanted fo l = true := fun l => by unfold Region.wanted; rw [hfg']
  obtain ⟨df, hdf⟩ : ∃ d, fo.dst = some d := kind_val hkd hfl hof hfrk
  refine wp_region_lin' (fun L a W => (L kl.length = false ∧ ∃ ts, Lin ops kl w.heap.size w a0 L ts a W) ∨ ((∀ j, j < ops.size → L j = true) ∧ Q .normal a W) ∨
    (L fr = false ∧ L kl.length = true ∧ (∀ j, j < kl.length → j ≠ fr → L j = true) ∧ ∃ v, (∀ W', (execOp a.eval fo).run P W' = .ok (.value v) W') ∧ Q .normal (a.put fo.dst v) W)) hm hb ?_ ?_ fun w' hw' => .inl ⟨rfl, lin_start hw'⟩
  · rintro L a W (⟨hn, ts, h⟩ | ⟨hall, -⟩ | ⟨hLf, hLl, hrst, v, hv, hq⟩) i o ho hLi hpre
    · by_cases hi : i = kl.length
      · subst hi
        rw [hol] at ho
        cases ho
        have hoth : ∀ j, j < kl.length → j ≠ fr → L j = true := fun j hj hjf => by
          obtain ⟨e, he, hbd, rfl⟩ := hpred j hj hjf
          exact hpre e he hbd
        unfold wpOp
        rw [hol]
        simp only [wantL, if_true]
        left
        by_cases hLt : L fr = true
        rotate_left
        · -- the free one has not come up: it is as if it had
          have hLf : L fr = false := by simpa using hLt
          have hpf : ∀ e ∈ fo.after, Region.binds .any e = true → L e.on = true := fun e he hbd => by
            have h1 := backB_spec hb hof e he hbd
            exact hoth e.on (by omega) (by omega)
          have e1 := execOp_lin hd hl h hof hpf
          obtain ⟨v, hv⟩ := hfr ts W fun i p hi hif hk => by
            have := h.held i (by omega) (hoth i hi hif)
            unfold Held at this
            rw [hk] at this
            exact this
          rw [e1] at hv
          have hfull := h.val hd hkd hstab hfl hof hLf hpf h.below.size (v := v) (W' := W) (Below.refl _ _) (by unfold Held; rw [hfrk]; trivial) (fun T z hk => by rw [hfrk] at hk; cases hk)
          obtain ⟨ha, h1, h2⟩ := lin_fin hd hfull (by omega) (fun j hj => by
            by_cases hjf : j = fr
            · simp [hjf]
            · simp [hoth j hj hjf]) hrest
          have hfin := (fin _ W hfull.below h1 h2 (Q .normal) (fun _ _ h => h)).out
          rw [← ha] at hfin
          have e2 : execOp (a.put fo.dst v).eval ol = execOp a.eval ol := by
            obtain ⟨-, hs, hx⟩ := looksB_spec hl hol
            refine execOp_congr ol hs fun x hxo => ?_
            cases x with
            | tmp t =>
              show (a.put fo.dst v).tmps.getD t undef = a.tmps.getD t undef
              have hne : df ≠ t := fun e => by
                rcases hx t hxo with ⟨e', he', hbd, o', ho', hd'⟩ | hno
                · have h3 := dstB_one hd ho' hof hd' (e ▸ hdf)
                  have h4 : predB ops kl.length fr = true := by
                    unfold predB
                    rw [hol]
                    simp only [Option.map_some, Option.getD_some, List.any_eq_true]
                    exact ⟨e', by simpa using he', by simp [hbd, h3]⟩
                  rw [hnf'] at h4; cases h4
                · exact hno fr fo hof (e ▸ hdf)
              rw [hdf]
              simp only [Act.put, Array.getD_eq_getD_getElem?, Array.getElem?_setIfInBounds, if_neg hne]
            | _ => rfl
          have hJ : ∀ j, j < kl.length → j ≠ fr → (j == kl.length || L j) = true := fun j hj hjf => by simp [hoth j hj hjf]
          have hfne : (fr == kl.length || L fr) = false := by
            have : (fr == kl.length) = false := by simp; omega
            simp [this, hLf]
          unfold Oper.wp at hfin ⊢
          rw [e2] at hfin
          have done : ∀ {u : Value} {w' : World}, Q .normal ((a.put fo.dst v).put ol.dst u) w' → (fun a' w' => ((kl.length == kl.length || L kl.length) = false ∧ ∃ ts, Lin ops kl w.heap.size w a0 (fun j => j == kl.length || L j) ts a' w') ∨ ((∀ j, j < ops.size → (j == kl.length || L j) = true) ∧ Q .normal a' w') ∨
              ((fr == kl.length || L fr) = false ∧ (kl.length == kl.length || L kl.length) = true ∧ (∀ j, j < kl.length → j ≠ fr → (j == kl.length || L j) = true) ∧ ∃ v, (∀ W', (execOp a'.eval fo).run P W' = .ok (.value v) W') ∧ Q .normal (a'.put fo.dst v) w')) (a.put ol.dst u) w' := fun {u w'} hq => by
            rw [hld'] at hq ⊢
            exact .inr (.inr ⟨hfne, by simp, hJ, v, hv, hq⟩)
          generalize (execOp a.eval ol).run P W = r at *
          cases r with
          | ok n w' =>
            cases n <;> simp only [Oper.upon] at hfin ⊢
            case value u => exact done hfin
            case skip => exact done hfin
            case defer d' =>
              rw [hld'] at hfin ⊢
              refine .inr (.inr ⟨hfne, by simp, hJ, v, hv, ?_⟩)
              rw [hdf] at hfin ⊢
              exact hfin
            case enter f args =>
              refine Calls.mono hfin fun e w'' h' => ?_
              cases e with
              | returned u => exact done h'
              | panicked c => exact h'.elim
              | outgrown => obtain ⟨_, _, h⟩ := h'; exact h.elim
            case row row args => exact Rows.mono hfin fun u w'' h' => done h'
          | halt x w' => cases x <;> simp only [Oper.upon] at hfin ⊢
        · have hall : ∀ j, j < kl.length → L j = true := fun j hj => by
            by_cases hjf : j = fr
            · rw [hjf]; exact hLt
            · exact hoth j hj hjf
          obtain ⟨ha, h1, h2⟩ := lin_fin hd h (by omega) hall hrest
          have hfin := (fin ts W h.below h1 h2 (Q .normal) (fun _ _ h => h)).out
          rw [← ha] at hfin
          have hfin' : Oper.wp P ol a W (Q .normal) Q := by
            unfold Oper.wp at hfin ⊢
            generalize (execOp a.eval ol).run P W = r at *
            cases r with
            | ok n w' =>
              cases n <;> simp only [Oper.upon] at hfin ⊢ <;> try exact hfin
              case enter f args =>
                refine Calls.mono hfin fun e w'' h' => ?_
                cases e with
                | returned u => exact h'
                | panicked c => exact h'.elim
                | outgrown => obtain ⟨_, _, h⟩ := h'; exact h.elim
            | halt x w' => cases x <;> simp only [Oper.upon] at hfin ⊢
          refine Oper.wp_mono (fun a' w' hq => .inr (.inl ⟨fun j hj => ?_, hq⟩)) hfin'
          by_cases hjk : j = kl.length
          · simp [hjk]
          · simp [hall j (by omega)]
      · have hi' : i < kl.length := by have := lt_of_op ho; omega
        refine wpOp_mono (fun a' w' hh => .inl ⟨?_, hh⟩) (lin_step hb hd hl hkd hst hob h hi' ho hLi hpre)
        have : (kl.length == i) = false := by simpa using fun e => hi (Eq.symm e)
        simp [this, hn]
    · rw [hall i (lt_of_op ho)] at hLi; cases hLi
    · have hif : i = fr := by
        rcases Nat.lt_or_ge i kl.length with h1 | h1
        · exact Classical.byContradiction fun hne => by rw [hrst i h1 hne] at hLi; cases hLi
        · have := lt_of_op ho
          obtain rfl : i = kl.length := by omega
          rw [hLl] at hLi; cases hLi
      subst hif
      rw [hof] at ho
      cases ho
      unfold wpOp
      rw [hof]
      simp only [wantF, if_true]
      left
      unfold Oper.wp
      rw [hv W]
      refine .inr (.inl ⟨fun j hj => ?_, hq⟩)
      by_cases hji : j = i
      · simp [hji]
      · by_cases hjk : j = kl.length
        · simp [hjk, hLl]
        · simp [hrst j (by omega) hji]
  · rintro L a W (⟨hn, -⟩ | ⟨-, hq⟩ | ⟨hLf, -⟩) hall
    · rw [hall _ (by omega)] at hn; cases hn
    · exact hq
    · rw [hall _ (by omega)] at hLf; cases hLf
end
end Go.Proofs.YtmlkpnfjgifgfaaGreatDoor
set_option linter.unusedSimpArgs false
set_option linter.unusedVariables false
namespace Go.Proofs.YtmlkpnfjgifgfaaGreatDoor
open Go.RowKit
set_option maxRecDepth 100000

/-- What a call that makes a row leaves. -/
def RetRow (w : World) (n : Nat) (f : Nat → Cx) (e : Ending) (w' : World) : Prop := ∃ g, e = .returned (.slice (some ⟨g, 0, none⟩) n n) ∧ NBlk w' g n f ∧ w.heap.size ≤ g ∧ Below w.heap.size w w'
set_option maxHeartbeats 2000000 in
theorem blankN_any (w : World) (n m : Nat) (hn : n ≤ 1073741824) (hm : m ≤ 1073741824) :
    Calls Tryz.prog 33 #[.int .i64 n, .int .i64 m] w (RetMat w n m (fun _ _ => .zero)) := by
  obtain ⟨W1, hr1, hb1, hs1, hP⟩ := make_mat n m (by omega) w (fun _ _ => .zero) (fun _ => 0)
  have HB := Lib.hid hb1
  have HP := Lib.hid hP
  have HS := Lib.hid hs1
  clear hb1 hP hs1
  go_enter Tryz.func33, Tryz.ntmps33
  go_wp2
  clear hr1
  go_loopw [11] (fun i wr => ∃ (k : Nat) (g2 : Nat → Nat), i = .int .i64 k ∧ k ≤ n ∧ Below w.heap.size w wr ∧ PMat w.heap.size wr w.heap.size g2 n m k (fun _ _ => .zero)) (fun i _ => n - (intOf i).toNat)
  case atStart => exact ⟨0, fun _ => 0, rfl, by omega, HB.out, HP.out⟩
  case round =>
    obtain ⟨k, g2, rfl, hk, hB, hP⟩ := hrel
    have KB := Lib.hid hB
    by_cases hlt : k < n
    · obtain ⟨W2, hr2, hb2, hs2, hN2⟩ := make_row m (by omega) wr
      have P2 := hP.below hb2
      have f1 := P2.cell_nil (Nat.le_refl k) hlt
      have f2 := P2.frozen k
      obtain ⟨P3, hB2, hE2⟩ := hP.row hb2 (Nat.le_refl _) hN2 hlt
      have K4 := Lib.hid P3
      have L4 := Lib.hid (hB2.below (below_trans hB hb2) (Nat.le_refl _))
      clear P3 hB2 hE2 P2 hP hB hb2 hs2 hN2
      go_wp2
      go_roundw
      case rel => exact ⟨k + 1, upf g2 k wr.heap.size, by go_num, by omega, L4.out, K4.out⟩
      case measure => simp [intOf]; omega
    · obtain rfl : k = n := by omega
      obtain ⟨h1, h2⟩ := hP.done
      clear hB hP
      go_wp2
      go_ret
      exact ⟨_, _, rfl, h1, h2, KB.out⟩

/-- How great the elements of a solution may be. -/
def szX (S : Nat) : Nat → Nat
  | 0 => 1
  | t + 1 => szX S t + (S + t * (S + szX S t + 2)) + 2 * S + 2
theorem szX_mono (S : Nat) : ∀ {a b : Nat}, a ≤ b → szX S a ≤ szX S b := by
  intro a b h
  induction h with
  | refl => exact Nat.le_refl _
  | step _ ih => rw [szX]; omega
theorem subF_sz {G : Nat → Nat → Cx} {c : Nat} {x : Nat → Cx} {S X : Nat} (hx : ∀ j, Sz (x j) X) : ∀ (d j : Nat) (s : Cx) (Y : Nat), Sz s Y → (∀ i, j ≤ i → i < j + d → Sz (G c i) S) → Sz (subF G c x s j d) (Y + d * (S + X + 2)) := by
  intro d
  induction d with
  | zero => intro j s Y hs _; rw [Nat.zero_mul, Nat.add_zero]; exact hs
  | succ d ih =>
    intro j s Y hs hG
    have h1 := hs.sub ((hG j (Nat.le_refl _) (by omega)).mul (hx j))
    have h2 := ih (j + 1) _ _ h1 fun i a b => hG i (by omega) (by omega)
    refine h2.mono ?_
    rw [Nat.add_mul]; omega
theorem solT_sz {G : Nat → Nat → Cx} {n m k S : Nat} (hS : ∀ a b, a < n → b < m → Sz (G a b) S) (hk : k < m) (hnm : n ≤ m) : ∀ t, t ≤ n → ∀ j, Sz (solT G k n t j) (szX S t) := by
  intro t
  induction t with
  | zero => intro _ j; exact Sz.zero (by rw [szX]; omega)
  | succ t ih =>
    intro ht j
    have h0 := ih (by omega)
    rw [solT]
    by_cases hj : j = n - 1 - t
    · rw [hj, upf_same]
      have h1 := subF_sz h0 (G := G) (c := n - 1 - t) (S := S) t (n - 1 - t + 1) (G (n - 1 - t) k) S (hS _ _ (by omega) hk) fun i a b => hS _ _ (by omega) (by omega)
      have h2 := h1.div (hS (n - 1 - t) (n - 1 - t) (by omega) (by omega))
      exact h2.mono (by rw [szX]; omega)
    · rw [upf_other _ _ hj]
      exact (h0 j).mono (szX_mono S (by omega))

set_option maxHeartbeats 8000000 in
theorem substituteN_any (w : World) (go : Nat) (gi : Nat → Nat) (n m k S : Nat) (G : Nat → Nat → Cx) (h : MatAt w go gi n m G) (hnm : n ≤ m) (hk : k < m) (hm : m ≤ 1073741824) (hT : Tab w) (hS : ∀ a b, a < n → b < m → Sz (G a b) S)
    (hD : ∀ i, i < n → G i i ≠ .zero) (h5 : S + n * (S + szX S n + 2) + 5 * S + szX S n + 10 < 549755813888) :
    Calls Tryz.prog 34 #[.slice (some ⟨go, 0, none⟩) n n, .int .i64 k] w (RetRow w n (solX G k n)) := by
  have hsx := fun t (ht : t ≤ n) j => (solT_sz hS hk hnm t ht j).mono (szX_mono S ht)
  obtain ⟨X, hX⟩ : ∃ X, X = szX S n := ⟨_, rfl⟩
  rw [← hX] at h5
  simp only [← hX] at hsx
  clear hX
  obtain ⟨Y, hYY⟩ : ∃ Y, Y = S + n * (S + X + 2) := ⟨_, rfl⟩
  rw [← hYY] at h5
  have hsy : ∀ c t d, c < n → t ≤ n → c + 1 + d ≤ n → Sz (subF G c (solT G k n t) (G c k) (c + 1) d) Y := fun c t d hc ht hd => by
    refine (subF_sz (S := S) (hsx t ht) d (c + 1) (G c k) S (hS _ _ hc hk) fun i a b => hS _ _ hc (by omega)).mono ?_
    rw [hYY]
    have := Nat.mul_le_mul_right (S + X + 2) (show d ≤ n by omega)
    omega
  clear hYY
  have H0 := Lib.hid h
  have HS := Lib.hid hS
  have HT := Lib.hid hT
  have HDG := Lib.hid hD
  have HSX0 := Lib.hid hsx
  have HSY0 := Lib.hid hsy
  clear h hS hT hD hsx hsy
  obtain ⟨W1, hr1, hb1, hs1, hN⟩ := make_row n (by omega) w
  have HB := Lib.hid hb1
  have HN := Lib.hid hN
  clear hb1 hN
  go_enter Tryz.func34, Tryz.ntmps34
  go_wp2
  clear hr1 hs1
  go_loopw [6] (fun j wr => ∃ (c1 : Nat) (z : Int), j = .int .i64 z ∧ z = (c1 : Int) - 1 ∧ c1 ≤ n ∧ NBlk wr w.heap.size n (solT G k n (n - c1)) ∧ Below w.heap.size w wr) (fun j _ => (intOf j + 1).toNat)
  case atStart => exact ⟨n, (n : Int) - 1, by go_num, rfl, Nat.le_refl _, by rw [Nat.sub_self]; exact HN.out, HB.out⟩
  case round =>
    obtain ⟨c1, z, rfl, hz, hc1, hNX, hB⟩ := hrel
    have KB := Lib.hid hB
    have H := Lib.hid (H0.out.below hB)
    have HX := Lib.hid hNX
    have hlw : w.heap.size < wr.heap.size := hNX.lt
    clear hB hNX
    rcases Nat.eq_zero_or_pos c1 with h0 | h0
    · subst h0
      have hz1 : ¬ ((0 : Int) ≤ z) := by omega
      clear hz
      go_wp2
      go_ret
      exact ⟨_, rfl, HX.out, Nat.le_refl _, KB.out⟩
    · obtain ⟨c, rfl⟩ : ∃ c, c1 = c + 1 := ⟨c1 - 1, by omega⟩
      obtain rfl : z = (c : Int) := by omega
      clear hz h0
      obtain ⟨t, ht⟩ : ∃ t, t = n - (c + 1) := ⟨_, rfl⟩
      rw [← ht] at HX
      have HTT := Lib.hid ht
      clear ht
      have hc : c < n := hc1
      have hcm : c < m := by omega
      have HSX := Lib.hid (HSX0.out t (by have := HTT.out; omega))
      go_upto_region 5 with fail
      refine region_lin [.val (kIs (.slice (some ⟨go, 0, none⟩) n n)), .val (kIs (.int .i64 (c : Int))), .val (kIs (.pointer (some ⟨go, c, none⟩))), .val (kIs (.slice (some ⟨gi c, 0, none⟩) m m)), .val (kIs (.int .i64 (k : Int))), .val (kIs (.pointer (some ⟨(gi c), 5 * k, none⟩))), .val (kNum (G c k)), .box 30 zNum, .put 7 6]
        (by kernel_rfl) (by kernel_rfl) (by kernel_rfl) (by kernel_rfl) (by kernel_rfl) ⟨stab_is _, stab_is _, stab_is _, stab_is _, stab_is _, stab_is _, stab_num _, trivial⟩ (by simp) ⟨?_, ?_, ?_, ?_, ?_, ?_, ?_, alloc_num, store_num _, trivial⟩ ?_
      · intro ts W hb hB hp; intro K hK; simp only [fillT, Nat.zero_add, Nat.reduceAdd, List.setIfInBounds_toArray, List.set_cons_zero, List.set_cons_succ] at hK ⊢; have HK := Lib.hid hK; clear hK hp; refine ⟨?_⟩; go_simp; exact HK.out _ _ rfl (Below.refl _ _)
      · intro ts W hb hB hp; intro K hK; simp only [fillT, Nat.zero_add, Nat.reduceAdd, List.setIfInBounds_toArray, List.set_cons_zero, List.set_cons_succ] at hK ⊢; have HK := Lib.hid hK; clear hK hp; refine ⟨?_⟩; go_simp; exact HK.out _ _ rfl (Below.refl _ _)
      · intro ts W hb hB hp; have h0 : ts 0 = _ := hp 0 (by kernel_rfl); have h1 : ts 1 = _ := hp 1 (by kernel_rfl); intro K hK; simp only [fillT, Nat.zero_add, Nat.reduceAdd, List.setIfInBounds_toArray, List.set_cons_zero, List.set_cons_succ, h0, h1] at hK ⊢; have HK := Lib.hid hK; clear hK hp; refine ⟨?_⟩; go_simp; exact HK.out _ _ rfl (Below.refl _ _)
      · intro ts W hb hB hp; have h2 : ts 2 = _ := hp 2 (by kernel_rfl); intro K hK; simp only [fillT, Nat.zero_add, Nat.reduceAdd, List.setIfInBounds_toArray, List.set_cons_zero, List.set_cons_succ, h2] at hK ⊢; have HK := Lib.hid hK; clear hK hp; have hcell := (H.out.below hb).cell hc; refine ⟨?_⟩; go_simp; exact HK.out _ _ rfl (Below.refl _ _)
      · intro ts W hb hB hp; intro K hK; simp only [fillT, Nat.zero_add, Nat.reduceAdd, List.setIfInBounds_toArray, List.set_cons_zero, List.set_cons_succ] at hK ⊢; have HK := Lib.hid hK; clear hK hp; refine ⟨?_⟩; go_simp; exact HK.out _ _ rfl (Below.refl _ _)
      · intro ts W hb hB hp; have h3 : ts 3 = _ := hp 3 (by kernel_rfl); have h4 : ts 4 = _ := hp 4 (by kernel_rfl); intro K hK; simp only [fillT, Nat.zero_add, Nat.reduceAdd, List.setIfInBounds_toArray, List.set_cons_zero, List.set_cons_succ, h3, h4] at hK ⊢; have HK := Lib.hid hK; clear hK hp; refine ⟨?_⟩; go_simp; exact HK.out _ _ (by simp [kIs, Nat.mul_comm]) (Below.refl _ _)
      · intro ts W hb hB hp; have h5 : ts 5 = _ := hp 5 (by kernel_rfl); intro K hK; simp only [fillT, Nat.zero_add, Nat.reduceAdd, List.setIfInBounds_toArray, List.set_cons_zero, List.set_cons_succ, h5] at hK ⊢; have HK := Lib.hid hK; clear hK hp; refine ⟨?_⟩; refine wp_load_elem rfl rfl ((H.out.row hc).below hb) hk (fun v hv => HK.out _ _ (hv) (Below.refl _ _))
      intro ts W2 hb2 hh hap
      obtain ⟨g7, A7, n7, c7, p7, A7b, n7b, c7b, p7b, A7c, n7c, c7c, e7, lo7, z7, X7, N7⟩ := held_box (x := G c k) (hh 7 (by simp)) rfl (hh 8 (by simp)) rfl (hh 6 (by simp)) rfl
      simp only [fillT, Nat.zero_add, Nat.reduceAdd, List.setIfInBounds_toArray, List.set_cons_zero, List.set_cons_succ, e7]
      clear hh hap e7
      generalize ts 0 = u0_W2 at *
      generalize ts 1 = u1_W2 at *
      generalize ts 2 = u2_W2 at *
      generalize ts 3 = u3_W2 at *
      generalize ts 4 = u4_W2 at *
      generalize ts 5 = u5_W2 at *
      generalize ts 6 = u6_W2 at *
      clear ts
      have HX2 := Lib.hid (HX.out.below hb2)
      have KB2 := Lib.hid (below_trans KB.out hb2)
      have hg7w : w.heap.size < g7 := by omega
      have HX7 := Lib.hid X7
      clear hb2 lo7 X7 z7 H KB HX
      go_wp2
      go_loopw [8] (fun j wr => ∃ d jj : Nat, j = .int .i64 jj ∧ jj = c + 1 + d ∧ jj ≤ n ∧ NBlk wr w.heap.size n (solT G k n t) ∧ BoxNum wr g7 (subF G c (solT G k n t) (G c k) (c + 1) d) ∧ Below w.heap.size w wr) (fun j _ => n - (intOf j).toNat)
      case atStart => exact ⟨0, c + 1, by go_num, rfl, by omega, HX2.out, .mk HX7.out N7, KB2.out⟩
      case round =>
        rename_i wr1
        clear HX2 HX7 N7 KB2
        obtain ⟨d, jj, rfl, hjj, hd, hNX, ⟨A7, n7, c7, p7, A7b, n7b, c7b, p7b, A7c, n7c, c7c, X7, N7⟩, hB⟩ := hrel
        have HJ := Lib.hid hjj
        have KB2 := Lib.hid hB
        have H := Lib.hid (H0.out.below hB)
        have HX := Lib.hid hNX
        have z7 : g7 < wr.heap.size := heap_ge_none X7
        have hBr : w.heap.size ≤ wr.heap.size := hB.size
        clear hB hNX hjj
        by_cases hdn : jj < n
        · have hdm : jj < m := by omega
          have hY := HSY0.out c t d hc (by have := HTT.out; omega) (by have := HJ.out; omega)
          go_upto_region 9 with fail
          refine region_last [.val (kIs (.agg #[.slice A7 n7 c7, .bool p7, .slice A7b n7b c7b, .bool p7b, .slice A7c n7c c7c])), .val (kIfc (subF G c (solT G k n t) (G c k) (c + 1) d)), .val (kIs (.slice (some ⟨go, 0, none⟩) n n)), .val (kIs (.int .i64 (c : Int))), .val (kIs (.pointer (some ⟨go, c, none⟩))), .val (kIs (.slice (some ⟨gi c, 0, none⟩) m m)), .val (kIs (.int .i64 (jj : Int))), .val (kIs (.pointer (some ⟨(gi c), 5 * jj, none⟩))), .val (kNum (G c jj)), .val (kIfc (G c jj)), .val (kIs (.slice (some ⟨w.heap.size, 0, none⟩) n n)), .val (kIs (.int .i64 (jj : Int))), .val (kIs (.pointer (some ⟨w.heap.size, 5 * jj, none⟩))), .val (kNum (solT G k n t jj)), .val (kNum ((G c jj).mul (solT G k n t jj))), .val (kNum ((subF G c (solT G k n t) (G c k) (c + 1) d).sub ((G c jj).mul (solT G k n t jj))))]
            (by kernel_rfl) (by kernel_rfl) (by kernel_rfl) (by kernel_rfl) (by kernel_rfl) ⟨Stab.b (stab_is _), Stab.b (stab_ifc _), Stab.b (stab_is _), Stab.b (stab_is _), Stab.b (stab_is _), Stab.b (stab_is _), Stab.b (stab_is _), Stab.b (stab_is _), Stab.b (stab_num _), Stab.b (stab_ifc _), Stab.b (stab_is _), Stab.b (stab_is _), Stab.b (stab_is _), Stab.b (stab_num _), Stab.b (stab_num _), Stab.b (stab_num _), trivial⟩ (by simp) (ol := _) rfl (by kernel_rfl) ⟨?_, ?_, ?_, ?_, ?_, ?_, ?_, ?_, ?_, ?_, ?_, ?_, ?_, ?_, ?_, ?_, trivial⟩ ?_
          · intro ts W hb hB hp; intro K hK; simp only [fillT, Nat.zero_add, Nat.reduceAdd, List.setIfInBounds_toArray, List.set_cons_zero, List.set_cons_succ] at hK ⊢; refine ⟨?_⟩; refine wp_load_row _ _ rfl (g7) rfl _ _ (0, 0) _ ((hb.block _ (z7)).trans X7) Tryz.underlying30 rfl (by kernel_rfl) ?_; exact hK _ _ rfl (Below.refl _ _)
          · intro ts W hb hB hp; have h0 : ts 0 = _ := hp 0 (by kernel_rfl); intro K hK; simp only [fillT, Nat.zero_add, Nat.reduceAdd, List.setIfInBounds_toArray, List.set_cons_zero, List.set_cons_succ, h0] at hK ⊢; have HK := Lib.hid hK; clear hK hp; refine ⟨?_⟩; go_simp; exact HK.out _ _ ⟨_, rfl, N7.below hb⟩ (Below.refl _ _)
          · intro ts W hb hB hp; intro K hK; simp only [fillT, Nat.zero_add, Nat.reduceAdd, List.setIfInBounds_toArray, List.set_cons_zero, List.set_cons_succ] at hK ⊢; have HK := Lib.hid hK; clear hK hp; refine ⟨?_⟩; go_simp; exact HK.out _ _ rfl (Below.refl _ _)
          · intro ts W hb hB hp; intro K hK; simp only [fillT, Nat.zero_add, Nat.reduceAdd, List.setIfInBounds_toArray, List.set_cons_zero, List.set_cons_succ] at hK ⊢; have HK := Lib.hid hK; clear hK hp; refine ⟨?_⟩; go_simp; exact HK.out _ _ rfl (Below.refl _ _)
          · intro ts W hb hB hp; have h2 : ts 2 = _ := hp 2 (by kernel_rfl); have h3 : ts 3 = _ := hp 3 (by kernel_rfl); intro K hK; simp only [fillT, Nat.zero_add, Nat.reduceAdd, List.setIfInBounds_toArray, List.set_cons_zero, List.set_cons_succ, h2, h3] at hK ⊢; have HK := Lib.hid hK; clear hK hp; refine ⟨?_⟩; go_simp; exact HK.out _ _ rfl (Below.refl _ _)
          · intro ts W hb hB hp; have h4 : ts 4 = _ := hp 4 (by kernel_rfl); intro K hK; simp only [fillT, Nat.zero_add, Nat.reduceAdd, List.setIfInBounds_toArray, List.set_cons_zero, List.set_cons_succ, h4] at hK ⊢; have HK := Lib.hid hK; clear hK hp; have hcell := (H.out.below hb).cell hc; refine ⟨?_⟩; go_simp; exact HK.out _ _ rfl (Below.refl _ _)
          · intro ts W hb hB hp; intro K hK; simp only [fillT, Nat.zero_add, Nat.reduceAdd, List.setIfInBounds_toArray, List.set_cons_zero, List.set_cons_succ] at hK ⊢; have HK := Lib.hid hK; clear hK hp; refine ⟨?_⟩; go_simp; exact HK.out _ _ rfl (Below.refl _ _)
          · intro ts W hb hB hp; have h5 : ts 5 = _ := hp 5 (by kernel_rfl); have h6 : ts 6 = _ := hp 6 (by kernel_rfl); intro K hK; simp only [fillT, Nat.zero_add, Nat.reduceAdd, List.setIfInBounds_toArray, List.set_cons_zero, List.set_cons_succ, h5, h6] at hK ⊢; have HK := Lib.hid hK; clear hK hp; refine ⟨?_⟩; go_simp; exact HK.out _ _ (by simp [kIs, Nat.mul_comm]) (Below.refl _ _)
          · intro ts W hb hB hp; have h7 : ts 7 = _ := hp 7 (by kernel_rfl); intro K hK; simp only [fillT, Nat.zero_add, Nat.reduceAdd, List.setIfInBounds_toArray, List.set_cons_zero, List.set_cons_succ, h7] at hK ⊢; have HK := Lib.hid hK; clear hK hp; refine ⟨?_⟩; refine wp_load_elem rfl rfl ((H.out.row hc).below hb) hdm (fun v hv => HK.out _ _ (hv) (Below.refl _ _))
          · intro ts W hb hB hp; have h8 : IsNum W (ts 8) (G c jj) := hp 8 (by kernel_rfl); intro K hK; simp only [fillT, Nat.zero_add, Nat.reduceAdd, List.setIfInBounds_toArray, List.set_cons_zero, List.set_cons_succ] at hK ⊢; have HK := Lib.hid hK; clear hK hp; refine ⟨?_⟩; go_simp; exact HK.out _ _ ⟨_, rfl, h8⟩ (Below.refl _ _)
          · intro ts W hb hB hp; intro K hK; simp only [fillT, Nat.zero_add, Nat.reduceAdd, List.setIfInBounds_toArray, List.set_cons_zero, List.set_cons_succ] at hK ⊢; have HK := Lib.hid hK; clear hK hp; refine ⟨?_⟩; go_simp; exact HK.out _ _ rfl (Below.refl _ _)
          · intro ts W hb hB hp; intro K hK; simp only [fillT, Nat.zero_add, Nat.reduceAdd, List.setIfInBounds_toArray, List.set_cons_zero, List.set_cons_succ] at hK ⊢; have HK := Lib.hid hK; clear hK hp; refine ⟨?_⟩; go_simp; exact HK.out _ _ rfl (Below.refl _ _)
          · intro ts W hb hB hp; have h10 : ts 10 = _ := hp 10 (by kernel_rfl); have h11 : ts 11 = _ := hp 11 (by kernel_rfl); intro K hK; simp only [fillT, Nat.zero_add, Nat.reduceAdd, List.setIfInBounds_toArray, List.set_cons_zero, List.set_cons_succ, h10, h11] at hK ⊢; have HK := Lib.hid hK; clear hK hp; refine ⟨?_⟩; go_simp; exact HK.out _ _ (by simp [kIs, Nat.mul_comm]) (Below.refl _ _)
          · intro ts W hb hB hp; have h12 : ts 12 = _ := hp 12 (by kernel_rfl); intro K hK; simp only [fillT, Nat.zero_add, Nat.reduceAdd, List.setIfInBounds_toArray, List.set_cons_zero, List.set_cons_succ, h12] at hK ⊢; have HK := Lib.hid hK; clear hK hp; refine ⟨?_⟩; refine wp_load_elem rfl rfl (HX.out.below hb) hdn (fun v hv => HK.out _ _ (hv) (Below.refl _ _))
          · intro ts W hb hB hp; have h9 := hp 9 (by kernel_rfl); have h13 : IsNum W (ts 13) (solT G k n t jj) := hp 13 (by kernel_rfl); intro K hK; simp only [fillT, Nat.zero_add, Nat.reduceAdd, List.setIfInBounds_toArray, List.set_cons_zero, List.set_cons_succ] at hK ⊢; have HK := Lib.hid hK; clear hK hp; obtain ⟨u9, e9, n9⟩ := h9; refine ⟨?_⟩; refine wp_invoke rfl (T := 30) (v := u9) (xs := #[u9, ts 13]) e9 inv_Mul (by simp [Act.eval]) ?_; refine (mulN_any u9 _ (G c jj) (solT G k n t jj) W n9 h13 (S) (X) (HS.out _ _ hc hdm) (HSX.out _) (by omega) (HT.out.below (below_trans KB2.out hb))).mono ?_; rintro e W9 ⟨r9, rfl, hr9, hb9⟩; exact HK.out _ _ hr9 hb9
          · intro ts W hb hB hp; have h1 := hp 1 (by kernel_rfl); have h14 : IsNum W (ts 14) ((G c jj).mul (solT G k n t jj)) := hp 14 (by kernel_rfl); intro K hK; simp only [fillT, Nat.zero_add, Nat.reduceAdd, List.setIfInBounds_toArray, List.set_cons_zero, List.set_cons_succ] at hK ⊢; have HK := Lib.hid hK; clear hK hp; obtain ⟨u1, e1, n1⟩ := h1; refine ⟨?_⟩; refine wp_invoke rfl (T := 30) (v := u1) (xs := #[u1, ts 14]) e1 inv_Sub (by simp [Act.eval]) ?_; refine (subN_any u1 _ (subF G c (solT G k n t) (G c k) (c + 1) d) ((G c jj).mul (solT G k n t jj)) W n1 h14 (Y) (S + X + 1) hY (Sz.mul (HS.out _ _ hc hdm) (HSX.out _)) (by omega) (HT.out.below (below_trans KB2.out hb))).mono ?_; rintro e W9 ⟨r9, rfl, hr9, hb9⟩; exact HK.out _ _ hr9 hb9
          intro ts W3 hb3 hh hap K hK
          have h15 : IsNum W3 (ts 15) ((subF G c (solT G k n t) (G c k) (c + 1) d).sub ((G c jj).mul (solT G k n t jj))) := held_num (hh 15 (by simp)) rfl
          obtain ⟨A8, n8, c8, p8, A8b, n8b, c8b, p8b, A8c, n8c, c8c, ia, ib, id, hq, -⟩ := h15.parts
          have Y7 := (hb3.block g7 z7).trans X7
          have HK := Lib.hid hK
          simp only [fillT, Nat.zero_add, Nat.reduceAdd, List.setIfInBounds_toArray, List.set_cons_zero, List.set_cons_succ, hq]
          rw [hq] at h15
          clear hh hap hq hK
          refine ⟨?_⟩
          refine wp_store_row _ _ _ rfl g7 _ rfl rfl _ _ Y7 (by kernel_rfl) rfl (by simp [Value.oneCell']) (HK.out _ _ ?_)
          have hput := putAt_setRow (cs := #[.slice A8 n8 c8, .bool p8, .slice A8b n8b c8b, .bool p8b, .slice A8c n8c c8c]) Y7
          have hext := hput.ext Y7 rfl
          have X8 := hput.here
          have N8 := h15.ext hext
          have hbut : But W3 (W3.setRow g7 #[.slice A8 n8 c8, .bool p8, .slice A8b n8b c8b, .bool p8b, .slice A8c n8c c8c]) g7 := But.setRow _ _ _
          generalize W3.setRow g7 #[.slice A8 n8 c8, .bool p8, .slice A8b n8b c8b, .bool p8b, .slice A8c n8c c8c] = W4 at *
          clear hput
          have M4 := Lib.hid ((HX.out.below hb3).but hbut hext (by omega))
          have B4 := Lib.hid (hbut.below (below_trans KB2.out hb3) (by omega))
          have X84 := Lib.hid X8
          have N84 := Lib.hid (show IsNum W4 (.agg #[.slice A8 n8 c8, .bool p8, .slice A8b n8b c8b, .bool p8b, .slice A8c n8c c8c]) (subF G c (solT G k n t) (G c k) (c + 1) (d + 1)) by rw [subF_last, ← HJ.out]; exact N8)
          clear hbut hext X8 Y7 hb3 X7 N7 N8 z7 hY h15
          go_wp2
          go_roundw
          case rel => exact ⟨d + 1, jj + 1, by go_num, by have := HJ.out; omega, by omega, M4.out, .mk X84.out N84.out, B4.out⟩
          case measure => simp [intOf]; omega
        · obtain rfl : d = t := by have := HJ.out; have := HTT.out; omega
          have hY := HSY0.out c d d hc (by have := HTT.out; omega) (by have := HJ.out; omega)
          go_upto_region 10 with fail
          refine region_last1 [.val (kIs (.slice (some ⟨w.heap.size, 0, none⟩) n n)), .val (kIs (.int .i64 (c : Int))), .val (kIs (.agg #[.slice A7 n7 c7, .bool p7, .slice A7b n7b c7b, .bool p7b, .slice A7c n7c c7c])), .val (kIfc (subF G c (solT G k n d) (G c k) (c + 1) d)), .val (kIs (.slice (some ⟨go, 0, none⟩) n n)), .val (kIs (.int .i64 (c : Int))), .val (kIs (.pointer (some ⟨go, c, none⟩))), .val (kIs (.slice (some ⟨gi c, 0, none⟩) m m)), .val (kIs (.int .i64 (c : Int))), .val (kIs (.pointer (some ⟨(gi c), 5 * c, none⟩))), .val (kNum (G c c)), .val (kTup ((subF G c (solT G k n d) (G c k) (c + 1) d).div (G c c)) 0), .val (kTup ((subF G c (solT G k n d) (G c k) (c + 1) d).div (G c c)) 0), .val (kNum ((subF G c (solT G k n d) (G c k) (c + 1) d).div (G c c))), .val ((fun _ _ => True)), .val (kIs (.pointer (some ⟨w.heap.size, 5 * c, none⟩)))]
            (by kernel_rfl) (by kernel_rfl) (by kernel_rfl) (by kernel_rfl) (by kernel_rfl) ⟨Stab.b (stab_is _), Stab.b (stab_is _), Stab.b (stab_is _), Stab.b (stab_ifc _), Stab.b (stab_is _), Stab.b (stab_is _), Stab.b (stab_is _), Stab.b (stab_is _), Stab.b (stab_is _), Stab.b (stab_is _), Stab.b (stab_num _), Stab.b (stab_tup _ _), Stab.b (stab_tup _ _), Stab.b (stab_num _), Stab.b ((fun _ _ _ _ _ => trivial)), Stab.b (stab_is _), trivial⟩ (by simp) (ol := _) rfl 14 (fo := _) rfl rfl (by kernel_rfl) ⟨?_, ?_, ?_, ?_, ?_, ?_, ?_, ?_, ?_, ?_, ?_, ?_, ?_, ?_, ?_, ?_, trivial⟩ ?_ ?_
          · intro ts W hb hB hp; intro K hK; simp only [fillT, Nat.zero_add, Nat.reduceAdd, List.setIfInBounds_toArray, List.set_cons_zero, List.set_cons_succ] at hK ⊢; have HK := Lib.hid hK; clear hK hp; refine ⟨?_⟩; go_simp; exact HK.out _ _ rfl (Below.refl _ _)
          · intro ts W hb hB hp; intro K hK; simp only [fillT, Nat.zero_add, Nat.reduceAdd, List.setIfInBounds_toArray, List.set_cons_zero, List.set_cons_succ] at hK ⊢; have HK := Lib.hid hK; clear hK hp; refine ⟨?_⟩; go_simp; exact HK.out _ _ rfl (Below.refl _ _)
          · intro ts W hb hB hp; intro K hK; simp only [fillT, Nat.zero_add, Nat.reduceAdd, List.setIfInBounds_toArray, List.set_cons_zero, List.set_cons_succ] at hK ⊢; refine ⟨?_⟩; refine wp_load_row _ _ rfl (g7) rfl _ _ (0, 0) _ ((hb.block _ (z7)).trans X7) Tryz.underlying30 rfl (by kernel_rfl) ?_; exact hK _ _ rfl (Below.refl _ _)
          · intro ts W hb hB hp; have h2 : ts 2 = _ := hp 2 (by kernel_rfl); intro K hK; simp only [fillT, Nat.zero_add, Nat.reduceAdd, List.setIfInBounds_toArray, List.set_cons_zero, List.set_cons_succ, h2] at hK ⊢; have HK := Lib.hid hK; clear hK hp; refine ⟨?_⟩; go_simp; exact HK.out _ _ ⟨_, rfl, N7.below hb⟩ (Below.refl _ _)
          · intro ts W hb hB hp; intro K hK; simp only [fillT, Nat.zero_add, Nat.reduceAdd, List.setIfInBounds_toArray, List.set_cons_zero, List.set_cons_succ] at hK ⊢; have HK := Lib.hid hK; clear hK hp; refine ⟨?_⟩; go_simp; exact HK.out _ _ rfl (Below.refl _ _)
          · intro ts W hb hB hp; intro K hK; simp only [fillT, Nat.zero_add, Nat.reduceAdd, List.setIfInBounds_toArray, List.set_cons_zero, List.set_cons_succ] at hK ⊢; have HK := Lib.hid hK; clear hK hp; refine ⟨?_⟩; go_simp; exact HK.out _ _ rfl (Below.refl _ _)
          · intro ts W hb hB hp; have h4 : ts 4 = _ := hp 4 (by kernel_rfl); have h5 : ts 5 = _ := hp 5 (by kernel_rfl); intro K hK; simp only [fillT, Nat.zero_add, Nat.reduceAdd, List.setIfInBounds_toArray, List.set_cons_zero, List.set_cons_succ, h4, h5] at hK ⊢; have HK := Lib.hid hK; clear hK hp; refine ⟨?_⟩; go_simp; exact HK.out _ _ rfl (Below.refl _ _)
          · intro ts W hb hB hp; have h6 : ts 6 = _ := hp 6 (by kernel_rfl); intro K hK; simp only [fillT, Nat.zero_add, Nat.reduceAdd, List.setIfInBounds_toArray, List.set_cons_zero, List.set_cons_succ, h6] at hK ⊢; have HK := Lib.hid hK; clear hK hp; have hcell := (H.out.below hb).cell hc; refine ⟨?_⟩; go_simp; exact HK.out _ _ rfl (Below.refl _ _)
          · intro ts W hb hB hp; intro K hK; simp only [fillT, Nat.zero_add, Nat.reduceAdd, List.setIfInBounds_toArray, List.set_cons_zero, List.set_cons_succ] at hK ⊢; have HK := Lib.hid hK; clear hK hp; refine ⟨?_⟩; go_simp; exact HK.out _ _ rfl (Below.refl _ _)
          · intro ts W hb hB hp; have h7 : ts 7 = _ := hp 7 (by kernel_rfl); have h8 : ts 8 = _ := hp 8 (by kernel_rfl); intro K hK; simp only [fillT, Nat.zero_add, Nat.reduceAdd, List.setIfInBounds_toArray, List.set_cons_zero, List.set_cons_succ, h7, h8] at hK ⊢; have HK := Lib.hid hK; clear hK hp; refine ⟨?_⟩; go_simp; exact HK.out _ _ (by simp [kIs, Nat.mul_comm]) (Below.refl _ _)
          · intro ts W hb hB hp; have h9 : ts 9 = _ := hp 9 (by kernel_rfl); intro K hK; simp only [fillT, Nat.zero_add, Nat.reduceAdd, List.setIfInBounds_toArray, List.set_cons_zero, List.set_cons_succ, h9] at hK ⊢; have HK := Lib.hid hK; clear hK hp; refine ⟨?_⟩; refine wp_load_elem rfl rfl ((H.out.row hc).below hb) hcm (fun v hv => HK.out _ _ (hv) (Below.refl _ _))
          · intro ts W hb hB hp; have h3 := hp 3 (by kernel_rfl); have h10 : IsNum W (ts 10) (G c c) := hp 10 (by kernel_rfl); intro K hK; simp only [fillT, Nat.zero_add, Nat.reduceAdd, List.setIfInBounds_toArray, List.set_cons_zero, List.set_cons_succ] at hK ⊢; have HK := Lib.hid hK; clear hK hp; obtain ⟨u3, e3, n3⟩ := h3; refine ⟨?_⟩; refine wp_invoke rfl (T := 30) (v := u3) (xs := #[u3, ts 10]) e3 inv_Div (by simp [Act.eval]) ?_; refine (divN_k u3 _ (subF G c (solT G k n d) (G c k) (c + 1) d) (G c c) W n3 h10 (Y) (S) hY (HS.out _ _ hc hcm) (by omega) (HT.out.below (below_trans KB2.out hb)) (div_ok (HDG.out c hc))).mono ?_; rintro e W9 ⟨r9, rfl, hr9, hb9⟩; exact HK.out _ _ ⟨r9, rfl, hr9⟩ hb9
          · intro ts W hb hB hp; have h11 := hp 11 (by kernel_rfl); intro K hK; simp only [fillT, Nat.zero_add, Nat.reduceAdd, List.setIfInBounds_toArray, List.set_cons_zero, List.set_cons_succ] at hK ⊢; have HK := Lib.hid hK; clear hK hp; refine ⟨?_⟩; go_simp; exact HK.out _ _ h11 (Below.refl _ _)
          · intro ts W hb hB hp; have h12 := hp 12 (by kernel_rfl); intro K hK; obtain ⟨u12, e12, n12⟩ := h12; simp only [fillT, Nat.zero_add, Nat.reduceAdd, List.setIfInBounds_toArray, List.set_cons_zero, List.set_cons_succ, e12] at hK ⊢; have HK := Lib.hid hK; clear hK hp; refine ⟨?_⟩; go_simp; exact HK.out _ _ n12 (Below.refl _ _)
          · intro ts W hb hB hp; have h12 := hp 12 (by kernel_rfl); intro K hK; obtain ⟨u12, e12, n12⟩ := h12; simp only [fillT, Nat.zero_add, Nat.reduceAdd, List.setIfInBounds_toArray, List.set_cons_zero, List.set_cons_succ, e12] at hK ⊢; have HK := Lib.hid hK; clear hK hp; refine ⟨?_⟩; go_simp; exact HK.out _ _ trivial (Below.refl _ _)
          · intro ts W hb hB hp; have h0 : ts 0 = _ := hp 0 (by kernel_rfl); have h1 : ts 1 = _ := hp 1 (by kernel_rfl); intro K hK; simp only [fillT, Nat.zero_add, Nat.reduceAdd, List.setIfInBounds_toArray, List.set_cons_zero, List.set_cons_succ, h0, h1] at hK ⊢; have HK := Lib.hid hK; clear hK hp; refine ⟨?_⟩; go_simp; exact HK.out _ _ (by simp [kIs, Nat.mul_comm]) (Below.refl _ _)
          · intro ts W hp
            obtain ⟨u12, e12, n12⟩ := hp 12 (kTup ((subF G c (solT G k n d) (G c k) (c + 1) d).div (G c c)) 0) (by simp) (by decide) rfl
            refine ⟨.int .i64 0, fun W9 => ?_⟩
            simp only [fillT, Nat.zero_add, Nat.reduceAdd, List.setIfInBounds_toArray, List.set_cons_zero, List.set_cons_succ, e12]
            rfl
          intro ts W3 hb3 hh hap K hK
          have h13 := held_num (hh 13 (by simp)) rfl
          have e15 := held_is (hh 15 (by simp)) rfl
          have HK := Lib.hid hK
          clear hK hh hap
          simp only [fillT, Nat.zero_add, Nat.reduceAdd, List.setIfInBounds_toArray, List.set_cons_zero, List.set_cons_succ, e15]
          refine ⟨?_⟩
          refine wp_store_elem rfl (k := c) rfl rfl (HX.out.below hb3) hc h13 (fun W4 hbut hext hrow => HK.out _ _ ?_)
          clear e15 h13
          have e4 : n - 1 - d = c := by have := HTT.out; omega
          have M4 := Lib.hid (show NBlk W4 w.heap.size n (solT G k n (n - c)) by rw [show n - c = d + 1 by have := HTT.out; omega, solT, e4]; exact hrow)
          have B4 := Lib.hid (hbut.below (below_trans KB2.out hb3) (Nat.le_refl _))
          clear hbut hext hrow e4 X7 N7 z7 hY hb3
          go_wp2
          go_roundw
          case rel => exact ⟨c, (c : Int) - 1, by go_num, rfl, by omega, M4.out, B4.out⟩
          case measure => simp [intOf] <;> omega
end Go.Proofs.YtmlkpnfjgifgfaaGreatDoor
