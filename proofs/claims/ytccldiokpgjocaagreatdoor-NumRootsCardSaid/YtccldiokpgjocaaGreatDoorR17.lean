import Derived.Test.YtccldiokpgjocaaGreatDoorR07
import Derived.Test.YtccldiokpgjocaaGreatDoorR16
set_option linter.unusedSimpArgs false
set_option linter.unusedVariables false
namespace Go.Proofs.YtccldiokpgjocaaGreatDoor
open Go.RowKit
set_option maxRecDepth 100000
theorem IsInt.zero (w : World) (A : Option Addr) (c : Nat) : IsInt w (.agg #[.slice A 0 c, .bool false]) 0 := ⟨_, by simp, IsNat.zero w A c⟩
theorem dn_one : dn 1 = 0 := rfl
theorem negN_any (v : Value) (x : Cx) (w : World) (h : IsNum w v x) :
    Calls Tryz.prog 39 #[v] w (RetNum w x.neg) := by
  obtain ⟨A1, n1, c1, p1, A2, n2, c2, p2, A3, n3, c3, a, b, d, rfl, hl, hr, hi, hs, -, -, -, -, -⟩ := h.parts
  have HL := hid hl.neg
  have HA := hid (fun W (hb : Below w.heap.size w W) => neg_any _ _ W (hr.below hb))
  have HB := hid (fun W (hb : Below w.heap.size w W) => neg_any _ _ W (hi.below hb))
  have HS := hid hs
  clear hl hr hi hs h
  go_enter Tryz.func39, Tryz.ntmps39
  go_wp2_with fail
  go_region_held3 (fun w' => w'.cell? ⟨w.heap.size, 0, none⟩ = some (.slice A1 n1 c1) ∧ w'.cell? ⟨w.heap.size, 1, none⟩ = some (.bool p1) ∧ w'.cell? ⟨w.heap.size, 2, none⟩ = some (.slice A2 n2 c2) ∧ w'.cell? ⟨w.heap.size, 3, none⟩ = some (.bool p2) ∧ w'.cell? ⟨w.heap.size, 4, none⟩ = some (.slice A3 n3 c3)) (go_keep) (first | (go_at_call 82; (first | ((with_reducible refine (HA.out _ ?_).mono ?_); (exact bel); (rintro e W6 ⟨r6, rfl, hr6, hb6⟩; obtain ⟨A6, n6, c6, rfl, -, -⟩ := hr6.parts; generalize decide (-a < 0) = q6 at *; obtain ⟨hc6, hf6, hz6⟩ := bcells hb6 (w.heap.size + 2) (by simp))) | ((with_reducible refine (HB.out _ ?_).mono ?_); (exact bel); (rintro e W7 ⟨r7, rfl, hr7, hb7⟩; obtain ⟨A7, n7, c7, rfl, -, -⟩ := hr7.parts; generalize decide (-b < 0) = q7 at *; have kb7 : Below W6.heap.size W6 W7 := bel; clear hb7; obtain ⟨hc7, hf7, hz7⟩ := bcells kb7 (w.heap.size + 2) (by omega))))))
  go_wp2
  have B6 : Below w.heap.size w W6 := bel
  have B7 := below_trans B6 kb7
  have NB : NumBox W7 (w.heap.size + 1) := NumBox.of hc7 (by omega) (NumBox.of hc6 (g := w.heap.size + 1) (by omega) (.nil (by simp [go_sem]) (by simp [go_sem]) (by simp [go_sem]) (by simp [go_sem]) (by simp [go_sem])))
  refine bodyPost_ret (v := .agg #[.slice A6 n6 c6, .bool q6, .slice A7 n7 c7, .bool q7, .slice A3 n3 c3]) (by simp [results, Tryz.results39]; exact run_load5 NB _ _ _ _ _) rfl ?_
  exact RetNum.box B7 (by omega) NB (.mk HL.out (hr6.below kb7) hr7 (HS.out.below B7)) _ _ _ _ _
theorem ofN_any (v u : Value) (x y : Cx) (w : World) (h : IsNum w v x) (h' : IsNum w u y) :
    Calls Tryz.prog 198 #[v, u] w (RetNum w y) := by
  obtain ⟨A1, n1, c1, p1, A2, n2, c2, p2, A3, n3, c3, a, b, d, rfl, -⟩ := h.parts
  have H := hid h'
  obtain ⟨A4, n4, c4, p4, A5, n5, c5, p5, A6, n6, c6, a', b', d', rfl, -⟩ := h'.parts
  clear h h'
  go_enter Tryz.func198, Tryz.ntmps198
  go_wp2
  refine bodyPost_ret (v := .agg #[.slice A4 n4 c4, .bool p4, .slice A5 n5 c5, .bool p5, .slice A6 n6 c6]) (by simp [results, Tryz.results198, go_sem]) rfl ?_
  exact RetNum.of bel fun B => H.out.below B
theorem int_any (z : Int) (w : World) (h1 : -9223372036854775808 ≤ z) (h2 : z < 9223372036854775808) :
    Calls Tryz.prog 33 #[.int .i64 z] w (RetNum w (.int z)) := by
  have HF := hid (fun W => fromInt_any z W h1 h2)
  clear h1 h2
  go_enter Tryz.func33, Tryz.ntmps33
  go_wp2_with fail
  refine (HF.out _).mono ?_
  rintro e W5 ⟨v, rfl, hr5, hb5⟩
  obtain ⟨hc5, hf5, hz5⟩ := bcells hb5 (w.heap.size + 1) (by simp)
  obtain ⟨A4, n4, c4, rfl, -, -⟩ := hr5.parts
  generalize decide (z < 0) = p4 at *
  go_wp2
  have NB : NumBox W5 w.heap.size := NumBox.of hc5 (by omega) (.nil (by simp [go_sem]) (by simp [go_sem]) (by simp [go_sem]) (by simp [go_sem]) (by simp [go_sem]))
  refine bodyPost_ret (v := .agg #[.slice A4 n4 c4, .bool p4, .slice none 0 0, .bool false, .slice none 0 0]) (by simp [results, Tryz.results33]; exact run_load5 NB _ _ _ _ _) rfl ?_
  exact RetNum.box bel (by omega) NB (.mk (Low.int z) hr5 (IsInt.zero _ _ _) (IsNat.zero _ _ _)) _ _ _ _ _
theorem reN_any (v : Value) (x : Cx) (w : World) (h : IsNum w v x) (hT : Tab w) (m : Nat) (hx : Sz x m) (hm : m < 549755813888) :
    Calls Tryz.prog 19 #[v] w (RetNum w x.real) := by
  obtain ⟨A1, n1, c1, p1, A2, n2, c2, p2, A3, n3, c3, a, b, d, rfl, hl, hr, hi, hs, -, -, -, -, -⟩ := h.parts
  have hsz := hx _ _ _ hl
  have HC := hid (fun W (hb : Below w.heap.size w W) => lowest_any _ (.agg #[.slice none 0 0, .bool false]) _ _ 0 d _ x.real W (hr.below hb) (IsInt.zero _ _ _) (hs.below hb) (Den.em hl.pos) (real_terms hl).1 (real_terms hl).2 (by omega) (by simp [wl_zero]) (by omega) (hT.below hb))
  clear hl hr hi hs h hx hm hsz hT
  go_enter Tryz.func19, Tryz.ntmps19
  go_wp2_with fail
  refine (HC.out _ bel).mono ?_
  rintro e W5 ⟨v, rfl, hr5, hb5⟩
  obtain ⟨hc5, hf5, hz5⟩ := bcells hb5 (w.heap.size + 2) (by simp)
  obtain ⟨A4, n4, c4, p4, A5, n5, c5, p5, A6, n6, c6, a', b', d', rfl, -⟩ := hr5.parts
  go_wp2
  have NB : NumBox W5 (w.heap.size + 1) := NumBox.of hc5 (by omega) (.nil (by simp [go_sem]) (by simp [go_sem]) (by simp [go_sem]) (by simp [go_sem]) (by simp [go_sem]))
  refine bodyPost_ret (v := .agg #[.slice A4 n4 c4, .bool p4, .slice A5 n5 c5, .bool p5, .slice A6 n6 c6]) (by simp [results, Tryz.results19]; exact run_load5 NB _ _ _ _ _) rfl ?_
  exact RetNum.box bel (by omega) NB hr5 _ _ _ _ _
theorem imN_any (v : Value) (x : Cx) (w : World) (h : IsNum w v x) (hT : Tab w) (m : Nat) (hx : Sz x m) (hm : m < 549755813888) :
    Calls Tryz.prog 34 #[v] w (RetNum w x.imag) := by
  obtain ⟨A1, n1, c1, p1, A2, n2, c2, p2, A3, n3, c3, a, b, d, rfl, hl, hr, hi, hs, -, -, -, -, -⟩ := h.parts
  have hsz := hx _ _ _ hl
  have HC := hid (fun W (hb : Below w.heap.size w W) => lowest_any _ (.agg #[.slice none 0 0, .bool false]) _ _ 0 d _ x.imag W (hi.below hb) (IsInt.zero _ _ _) (hs.below hb) (Den.em hl.pos) (imag_terms hl).1 (imag_terms hl).2 (by omega) (by simp [wl_zero]) (by omega) (hT.below hb))
  clear hl hr hi hs h hx hm hsz hT
  go_enter Tryz.func34, Tryz.ntmps34
  go_wp2_with fail
  refine (HC.out _ bel).mono ?_
  rintro e W5 ⟨v, rfl, hr5, hb5⟩
  obtain ⟨hc5, hf5, hz5⟩ := bcells hb5 (w.heap.size + 2) (by simp)
  obtain ⟨A4, n4, c4, p4, A5, n5, c5, p5, A6, n6, c6, a', b', d', rfl, -⟩ := hr5.parts
  go_wp2
  have NB : NumBox W5 (w.heap.size + 1) := NumBox.of hc5 (by omega) (.nil (by simp [go_sem]) (by simp [go_sem]) (by simp [go_sem]) (by simp [go_sem]) (by simp [go_sem]))
  refine bodyPost_ret (v := .agg #[.slice A4 n4 c4, .bool p4, .slice A5 n5 c5, .bool p5, .slice A6 n6 c6]) (by simp [results, Tryz.results34]; exact run_load5 NB _ _ _ _ _) rfl ?_
  exact RetNum.box bel (by omega) NB hr5 _ _ _ _ _
def sgnR (r : Rat) : Int := r.num.sign
theorem sgnR_of {p : Rat} {a : Int} {d : Nat} (hd : 0 < d) (h : p * (d : Rat) = (a : Rat)) : sgnR p = a.sign := by
  have h1 := congrArg Int.sign (cross (mul_den p) h)
  rw [Int.sign_mul, Int.sign_mul, Int.sign_eq_one_of_pos (by omega : (0 : Int) < (d : Int)), Int.sign_eq_one_of_pos (by have := p.den_pos; omega : (0 : Int) < (p.den : Int)), Int.mul_one, Int.mul_one] at h1
  exact h1
def cmpI (x y : Int) : Int := if x < y then -1 else if x = y then 0 else 1
theorem cmpI_of (x y : Int) : cmpI x y = if decide (x < 0) ≠ decide (y < 0) then ordI (decide (x < 0)) else if decide (x < 0) then cmpN y.natAbs x.natAbs else cmpN x.natAbs y.natAbs := by
  unfold cmpI cmpN ordI
  by_cases hx : x < 0 <;> by_cases hy : y < 0 <;> simp [hx, hy] <;> (repeat' split) <;> omega
theorem compareI_any (v u : Value) (x y : Int) (w : World) (h : IsInt w v x) (h' : IsInt w u y) (hn : wl x.natAbs ≤ 1099511627776) (hm : wl y.natAbs ≤ 1099511627776) :
    Calls Tryz.prog 59 #[v, u] w fun e w' => e = .returned (.int .i64 (cmpI x y)) ∧ Below w.heap.size w w' := by
  rw [cmpI_of]
  obtain ⟨s, rfl, hs⟩ := h
  obtain ⟨A, n, c, rfl, hnn⟩ := hs.ex
  obtain ⟨s', rfl, hs'⟩ := h'
  obtain ⟨A', n', c', rfl, hnn'⟩ := hs'.ex
  clear hnn hnn'
  have HC := hid (fun W (hb : Below w.heap.size w W) => compare_any _ _ _ _ W (hs.below hb) (hs'.below hb) hn hm)
  have HC' := hid (fun W (hb : Below w.heap.size w W) => compare_any _ _ _ _ W (hs'.below hb) (hs.below hb) hm hn)
  have B0 := hid (fun o o2 => below_trans (below_alloc w o) (below_alloc _ o2))
  clear hs hs' hn hm
  generalize cmpN x.natAbs y.natAbs = k at *
  generalize cmpN y.natAbs x.natAbs = k' at *
  cases decide (x < 0) <;> cases decide (y < 0)
  · go_enter Tryz.func59, Tryz.ntmps59
    go_wp2_with (first | (go_at_call 62; refine (HC.out _ (below_trans (below_alloc _ _) (below_alloc _ _))).mono ?_; rintro e w' ⟨rfl, q, rfl⟩) | fail)
    go_ret
    exact ⟨rfl, below_trans (below_trans (below_alloc _ _) (below_alloc _ _)) (below_drewN _ _)⟩
  · go_enter Tryz.func59, Tryz.ntmps59
    go_wp2_with (first | (go_at_call 124; refine (order_any _ _).mono ?_; rintro e w' ⟨rfl, rfl⟩) | fail)
    go_ret
    exact ⟨rfl, below_trans (below_alloc _ _) (below_alloc _ _)⟩
  · go_enter Tryz.func59, Tryz.ntmps59
    go_wp2_with (first | (go_at_call 124; refine (order_any _ _).mono ?_; rintro e w' ⟨rfl, rfl⟩) | fail)
    go_ret
    exact ⟨rfl, below_trans (below_alloc _ _) (below_alloc _ _)⟩
  · go_enter Tryz.func59, Tryz.ntmps59
    go_wp2_with (first | (go_at_call 62; refine (HC'.out _ (below_trans (below_alloc _ _) (below_alloc _ _))).mono ?_; rintro e w' ⟨rfl, q, rfl⟩) | fail)
    go_ret
    exact ⟨rfl, below_trans (below_trans (below_alloc _ _) (below_alloc _ _)) (below_drewN _ _)⟩
theorem sameI_any (v u : Value) (x y : Int) (w : World) (h : IsInt w v x) (h' : IsInt w u y) (hn : wl x.natAbs ≤ 1099511627776) (hm : wl y.natAbs ≤ 1099511627776) :
    Calls Tryz.prog 61 #[v, u] w fun e w' => e = .returned (.bool (decide (x = y))) ∧ Below w.heap.size w w' := by
  have hd : decide (x = y) = if decide (x < 0) ≠ decide (y < 0) then false else decide (cmpN x.natAbs y.natAbs = 0) := by
    rw [Bool.eq_iff_iff]
    unfold cmpN
    by_cases hx : x < 0 <;> by_cases hy : y < 0 <;> simp [hx, hy] <;> (repeat' split) <;> omega
  rw [hd]
  obtain ⟨s, rfl, hs⟩ := h
  obtain ⟨A, n, c, rfl, hnn⟩ := hs.ex
  obtain ⟨s', rfl, hs'⟩ := h'
  obtain ⟨A', n', c', rfl, hnn'⟩ := hs'.ex
  clear hnn hnn'
  have HC := hid (fun W (hb : Below w.heap.size w W) => compare_any _ _ _ _ W (hs.below hb) (hs'.below hb) hn hm)
  clear hs hs' hn hm hd
  generalize cmpN x.natAbs y.natAbs = k at *
  cases decide (x < 0) <;> cases decide (y < 0)
  all_goals
    go_enter Tryz.func61, Tryz.ntmps61
    go_wp2_with (first | (go_at_call 62; refine (HC.out _ (below_trans (below_alloc _ _) (below_alloc _ _))).mono ?_; rintro e w' ⟨rfl, q, rfl⟩) | fail)
    go_ret
    first
      | exact ⟨rfl, below_trans (below_alloc _ _) (below_alloc _ _)⟩
      | exact ⟨by simp; rfl, below_trans (below_trans (below_alloc _ _) (below_alloc _ _)) (below_drewN _ _)⟩
theorem sameN_any (v u : Value) (x y : Cx) (w : World) (h : IsNum w v x) (h' : IsNum w u y) (m : Nat) (hx : Sz x m) (hy : Sz y m) (hm : m < 549755813888) :
    Calls Tryz.prog 23 #[v, u] w fun e w' => e = .returned (.bool (decide (x = y))) ∧ Below w.heap.size w w' := by
  obtain ⟨A1, n1, c1, p1, A2, n2, c2, p2, A3, n3, c3, a, b, d, rfl, hl, hr, hi, hs, -, -, -, -, -⟩ := h.parts
  obtain ⟨A4, n4, c4, p4, A5, n5, c5, p5, A6, n6, c6, a', b', d', rfl, hl', hr', hi', hs', -, -, -, -, -⟩ := h'.parts
  have s1 := hx _ _ _ hl
  have s2 := hy _ _ _ hl'
  have hd : decide (x = y) = (decide (a = a') && decide (b = b') && (cmpN (dn d) (dn d') == 0)) := by
    rw [Bool.eq_iff_iff]
    have hdn : cmpN (dn d) (dn d') = 0 ↔ d = d' := by
      have := hl.pos
      have := hl'.pos
      unfold cmpN dn
      (repeat' split) <;> omega
    simp only [Bool.and_eq_true, decide_eq_true_eq, beq_iff_eq, hdn]
    constructor
    · rintro rfl
      obtain ⟨e1, e2, e3⟩ := hl.uniq hl'
      exact ⟨⟨e1, e2⟩, e3⟩
    · rintro ⟨⟨rfl, rfl⟩, rfl⟩
      exact hl.eq hl'
  rw [hd]
  have w1 : wl (dn d) ≤ wl d := wl_mono (by unfold dn; split <;> omega)
  have w2 : wl (dn d') ≤ wl d' := wl_mono (by unfold dn; split <;> omega)
  have HA := hid (fun W (hb : Below w.heap.size w W) => sameI_any _ _ _ _ W (hr.below hb) (hr'.below hb) (by omega) (by omega))
  have HB := hid (fun W (hb : Below w.heap.size w W) => sameI_any _ _ _ _ W (hi.below hb) (hi'.below hb) (by omega) (by omega))
  have HC := hid (fun W (hb : Below w.heap.size w W) => compare_any _ _ _ _ W (hs.below hb) (hs'.below hb) (by omega) (by omega))
  clear hd w1 w2 s1 s2 hl hl' hr hi hs hr' hi' hs' h h' hx hy
  generalize cmpN (dn d) (dn d') = k at *
  generalize decide (a = a') = p at *
  generalize decide (b = b') = q at *
  cases p
  · go_enter Tryz.func23, Tryz.ntmps23
    go_wp2_with fail
    refine (HA.out _ bel).mono ?_
    rintro e W7 ⟨rfl, hb7⟩
    obtain ⟨hc7, hf7, hz7⟩ := bcells hb7 (w.heap.size + 2) (by simp)
    go_wp2
    go_ret
    exact ⟨by simp, bel⟩
  · cases q
    · go_enter Tryz.func23, Tryz.ntmps23
      go_wp2_with fail
      refine (HA.out _ bel).mono ?_
      rintro e W7 ⟨rfl, hb7⟩
      obtain ⟨hc7, hf7, hz7⟩ := bcells hb7 (w.heap.size + 2) (by simp)
      go_wp2_with fail
      refine (HB.out _ bel).mono ?_
      rintro e W8 ⟨rfl, hb8⟩
      obtain ⟨hc8, hf8, hz8⟩ := bcells hb8 (w.heap.size + 2) (by omega)
      go_wp2
      go_ret
      exact ⟨by simp, bel⟩
    · go_enter Tryz.func23, Tryz.ntmps23
      go_wp2_with fail
      refine (HA.out _ bel).mono ?_
      rintro e W7 ⟨rfl, hb7⟩
      obtain ⟨hc7, hf7, hz7⟩ := bcells hb7 (w.heap.size + 2) (by simp)
      go_wp2_with fail
      refine (HB.out _ bel).mono ?_
      rintro e W8 ⟨rfl, hb8⟩
      obtain ⟨hc8, hf8, hz8⟩ := bcells hb8 (w.heap.size + 2) (by omega)
      have B8 : Below w.heap.size w W8 := bel
      go_wp2_with fail
      refine (HC.out _ B8).mono ?_
      rintro e W9 ⟨rfl, q9, rfl⟩
      go_wp2
      go_ret
      exact ⟨by simp, bel⟩
def cmpC (x y : Cx) : Int := if sgnR (x.re - y.re) ≠ 0 then sgnR (x.re - y.re) else sgnR (x.im - y.im)
theorem cmpI_sign (p q : Int) : cmpI p q = (p - q).sign := by
  unfold cmpI
  rcases Int.lt_trichotomy p q with h | h | h
  · rw [if_pos h, Int.sign_eq_neg_one_of_neg (by omega)]
  · subst h; simp
  · rw [if_neg (by omega), if_neg (by omega), Int.sign_eq_one_of_pos (by omega)]
theorem sub_sgn {p q : Rat} {a a' : Int} {d d' : Nat} (hd : 0 < d) (hd' : 0 < d') (h : p * (d : Rat) = (a : Rat)) (h' : q * (d' : Rat) = (a' : Rat)) : sgnR (p - q) = cmpI (a * d') (a' * d) := by
  rw [cmpI_sign]
  refine sgnR_of (Nat.mul_pos hd hd') ?_
  rw [Rat.natCast_mul, Rat.intCast_sub, Rat.intCast_mul, Rat.intCast_mul, Rat.intCast_natCast, Rat.intCast_natCast]
  grind
theorem cmpN_any' (v u : Value) (x y : Cx) (w : World) (h : IsNum w v x) (h' : IsNum w u y) (m n : Nat) (hx : Sz x m) (hy : Sz y n) (hm : m + n < 549755813888) :
    Calls Tryz.prog 21 #[v, u] w fun e w' => e = .returned (.int .i64 (cmpC x y)) ∧ Below w.heap.size w w' := by
  have HDx := hid (fun W (hb : Below w.heap.size w W) => denominator_any _ _ W (h.below hb))
  have HDy := hid (fun W (hb : Below w.heap.size w W) => denominator_any _ _ W (h'.below hb))
  obtain ⟨A1, n1, c1, p1, A2, n2, c2, p2, A3, n3, c3, a, b, d, rfl, hl, hr, hi, hs, -, -, -, -, -⟩ := h.parts
  obtain ⟨A4, n4, c4, p4, A5, n5, c5, p5, A6, n6, c6, a', b', d', rfl, hl', hr', hi', hs', -, -, -, -, -⟩ := h'.parts
  have s1 := hx _ _ _ hl
  have s2 := hy _ _ _ hl'
  have m1 := wl_imul a d'
  have m2 := wl_imul a' d
  have m3 := wl_imul b d'
  have m4 := wl_imul b' d
  rw [wl_inat] at m1 m2 m3 m4
  have hk : cmpC x y = if cmpI (a * d') (a' * d) ≠ 0 then cmpI (a * d') (a' * d) else cmpI (b * d') (b' * d) := by
    unfold cmpC
    rw [sub_sgn hl.pos hl'.pos hl.2.2.1 hl'.2.2.1, sub_sgn hl.pos hl'.pos hl.2.2.2 hl'.2.2.2]
  have HK := hid hk
  have HD1 := hid (fun W (hb : Below w.heap.size w W) => HDx.out W hb a b d hl)
  have HD2 := hid (fun W (hb : Below w.heap.size w W) => HDy.out W hb a' b' d' hl')
  have HS1 := hid (fun W u (hb : Below w.heap.size w W) (hu : IsNat W u d') => scaleI_any _ u _ _ W (hr.below hb) hu (by omega))
  have HS2 := hid (fun W u (hb : Below w.heap.size w W) (hu : IsNat W u d) => scaleI_any _ u _ _ W (hr'.below hb) hu (by omega))
  have HS3 := hid (fun W u (hb : Below w.heap.size w W) (hu : IsNat W u d') => scaleI_any _ u _ _ W (hi.below hb) hu (by omega))
  have HS4 := hid (fun W u (hb : Below w.heap.size w W) (hu : IsNat W u d) => scaleI_any _ u _ _ W (hi'.below hb) hu (by omega))
  have HC1 := hid (fun W v u (h1 : IsInt W v (a * d')) (h2 : IsInt W u (a' * d)) => compareI_any _ _ _ _ W h1 h2 (by omega) (by omega))
  have HC2 := hid (fun W v u (h1 : IsInt W v (b * d')) (h2 : IsInt W u (b' * d)) => compareI_any _ _ _ _ W h1 h2 (by omega) (by omega))
  clear hk HDx HDy m1 m2 m3 m4 s1 s2 hl hl' hr hi hs hr' hi' hs' h h' hx hy
  generalize cmpI (a * d') (a' * d) = k at *
  generalize cmpI (b * d') (b' * d) = k' at *
  by_cases hk : k = 0
  · skip
    have HK2 := hid hk
    have k1 : (k == 0) = true := by simpa using hk
    have k2 : (k != 0) = false := by simpa using hk
    clear hk
    go_enter Tryz.func21, Tryz.ntmps21
    go_wp2_with fail
    go_region_held3 (fun w' => w'.cell? ⟨w.heap.size, 0, none⟩ = some (.slice A1 n1 c1) ∧ w'.cell? ⟨w.heap.size, 1, none⟩ = some (.bool p1) ∧ w'.cell? ⟨w.heap.size, 2, none⟩ = some (.slice A2 n2 c2) ∧ w'.cell? ⟨w.heap.size, 3, none⟩ = some (.bool p2) ∧ w'.cell? ⟨w.heap.size, 4, none⟩ = some (.slice A3 n3 c3) ∧ w'.cell? ⟨w.heap.size + 1, 0, none⟩ = some (.slice A4 n4 c4) ∧ w'.cell? ⟨w.heap.size + 1, 1, none⟩ = some (.bool p4) ∧ w'.cell? ⟨w.heap.size + 1, 2, none⟩ = some (.slice A5 n5 c5) ∧ w'.cell? ⟨w.heap.size + 1, 3, none⟩ = some (.bool p5) ∧ w'.cell? ⟨w.heap.size + 1, 4, none⟩ = some (.slice A6 n6 c6)) (go_keep) (first | (go_at_call 43; (first | ((with_reducible refine (HD1.out _ ?_).mono ?_); (exact bel); (rintro e W7 ⟨r7, rfl, hr7, hb7⟩; obtain ⟨A7, n7, c7, rfl, hnn7⟩ := hr7.ex; clear hnn7; obtain ⟨hc7, hf7, hz7⟩ := bcells hb7 (w.heap.size + 2) (by simp))) | ((with_reducible refine (HD2.out _ ?_).mono ?_); (exact bel); (rintro e W8 ⟨r8, rfl, hr8, hb8⟩; obtain ⟨A8, n8, c8, rfl, hnn8⟩ := hr8.ex; clear hnn8; have kb8 : Below W7.heap.size W7 W8 := bel; clear hb8; obtain ⟨hc8, hf8, hz8⟩ := bcells kb8 (w.heap.size + 2) (by omega))))))
    go_wp2_with fail
    have B7 : Below w.heap.size w W7 := bel
    have B8 := below_trans B7 kb8
    have f00 : W8.cell? ⟨w.heap.size, 0, none⟩ = some (.slice A1 n1 c1) := (hc8 _ _ (by omega)).trans ((hc7 _ _ (by omega)).trans (by simp [go_sem]))
    have f01 : W8.cell? ⟨w.heap.size, 1, none⟩ = some (.bool p1) := (hc8 _ _ (by omega)).trans ((hc7 _ _ (by omega)).trans (by simp [go_sem]))
    have f02 : W8.cell? ⟨w.heap.size, 2, none⟩ = some (.slice A2 n2 c2) := (hc8 _ _ (by omega)).trans ((hc7 _ _ (by omega)).trans (by simp [go_sem]))
    have f03 : W8.cell? ⟨w.heap.size, 3, none⟩ = some (.bool p2) := (hc8 _ _ (by omega)).trans ((hc7 _ _ (by omega)).trans (by simp [go_sem]))
    have f04 : W8.cell? ⟨w.heap.size, 4, none⟩ = some (.slice A3 n3 c3) := (hc8 _ _ (by omega)).trans ((hc7 _ _ (by omega)).trans (by simp [go_sem]))
    have f10 : W8.cell? ⟨w.heap.size + 1, 0, none⟩ = some (.slice A4 n4 c4) := (hc8 _ _ (by omega)).trans ((hc7 _ _ (by omega)).trans (by simp [go_sem]))
    have f11 : W8.cell? ⟨w.heap.size + 1, 1, none⟩ = some (.bool p4) := (hc8 _ _ (by omega)).trans ((hc7 _ _ (by omega)).trans (by simp [go_sem]))
    have f12 : W8.cell? ⟨w.heap.size + 1, 2, none⟩ = some (.slice A5 n5 c5) := (hc8 _ _ (by omega)).trans ((hc7 _ _ (by omega)).trans (by simp [go_sem]))
    have f13 : W8.cell? ⟨w.heap.size + 1, 3, none⟩ = some (.bool p5) := (hc8 _ _ (by omega)).trans ((hc7 _ _ (by omega)).trans (by simp [go_sem]))
    have f14 : W8.cell? ⟨w.heap.size + 1, 4, none⟩ = some (.slice A6 n6 c6) := (hc8 _ _ (by omega)).trans ((hc7 _ _ (by omega)).trans (by simp [go_sem]))
    have hr7 := hr7.below kb8
    clear hc7 hf7 hc8 hf8
    go_region_held3 (fun w' => w'.cell? ⟨w.heap.size, 0, none⟩ = some (.slice A1 n1 c1) ∧ w'.cell? ⟨w.heap.size, 1, none⟩ = some (.bool p1) ∧ w'.cell? ⟨w.heap.size + 1, 0, none⟩ = some (.slice A4 n4 c4) ∧ w'.cell? ⟨w.heap.size + 1, 1, none⟩ = some (.bool p4)) (go_keep) (first | (go_at_call 58; (first | ((with_reducible refine (HS1.out _ _ ?_ ?_).mono ?_); (exact bel); (exact hr8.below bel); (rintro e W10 ⟨r10, rfl, hr10, hb10⟩; obtain ⟨A10, n10, c10, rfl, -, -⟩ := hr10.parts; generalize decide (a * (d' : Int) < 0) = q10 at *; have kb10 : Below W8.heap.size W8 W10 := bel; clear hb10; obtain ⟨hc10, hf10, hz10⟩ := bcells kb10 (w.heap.size + 2) (by omega))) | ((with_reducible refine (HS2.out _ _ ?_ ?_).mono ?_); (exact bel); (exact hr7.below bel); (rintro e W11 ⟨r11, rfl, hr11, hb11⟩; obtain ⟨A11, n11, c11, rfl, -, -⟩ := hr11.parts; generalize decide (a' * (d : Int) < 0) = q11 at *; have kb11 : Below W10.heap.size W10 W11 := bel; clear hb11; obtain ⟨hc11, hf11, hz11⟩ := bcells kb11 (w.heap.size + 2) (by omega))))) | (go_at_call 59; (first | ((with_reducible refine (HC1.out _ _ _ ?_ ?_).mono ?_); (exact hr10.below bel); (exact hr11.below bel); (rintro e W12 ⟨rfl, hb12⟩; have kb12 : Below W11.heap.size W11 W12 := bel; clear hb12; obtain ⟨hc12, hf12, hz12⟩ := bcells kb12 (w.heap.size + 2) (by omega))))))
    go_wp2_with fail
    have g02 : W12.cell? ⟨w.heap.size, 2, none⟩ = some (.slice A2 n2 c2) := (hc12 _ _ (by omega)).trans ((hc11 _ _ (by omega)).trans ((hc10 _ _ (by omega)).trans f02))
    have g03 : W12.cell? ⟨w.heap.size, 3, none⟩ = some (.bool p2) := (hc12 _ _ (by omega)).trans ((hc11 _ _ (by omega)).trans ((hc10 _ _ (by omega)).trans f03))
    have g12 : W12.cell? ⟨w.heap.size + 1, 2, none⟩ = some (.slice A5 n5 c5) := (hc12 _ _ (by omega)).trans ((hc11 _ _ (by omega)).trans ((hc10 _ _ (by omega)).trans f12))
    have g13 : W12.cell? ⟨w.heap.size + 1, 3, none⟩ = some (.bool p5) := (hc12 _ _ (by omega)).trans ((hc11 _ _ (by omega)).trans ((hc10 _ _ (by omega)).trans f13))
    have B12 := below_trans (below_trans (below_trans B8 kb10) kb11) kb12
    have hr7 := hr7.below (below_trans (below_trans kb10 kb11) kb12)
    have hr8 := hr8.below (below_trans (below_trans kb10 kb11) kb12)
    clear hc10 hc11 hc12 hf10 hf11 hf12 f00 f01 f02 f03 f04 f10 f11 f12 f13 f14 kb10 kb11 kb12 B8 B7
    go_region_held3 (fun w' => w'.cell? ⟨w.heap.size, 2, none⟩ = some (.slice A2 n2 c2) ∧ w'.cell? ⟨w.heap.size, 3, none⟩ = some (.bool p2) ∧ w'.cell? ⟨w.heap.size + 1, 2, none⟩ = some (.slice A5 n5 c5) ∧ w'.cell? ⟨w.heap.size + 1, 3, none⟩ = some (.bool p5)) (go_keep) (first | (go_at_call 58; (first | ((with_reducible refine (HS3.out _ _ ?_ ?_).mono ?_); (exact bel); (exact hr8.below bel); (rintro e W20 ⟨r20, rfl, hr20, hb20⟩; obtain ⟨A20, n20, c20, rfl, -, -⟩ := hr20.parts; generalize decide (b * (d' : Int) < 0) = q20 at *; have kb20 : Below W12.heap.size W12 W20 := bel; clear hb20; obtain ⟨hc20, hf20, hz20⟩ := bcells kb20 (w.heap.size + 2) (by omega))) | ((with_reducible refine (HS4.out _ _ ?_ ?_).mono ?_); (exact bel); (exact hr7.below bel); (rintro e W21 ⟨r21, rfl, hr21, hb21⟩; obtain ⟨A21, n21, c21, rfl, -, -⟩ := hr21.parts; generalize decide (b' * (d : Int) < 0) = q21 at *; have kb21 : Below W20.heap.size W20 W21 := bel; clear hb21; obtain ⟨hc21, hf21, hz21⟩ := bcells kb21 (w.heap.size + 2) (by omega))))) | (go_at_call 59; (first | ((with_reducible refine (HC2.out _ _ _ ?_ ?_).mono ?_); (exact hr20.below bel); (exact hr21.below bel); (rintro e W22 ⟨rfl, hb22⟩; have kb22 : Below W21.heap.size W21 W22 := bel; clear hb22; obtain ⟨hc22, hf22, hz22⟩ := bcells kb22 (w.heap.size + 2) (by omega))))))
    go_wp2
    go_ret
    exact ⟨by rw [HK.out, if_neg (by simp [HK2.out])]; rfl, below_trans (below_trans (below_trans B12 kb20) kb21) kb22⟩
  · skip
    have HK2 := hid hk
    have k1 : (k == 0) = false := by simpa using hk
    have k2 : (k != 0) = true := by simpa using hk
    clear hk
    go_enter Tryz.func21, Tryz.ntmps21
    go_wp2_with fail
    go_region_held3 (fun w' => w'.cell? ⟨w.heap.size, 0, none⟩ = some (.slice A1 n1 c1) ∧ w'.cell? ⟨w.heap.size, 1, none⟩ = some (.bool p1) ∧ w'.cell? ⟨w.heap.size, 2, none⟩ = some (.slice A2 n2 c2) ∧ w'.cell? ⟨w.heap.size, 3, none⟩ = some (.bool p2) ∧ w'.cell? ⟨w.heap.size, 4, none⟩ = some (.slice A3 n3 c3) ∧ w'.cell? ⟨w.heap.size + 1, 0, none⟩ = some (.slice A4 n4 c4) ∧ w'.cell? ⟨w.heap.size + 1, 1, none⟩ = some (.bool p4) ∧ w'.cell? ⟨w.heap.size + 1, 2, none⟩ = some (.slice A5 n5 c5) ∧ w'.cell? ⟨w.heap.size + 1, 3, none⟩ = some (.bool p5) ∧ w'.cell? ⟨w.heap.size + 1, 4, none⟩ = some (.slice A6 n6 c6)) (go_keep) (first | (go_at_call 43; (first | ((with_reducible refine (HD1.out _ ?_).mono ?_); (exact bel); (rintro e W7 ⟨r7, rfl, hr7, hb7⟩; obtain ⟨A7, n7, c7, rfl, hnn7⟩ := hr7.ex; clear hnn7; obtain ⟨hc7, hf7, hz7⟩ := bcells hb7 (w.heap.size + 2) (by simp))) | ((with_reducible refine (HD2.out _ ?_).mono ?_); (exact bel); (rintro e W8 ⟨r8, rfl, hr8, hb8⟩; obtain ⟨A8, n8, c8, rfl, hnn8⟩ := hr8.ex; clear hnn8; have kb8 : Below W7.heap.size W7 W8 := bel; clear hb8; obtain ⟨hc8, hf8, hz8⟩ := bcells kb8 (w.heap.size + 2) (by omega))))))
    go_wp2_with fail
    have B7 : Below w.heap.size w W7 := bel
    have B8 := below_trans B7 kb8
    have f00 : W8.cell? ⟨w.heap.size, 0, none⟩ = some (.slice A1 n1 c1) := (hc8 _ _ (by omega)).trans ((hc7 _ _ (by omega)).trans (by simp [go_sem]))
    have f01 : W8.cell? ⟨w.heap.size, 1, none⟩ = some (.bool p1) := (hc8 _ _ (by omega)).trans ((hc7 _ _ (by omega)).trans (by simp [go_sem]))
    have f02 : W8.cell? ⟨w.heap.size, 2, none⟩ = some (.slice A2 n2 c2) := (hc8 _ _ (by omega)).trans ((hc7 _ _ (by omega)).trans (by simp [go_sem]))
    have f03 : W8.cell? ⟨w.heap.size, 3, none⟩ = some (.bool p2) := (hc8 _ _ (by omega)).trans ((hc7 _ _ (by omega)).trans (by simp [go_sem]))
    have f04 : W8.cell? ⟨w.heap.size, 4, none⟩ = some (.slice A3 n3 c3) := (hc8 _ _ (by omega)).trans ((hc7 _ _ (by omega)).trans (by simp [go_sem]))
    have f10 : W8.cell? ⟨w.heap.size + 1, 0, none⟩ = some (.slice A4 n4 c4) := (hc8 _ _ (by omega)).trans ((hc7 _ _ (by omega)).trans (by simp [go_sem]))
    have f11 : W8.cell? ⟨w.heap.size + 1, 1, none⟩ = some (.bool p4) := (hc8 _ _ (by omega)).trans ((hc7 _ _ (by omega)).trans (by simp [go_sem]))
    have f12 : W8.cell? ⟨w.heap.size + 1, 2, none⟩ = some (.slice A5 n5 c5) := (hc8 _ _ (by omega)).trans ((hc7 _ _ (by omega)).trans (by simp [go_sem]))
    have f13 : W8.cell? ⟨w.heap.size + 1, 3, none⟩ = some (.bool p5) := (hc8 _ _ (by omega)).trans ((hc7 _ _ (by omega)).trans (by simp [go_sem]))
    have f14 : W8.cell? ⟨w.heap.size + 1, 4, none⟩ = some (.slice A6 n6 c6) := (hc8 _ _ (by omega)).trans ((hc7 _ _ (by omega)).trans (by simp [go_sem]))
    have hr7 := hr7.below kb8
    clear hc7 hf7 hc8 hf8
    go_region_held3 (fun w' => w'.cell? ⟨w.heap.size, 0, none⟩ = some (.slice A1 n1 c1) ∧ w'.cell? ⟨w.heap.size, 1, none⟩ = some (.bool p1) ∧ w'.cell? ⟨w.heap.size + 1, 0, none⟩ = some (.slice A4 n4 c4) ∧ w'.cell? ⟨w.heap.size + 1, 1, none⟩ = some (.bool p4)) (go_keep) (first | (go_at_call 58; (first | ((with_reducible refine (HS1.out _ _ ?_ ?_).mono ?_); (exact bel); (exact hr8.below bel); (rintro e W10 ⟨r10, rfl, hr10, hb10⟩; obtain ⟨A10, n10, c10, rfl, -, -⟩ := hr10.parts; generalize decide (a * (d' : Int) < 0) = q10 at *; have kb10 : Below W8.heap.size W8 W10 := bel; clear hb10; obtain ⟨hc10, hf10, hz10⟩ := bcells kb10 (w.heap.size + 2) (by omega))) | ((with_reducible refine (HS2.out _ _ ?_ ?_).mono ?_); (exact bel); (exact hr7.below bel); (rintro e W11 ⟨r11, rfl, hr11, hb11⟩; obtain ⟨A11, n11, c11, rfl, -, -⟩ := hr11.parts; generalize decide (a' * (d : Int) < 0) = q11 at *; have kb11 : Below W10.heap.size W10 W11 := bel; clear hb11; obtain ⟨hc11, hf11, hz11⟩ := bcells kb11 (w.heap.size + 2) (by omega))))) | (go_at_call 59; (first | ((with_reducible refine (HC1.out _ _ _ ?_ ?_).mono ?_); (exact hr10.below bel); (exact hr11.below bel); (rintro e W12 ⟨rfl, hb12⟩; have kb12 : Below W11.heap.size W11 W12 := bel; clear hb12; obtain ⟨hc12, hf12, hz12⟩ := bcells kb12 (w.heap.size + 2) (by omega))))))
    go_wp2
    go_ret
    exact ⟨by rw [HK.out, if_pos HK2.out]; rfl, below_trans (below_trans (below_trans B8 kb10) kb11) kb12⟩
end Go.Proofs.YtccldiokpgjocaaGreatDoor
