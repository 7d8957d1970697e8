/- Walks of numbers: adding. -/
import Derived.Test.YtlljeccfhmojnaaGreatDoorG19
set_option linter.unusedSimpArgs false
set_option linter.unusedVariables false
namespace Go.Proofs.YtlljeccfhmojnaaGreatDoor
open Go.RowKit
set_option maxRecDepth 100000

theorem wl_dn' (d : Nat) : wl (dn d) ≤ wl d := wl_mono (by unfold dn; split <;> omega)
/-- What the terms of a sum have in common divides what the denominators have in common. -/
theorem add_common {x y : Cx} {a b a' b' : Int} {d d' : Nat} (h : Low x a b d) (h' : Low y a' b' d') :
    gcd3 (a * ((d' / Nat.gcd d d' : Nat) : Int) + a' * ((d / Nat.gcd d d' : Nat) : Int)) (b * ((d' / Nat.gcd d d' : Nat) : Int) + b' * ((d / Nat.gcd d d' : Nat) : Int)) (d / Nat.gcd d d' * d') ∣ Nat.gcd d d' := by
  have hd := h.pos
  have hd' := h'.pos
  have hg : 0 < Nat.gcd d d' := Nat.gcd_pos_of_pos_left _ hd
  obtain ⟨u, hu⟩ := Nat.gcd_dvd_left d d'
  obtain ⟨v, hv⟩ := Nat.gcd_dvd_right d d'
  have huv : Nat.gcd u v = 1 := by
    have := Nat.gcd_mul_left (Nat.gcd d d') u v
    rw [← hu, ← hv] at this
    exact Nat.eq_of_mul_eq_mul_left hg (by omega)
  generalize Nat.gcd d d' = g at *
  have e1 : d / g = u := by rw [hu]; exact Nat.mul_div_cancel_left _ hg
  have e2 : d' / g = v := by rw [hv]; exact Nat.mul_div_cancel_left _ hg
  rw [e1, e2]
  obtain ⟨k1, k2, k3⟩ := gcd3_dvd (a * (v : Int) + a' * (u : Int)) (b * (v : Int) + b' * (u : Int)) (u * d')
  generalize gcd3 (a * (v : Int) + a' * (u : Int)) (b * (v : Int) + b' * (u : Int)) (u * d') = k at *
  have one : ∀ (p q : Int) (r s : Nat) (c : Nat), c ∣ k → c ∣ r → Nat.gcd r s = 1 → (k : Int) ∣ p * (s : Int) + q * (r : Int) → (c : Int) ∣ p := by
    intro p q r s c c1 c2 c3 c4
    have hs : (c : Int) ∣ p * (s : Int) := by
      have t1 : (c : Int) ∣ p * (s : Int) + q * (r : Int) := Int.dvd_trans (Int.ofNat_dvd.2 c1) c4
      have t2 : (c : Int) ∣ q * (r : Int) := Int.dvd_trans (Int.ofNat_dvd.2 c2) (Int.dvd_mul_left _ _)
      exact (Int.dvd_add_left t2).1 t1
    have hs' : c ∣ p.natAbs * s := by
      have := Int.natAbs_dvd_natAbs.2 hs
      rwa [Int.natAbs_natCast, Int.natAbs_mul, Int.natAbs_natCast] at this
    have hcs : Nat.Coprime c s := Nat.Coprime.coprime_dvd_left c2 c3
    exact Int.ofNat_dvd_left.2 (hcs.dvd_of_dvd_mul_right hs')
  have cu : Nat.Coprime k u := by
    have c1 := Nat.gcd_dvd_left k u
    have c2 := Nat.gcd_dvd_right k u
    have t1 := one a a' u v _ c1 c2 huv k2
    have t2 := one b b' u v _ c1 c2 huv k3
    have t3 : Nat.gcd k u ∣ d := by rw [hu]; exact Nat.dvd_trans c2 ⟨g, Nat.mul_comm _ _⟩
    have t4 := Nat.dvd_gcd (Nat.dvd_gcd t3 (Int.ofNat_dvd_left.1 t1)) (Int.ofNat_dvd_left.1 t2)
    rw [h.2.1] at t4
    exact Nat.dvd_one.1 t4
  have cv : Nat.Coprime k v := by
    have c1 := Nat.gcd_dvd_left k v
    have c2 := Nat.gcd_dvd_right k v
    have t1 := one a' a v u _ c1 c2 (by rw [Nat.gcd_comm]; exact huv) (by rw [Int.add_comm]; exact k2)
    have t2 := one b' b v u _ c1 c2 (by rw [Nat.gcd_comm]; exact huv) (by rw [Int.add_comm]; exact k3)
    have t3 : Nat.gcd k v ∣ d' := by rw [hv]; exact Nat.dvd_trans c2 ⟨g, Nat.mul_comm _ _⟩
    have t4 := Nat.dvd_gcd (Nat.dvd_gcd t3 (Int.ofNat_dvd_left.1 t1)) (Int.ofNat_dvd_left.1 t2)
    rw [h'.2.1] at t4
    exact Nat.dvd_one.1 t4
  have hk : k ∣ u * (v * g) := by rw [Nat.mul_comm v g, ← hv]; exact k1
  exact cv.dvd_of_dvd_mul_left (cu.dvd_of_dvd_mul_left hk)
theorem add_terms' {x y : Cx} {a b a' b' : Int} {d d' : Nat} (h : Low x a b d) (h' : Low y a' b' d') :
    (x.add y).re * ((d / Nat.gcd d d' * d' : Nat) : Rat) = ((a * ((d' / Nat.gcd d d' : Nat) : Int) + a' * ((d / Nat.gcd d d' : Nat) : Int) : Int) : Rat) ∧
    (x.add y).im * ((d / Nat.gcd d d' * d' : Nat) : Rat) = ((b * ((d' / Nat.gcd d d' : Nat) : Int) + b' * ((d / Nat.gcd d d' : Nat) : Int) : Int) : Rat) := by
  have hd := h.pos
  have hg : 0 < Nat.gcd d d' := Nat.gcd_pos_of_pos_left _ hd
  obtain ⟨u, hu⟩ := Nat.gcd_dvd_left d d'
  obtain ⟨v, hv⟩ := Nat.gcd_dvd_right d d'
  obtain ⟨-, -, h1, h2⟩ := h
  obtain ⟨-, -, h1', h2'⟩ := h'
  generalize Nat.gcd d d' = g at *
  have e1 : d / g = u := by rw [hu]; exact Nat.mul_div_cancel_left _ hg
  have e2 : d' / g = v := by rw [hv]; exact Nat.mul_div_cancel_left _ hg
  have c1 : (d : Rat) = (g : Rat) * (u : Rat) := by rw [hu, Rat.natCast_mul]
  have c2 : (d' : Rat) = (g : Rat) * (v : Rat) := by rw [hv, Rat.natCast_mul]
  rw [e1, e2]
  simp only [Cx.add, Rat.natCast_mul, Rat.intCast_add, Rat.intCast_mul, Rat.intCast_natCast]
  constructor <;> grind
theorem zero_add_ (x : Cx) : Cx.zero.add x = x := Cx.ext (Rat.zero_add _) (Rat.zero_add _)
theorem add_zero_ (x : Cx) : x.add Cx.zero = x := Cx.ext (Rat.add_zero _) (Rat.add_zero _)

theorem addN_0x (v u : Value) (x y : Cx) (w : World) (h : IsNum w v x) (h' : IsNum w u y) (m n : Nat) (hx : Sz x m) (hy : Sz y n) (hm : m + n + 1 < 549755813888) (hT : Tab w) (h0 : x = .zero) :
    Calls Tryz.prog 15 #[v, u] w (RetNum w (x.add y)) := by
  have HX := Lib.hid (fun W (hb : Below w.heap.size w W) => h.below hb)
  have HY := Lib.hid (fun W (hb : Below w.heap.size w W) => h'.below hb)
  have c1 := fun W (hb : Below w.heap.size w W) => clear_any _ _ W (h.below hb)
  have c2 := fun W (hb : Below w.heap.size w W) => clear_any _ _ W (h'.below hb)
  rw [decide_eq_true h0] at c1
  subst h0
  rw [zero_add_]
  have HC1 := Lib.hid c1
  obtain ⟨A1, n1, c1, p1, A2, n2, c2, p2, A3, n3, c3, a, b, d, rfl, hl, hr, hi, hs, hn3, -, -, -, -⟩ := h.parts
  obtain ⟨A4, n4, c4, p4, A5, n5, c5, p5, A6, n6, c6, a', b', d', rfl, hl', hr', hi', hs', hn6, -, -, -, -⟩ := h'.parts
  clear c1 c2 h h' hx hy hm hT hl hr hi hs hn3 hl' hr' hi' hs' hn6
  go_enter Tryz.func15, Tryz.ntmps15
  go_upto_region 1 with fail
  obtain ⟨W1, hW1⟩ : ∃ W1 : World, W1 = (((w.alloc (.cells #[.slice A1 n1 c1, .bool p1, .slice A2 n2 c2, .bool p2, .slice A3 n3 c3] 27)).alloc (.cells #[.slice A4 n4 c4, .bool p4, .slice A5 n5 c5, .bool p5, .slice A6 n6 c6] 27)).alloc (.cells #[.slice none 0 0, .bool false, .slice none 0 0, .bool false, .slice none 0 0] 27)) := ⟨_, rfl⟩
  rw [← hW1]
  have B1 : Below w.heap.size w W1 := by rw [hW1]; exact (by (repeat (first | exact Below.refl _ _ | assumption | with_reducible refine Below.drew ?_ | with_reducible refine below_trans ?_ (below_alloc _ _) | with_reducible refine below_trans ?_ (below_drewN _ _) | with_reducible refine Below.setCell ?_ (by simp <;> omega) _ | refine below_trans ?_ (by assumption))))
  have hz1 : w.heap.size + 3 ≤ W1.heap.size := by rw [hW1]; simp
  obtain ⟨f0_0, f0_1, f0_2, f0_3, f0_4, yf0_0, yf0_1, yf0_2, yf0_3, yf0_4⟩ : Bx5 W1 (w.heap.size) (.slice A1 n1 c1) (.bool p1) (.slice A2 n2 c2) (.bool p2) (.slice A3 n3 c3) := by rw [hW1]; simp [Bx5, go_sem]
  obtain ⟨f1_0, f1_1, f1_2, f1_3, f1_4, yf1_0, yf1_1, yf1_2, yf1_3, yf1_4⟩ : Bx5 W1 (w.heap.size + 1) (.slice A4 n4 c4) (.bool p4) (.slice A5 n5 c5) (.bool p5) (.slice A6 n6 c6) := by rw [hW1]; simp [Bx5, go_sem]
  obtain ⟨f2_0, f2_1, f2_2, f2_3, f2_4, yf2_0, yf2_1, yf2_2, yf2_3, yf2_4⟩ : Bx5 W1 (w.heap.size + 1 + 1) (.slice none 0 0) (.bool false) (.slice none 0 0) (.bool false) (.slice none 0 0) := by rw [hW1]; simp [Bx5, go_sem]
  clear hW1
  go_wp2_with fail
  refine (HC1.out _ B1).mono ?_
  rintro e W7 ⟨rfl, hb7⟩
  have B7 := below_trans B1 hb7
  have hK7 := (Kept.refl W1 (Nat.le_refl _)).below hb7
  have hz7 : W1.heap.size ≤ W7.heap.size := hK7.2.2.1
  obtain ⟨g0_0, g0_1, g0_2, g0_3, g0_4, yg0_0, yg0_1, yg0_2, yg0_3, yg0_4⟩ := hK7.k5 (b := w.heap.size) (by omega) f0_0 f0_1 f0_2 f0_3 f0_4 yf0_0 yf0_1 yf0_2 yf0_3 yf0_4
  obtain ⟨g1_0, g1_1, g1_2, g1_3, g1_4, yg1_0, yg1_1, yg1_2, yg1_3, yg1_4⟩ := hK7.k5 (b := w.heap.size + 1) (by omega) f1_0 f1_1 f1_2 f1_3 f1_4 yf1_0 yf1_1 yf1_2 yf1_3 yf1_4
  obtain ⟨g2_0, g2_1, g2_2, g2_3, g2_4, yg2_0, yg2_1, yg2_2, yg2_3, yg2_4⟩ := hK7.k5 (b := w.heap.size + 1 + 1) (by omega) f2_0 f2_1 f2_2 f2_3 f2_4 yf2_0 yf2_1 yf2_2 yf2_3 yf2_4
  clear hK7 hb7 f0_0 yf0_0 f0_1 yf0_1 f0_2 yf0_2 f0_3 yf0_3 f0_4 yf0_4 f1_0 yf1_0 f1_1 yf1_1 f1_2 yf1_2 f1_3 yf1_3 f1_4 yf1_4 f2_0 yf2_0 f2_1 yf2_1 f2_2 yf2_2 f2_3 yf2_3 f2_4 yf2_4
  have lt0_0 : w.heap.size < W7.heap.size := (by omega)
  have lt0_1 : w.heap.size + 1 < W7.heap.size := (by omega)
  have lt0_2 : w.heap.size + 1 + 1 < W7.heap.size := (by omega)
  have ne0_0_0 : w.heap.size ≠ W7.heap.size := (by omega)
  have en0_0_0 : W7.heap.size ≠ w.heap.size := (by omega)
  have ne0_1_0 : w.heap.size + 1 ≠ W7.heap.size := (by omega)
  have en0_1_0 : W7.heap.size ≠ w.heap.size + 1 := (by omega)
  have ne0_2_0 : w.heap.size + 1 + 1 ≠ W7.heap.size := (by omega)
  have en0_2_0 : W7.heap.size ≠ w.heap.size + 1 + 1 := (by omega)
  have nr_0 : w.heap.size + 1 + 1 ≠ w.heap.size := (by omega)
  have mr_0 : w.heap.size ≠ w.heap.size + 1 + 1 := (by omega)
  have nr_1 : w.heap.size + 1 + 1 ≠ w.heap.size + 1 := (by omega)
  have mr_1 : w.heap.size + 1 ≠ w.heap.size + 1 + 1 := (by omega)
  go_wp2
  have NB : NumBox W7 (w.heap.size + 1 + 1) := .nil g2_0 g2_1 g2_2 g2_3 g2_4
  refine bodyPost_ret (v := .agg #[.slice A4 n4 c4, .bool p4, .slice A5 n5 c5, .bool p5, .slice A6 n6 c6]) (by simp [results, Tryz.results15]; exact run_load5 NB _ _ _ _ _) rfl ?_
  exact RetNum.box B7 (by omega) NB (HY.out _ B7) _ _ _ _ _

theorem addN_0y (v u : Value) (x y : Cx) (w : World) (h : IsNum w v x) (h' : IsNum w u y) (m n : Nat) (hx : Sz x m) (hy : Sz y n) (hm : m + n + 1 < 549755813888) (hT : Tab w) (h1 : x ≠ .zero) (h0 : y = .zero) :
    Calls Tryz.prog 15 #[v, u] w (RetNum w (x.add y)) := by
  have HX := Lib.hid (fun W (hb : Below w.heap.size w W) => h.below hb)
  have HY := Lib.hid (fun W (hb : Below w.heap.size w W) => h'.below hb)
  have c1 := fun W (hb : Below w.heap.size w W) => clear_any _ _ W (h.below hb)
  have c2 := fun W (hb : Below w.heap.size w W) => clear_any _ _ W (h'.below hb)
  rw [decide_eq_false h1] at c1
  rw [decide_eq_true h0] at c2
  subst h0
  rw [add_zero_]
  have HC1 := Lib.hid c1
  have HC2 := Lib.hid c2
  obtain ⟨A1, n1, c1, p1, A2, n2, c2, p2, A3, n3, c3, a, b, d, rfl, hl, hr, hi, hs, hn3, -, -, -, -⟩ := h.parts
  obtain ⟨A4, n4, c4, p4, A5, n5, c5, p5, A6, n6, c6, a', b', d', rfl, hl', hr', hi', hs', hn6, -, -, -, -⟩ := h'.parts
  clear c1 c2 h1 h h' hx hy hm hT hl hr hi hs hn3 hl' hr' hi' hs' hn6
  go_enter Tryz.func15, Tryz.ntmps15
  go_upto_region 1 with fail
  obtain ⟨W1, hW1⟩ : ∃ W1 : World, W1 = (((w.alloc (.cells #[.slice A1 n1 c1, .bool p1, .slice A2 n2 c2, .bool p2, .slice A3 n3 c3] 27)).alloc (.cells #[.slice A4 n4 c4, .bool p4, .slice A5 n5 c5, .bool p5, .slice A6 n6 c6] 27)).alloc (.cells #[.slice none 0 0, .bool false, .slice none 0 0, .bool false, .slice none 0 0] 27)) := ⟨_, rfl⟩
  rw [← hW1]
  have B1 : Below w.heap.size w W1 := by rw [hW1]; exact (by (repeat (first | exact Below.refl _ _ | assumption | with_reducible refine Below.drew ?_ | with_reducible refine below_trans ?_ (below_alloc _ _) | with_reducible refine below_trans ?_ (below_drewN _ _) | with_reducible refine Below.setCell ?_ (by simp <;> omega) _ | refine below_trans ?_ (by assumption))))
  have hz1 : w.heap.size + 3 ≤ W1.heap.size := by rw [hW1]; simp
  obtain ⟨f0_0, f0_1, f0_2, f0_3, f0_4, yf0_0, yf0_1, yf0_2, yf0_3, yf0_4⟩ : Bx5 W1 (w.heap.size) (.slice A1 n1 c1) (.bool p1) (.slice A2 n2 c2) (.bool p2) (.slice A3 n3 c3) := by rw [hW1]; simp [Bx5, go_sem]
  obtain ⟨f1_0, f1_1, f1_2, f1_3, f1_4, yf1_0, yf1_1, yf1_2, yf1_3, yf1_4⟩ : Bx5 W1 (w.heap.size + 1) (.slice A4 n4 c4) (.bool p4) (.slice A5 n5 c5) (.bool p5) (.slice A6 n6 c6) := by rw [hW1]; simp [Bx5, go_sem]
  obtain ⟨f2_0, f2_1, f2_2, f2_3, f2_4, yf2_0, yf2_1, yf2_2, yf2_3, yf2_4⟩ : Bx5 W1 (w.heap.size + 1 + 1) (.slice none 0 0) (.bool false) (.slice none 0 0) (.bool false) (.slice none 0 0) := by rw [hW1]; simp [Bx5, go_sem]
  clear hW1
  go_wp2_with fail
  refine (HC1.out _ B1).mono ?_
  rintro e W7 ⟨rfl, hb7⟩
  have B7 := below_trans B1 hb7
  have hK7 := (Kept.refl W1 (Nat.le_refl _)).below hb7
  have hz7 : W1.heap.size ≤ W7.heap.size := hK7.2.2.1
  obtain ⟨g0_0, g0_1, g0_2, g0_3, g0_4, yg0_0, yg0_1, yg0_2, yg0_3, yg0_4⟩ := hK7.k5 (b := w.heap.size) (by omega) f0_0 f0_1 f0_2 f0_3 f0_4 yf0_0 yf0_1 yf0_2 yf0_3 yf0_4
  obtain ⟨g1_0, g1_1, g1_2, g1_3, g1_4, yg1_0, yg1_1, yg1_2, yg1_3, yg1_4⟩ := hK7.k5 (b := w.heap.size + 1) (by omega) f1_0 f1_1 f1_2 f1_3 f1_4 yf1_0 yf1_1 yf1_2 yf1_3 yf1_4
  obtain ⟨g2_0, g2_1, g2_2, g2_3, g2_4, yg2_0, yg2_1, yg2_2, yg2_3, yg2_4⟩ := hK7.k5 (b := w.heap.size + 1 + 1) (by omega) f2_0 f2_1 f2_2 f2_3 f2_4 yf2_0 yf2_1 yf2_2 yf2_3 yf2_4
  clear hK7 hb7 f0_0 yf0_0 f0_1 yf0_1 f0_2 yf0_2 f0_3 yf0_3 f0_4 yf0_4 f1_0 yf1_0 f1_1 yf1_1 f1_2 yf1_2 f1_3 yf1_3 f1_4 yf1_4 f2_0 yf2_0 f2_1 yf2_1 f2_2 yf2_2 f2_3 yf2_3 f2_4 yf2_4
  have lt0_0 : w.heap.size < W7.heap.size := (by omega)
  have lt0_1 : w.heap.size + 1 < W7.heap.size := (by omega)
  have lt0_2 : w.heap.size + 1 + 1 < W7.heap.size := (by omega)
  have ne0_0_0 : w.heap.size ≠ W7.heap.size := (by omega)
  have en0_0_0 : W7.heap.size ≠ w.heap.size := (by omega)
  have ne0_1_0 : w.heap.size + 1 ≠ W7.heap.size := (by omega)
  have en0_1_0 : W7.heap.size ≠ w.heap.size + 1 := (by omega)
  have ne0_2_0 : w.heap.size + 1 + 1 ≠ W7.heap.size := (by omega)
  have en0_2_0 : W7.heap.size ≠ w.heap.size + 1 + 1 := (by omega)
  have nr_0 : w.heap.size + 1 + 1 ≠ w.heap.size := (by omega)
  have mr_0 : w.heap.size ≠ w.heap.size + 1 + 1 := (by omega)
  have nr_1 : w.heap.size + 1 + 1 ≠ w.heap.size + 1 := (by omega)
  have mr_1 : w.heap.size + 1 ≠ w.heap.size + 1 + 1 := (by omega)
  go_wp2_with fail
  refine (HC2.out _ B7).mono ?_
  rintro e W8 ⟨rfl, hb8⟩
  have B8 := below_trans B7 hb8
  have hK8 := (Kept.refl W7 (Nat.le_refl _)).below hb8
  have hz8 : W7.heap.size ≤ W8.heap.size := hK8.2.2.1
  obtain ⟨j0_0, j0_1, j0_2, j0_3, j0_4, yj0_0, yj0_1, yj0_2, yj0_3, yj0_4⟩ := hK8.k5 (b := w.heap.size) (by omega) g0_0 g0_1 g0_2 g0_3 g0_4 yg0_0 yg0_1 yg0_2 yg0_3 yg0_4
  obtain ⟨j1_0, j1_1, j1_2, j1_3, j1_4, yj1_0, yj1_1, yj1_2, yj1_3, yj1_4⟩ := hK8.k5 (b := w.heap.size + 1) (by omega) g1_0 g1_1 g1_2 g1_3 g1_4 yg1_0 yg1_1 yg1_2 yg1_3 yg1_4
  obtain ⟨j2_0, j2_1, j2_2, j2_3, j2_4, yj2_0, yj2_1, yj2_2, yj2_3, yj2_4⟩ := hK8.k5 (b := w.heap.size + 1 + 1) (by omega) g2_0 g2_1 g2_2 g2_3 g2_4 yg2_0 yg2_1 yg2_2 yg2_3 yg2_4
  clear hK8 hb8 g0_0 yg0_0 g0_1 yg0_1 g0_2 yg0_2 g0_3 yg0_3 g0_4 yg0_4 g1_0 yg1_0 g1_1 yg1_1 g1_2 yg1_2 g1_3 yg1_3 g1_4 yg1_4 g2_0 yg2_0 g2_1 yg2_1 g2_2 yg2_2 g2_3 yg2_3 g2_4 yg2_4
  have lt8_0 : w.heap.size < W8.heap.size := (by omega)
  have lt8_1 : w.heap.size + 1 < W8.heap.size := (by omega)
  have lt8_2 : w.heap.size + 1 + 1 < W8.heap.size := (by omega)
  have ne8_0_0 : w.heap.size ≠ W8.heap.size := (by omega)
  have en8_0_0 : W8.heap.size ≠ w.heap.size := (by omega)
  have ne8_1_0 : w.heap.size + 1 ≠ W8.heap.size := (by omega)
  have en8_1_0 : W8.heap.size ≠ w.heap.size + 1 := (by omega)
  have ne8_2_0 : w.heap.size + 1 + 1 ≠ W8.heap.size := (by omega)
  have en8_2_0 : W8.heap.size ≠ w.heap.size + 1 + 1 := (by omega)
  go_wp2
  have NB : NumBox W8 (w.heap.size + 1 + 1) := .nil j2_0 j2_1 j2_2 j2_3 j2_4
  refine bodyPost_ret (v := .agg #[.slice A1 n1 c1, .bool p1, .slice A2 n2 c2, .bool p2, .slice A3 n3 c3]) (by simp [results, Tryz.results15]; exact run_load5 NB _ _ _ _ _) rfl ?_
  exact RetNum.box B8 (by omega) NB (HX.out _ B8) _ _ _ _ _

set_option maxHeartbeats 2000000 in
theorem addN_ww (v u : Value) (x y : Cx) (w : World) (h : IsNum w v x) (h' : IsNum w u y) (m n : Nat) (hx : Sz x m) (hy : Sz y n) (hm : m + n + 1 < 549755813888) (hT : Tab w) (h1 : x ≠ .zero) (h2 : y ≠ .zero) (hdx : ∀ a b d, Low x a b d → d = 1) (hdy : ∀ a b d, Low y a b d → d = 1) :
    Calls Tryz.prog 15 #[v, u] w (RetNum w (x.add y)) := by
  have HX := Lib.hid (fun W (hb : Below w.heap.size w W) => h.below hb)
  have HY := Lib.hid (fun W (hb : Below w.heap.size w W) => h'.below hb)
  have c1 := fun W (hb : Below w.heap.size w W) => clear_any _ _ W (h.below hb)
  have c2 := fun W (hb : Below w.heap.size w W) => clear_any _ _ W (h'.below hb)
  rw [decide_eq_false h1] at c1
  rw [decide_eq_false h2] at c2
  have HC1 := Lib.hid c1
  have HC2 := Lib.hid c2
  obtain ⟨A1, n1, c1, p1, A2, n2, c2, p2, A3, n3, c3, a, b, d, rfl, hl, hr, hi, hs, hn3, -, -, -, -⟩ := h.parts
  obtain ⟨A4, n4, c4, p4, A5, n5, c5, p5, A6, n6, c6, a', b', d', rfl, hl', hr', hi', hs', hn6, -, -, -, -⟩ := h'.parts
  have s1 := hx _ _ _ hl
  have s2 := hy _ _ _ hl'
  have e1 := hdx _ _ _ hl
  have e2 := hdy _ _ _ hl'
  subst e1; subst e2
  rw [dn_one, wl_zero] at hn3 hn6
  have ht := add_terms hl hl'
  have hL : Low (x.add y) (a + a') (b + b') 1 := low_of_one (by simpa using ht.1) (by simpa using ht.2)
  have HL := Lib.hid hL
  have A1' := Lib.hid (fun W (hb : Below w.heap.size w W) => addI_any _ _ _ _ W (hr.below hb) (hr'.below hb) (by omega) (by omega))
  have A2' := Lib.hid (fun W (hb : Below w.heap.size w W) => addI_any _ _ _ _ W (hi.below hb) (hi'.below hb) (by omega) (by omega))
  subst hn3; subst hn6
  clear c1 c2 h1 h2 hdx hdy s1 s2 ht hL h h' hx hy hm hT hl hr hi hs hl' hr' hi' hs'
  go_enter Tryz.func15, Tryz.ntmps15
  go_upto_region 1 with fail
  obtain ⟨W1, hW1⟩ : ∃ W1 : World, W1 = (((w.alloc (.cells #[.slice A1 n1 c1, .bool p1, .slice A2 n2 c2, .bool p2, .slice A3 0 c3] 27)).alloc (.cells #[.slice A4 n4 c4, .bool p4, .slice A5 n5 c5, .bool p5, .slice A6 0 c6] 27)).alloc (.cells #[.slice none 0 0, .bool false, .slice none 0 0, .bool false, .slice none 0 0] 27)) := ⟨_, rfl⟩
  rw [← hW1]
  have B1 : Below w.heap.size w W1 := by rw [hW1]; exact (by (repeat (first | exact Below.refl _ _ | assumption | with_reducible refine Below.drew ?_ | with_reducible refine below_trans ?_ (below_alloc _ _) | with_reducible refine below_trans ?_ (below_drewN _ _) | with_reducible refine Below.setCell ?_ (by simp <;> omega) _ | refine below_trans ?_ (by assumption))))
  have hz1 : w.heap.size + 3 ≤ W1.heap.size := by rw [hW1]; simp
  obtain ⟨f0_0, f0_1, f0_2, f0_3, f0_4, yf0_0, yf0_1, yf0_2, yf0_3, yf0_4⟩ : Bx5 W1 (w.heap.size) (.slice A1 n1 c1) (.bool p1) (.slice A2 n2 c2) (.bool p2) (.slice A3 0 c3) := by rw [hW1]; simp [Bx5, go_sem]
  obtain ⟨f1_0, f1_1, f1_2, f1_3, f1_4, yf1_0, yf1_1, yf1_2, yf1_3, yf1_4⟩ : Bx5 W1 (w.heap.size + 1) (.slice A4 n4 c4) (.bool p4) (.slice A5 n5 c5) (.bool p5) (.slice A6 0 c6) := by rw [hW1]; simp [Bx5, go_sem]
  obtain ⟨f2_0, f2_1, f2_2, f2_3, f2_4, yf2_0, yf2_1, yf2_2, yf2_3, yf2_4⟩ : Bx5 W1 (w.heap.size + 1 + 1) (.slice none 0 0) (.bool false) (.slice none 0 0) (.bool false) (.slice none 0 0) := by rw [hW1]; simp [Bx5, go_sem]
  clear hW1
  go_wp2_with fail
  refine (HC1.out _ B1).mono ?_
  rintro e W7 ⟨rfl, hb7⟩
  have B7 := below_trans B1 hb7
  have hK7 := (Kept.refl W1 (Nat.le_refl _)).below hb7
  have hz7 : W1.heap.size ≤ W7.heap.size := hK7.2.2.1
  obtain ⟨g0_0, g0_1, g0_2, g0_3, g0_4, yg0_0, yg0_1, yg0_2, yg0_3, yg0_4⟩ := hK7.k5 (b := w.heap.size) (by omega) f0_0 f0_1 f0_2 f0_3 f0_4 yf0_0 yf0_1 yf0_2 yf0_3 yf0_4
  obtain ⟨g1_0, g1_1, g1_2, g1_3, g1_4, yg1_0, yg1_1, yg1_2, yg1_3, yg1_4⟩ := hK7.k5 (b := w.heap.size + 1) (by omega) f1_0 f1_1 f1_2 f1_3 f1_4 yf1_0 yf1_1 yf1_2 yf1_3 yf1_4
  obtain ⟨g2_0, g2_1, g2_2, g2_3, g2_4, yg2_0, yg2_1, yg2_2, yg2_3, yg2_4⟩ := hK7.k5 (b := w.heap.size + 1 + 1) (by omega) f2_0 f2_1 f2_2 f2_3 f2_4 yf2_0 yf2_1 yf2_2 yf2_3 yf2_4
  clear hK7 hb7 f0_0 yf0_0 f0_1 yf0_1 f0_2 yf0_2 f0_3 yf0_3 f0_4 yf0_4 f1_0 yf1_0 f1_1 yf1_1 f1_2 yf1_2 f1_3 yf1_3 f1_4 yf1_4 f2_0 yf2_0 f2_1 yf2_1 f2_2 yf2_2 f2_3 yf2_3 f2_4 yf2_4
  have lt0_0 : w.heap.size < W7.heap.size := (by omega)
  have lt0_1 : w.heap.size + 1 < W7.heap.size := (by omega)
  have lt0_2 : w.heap.size + 1 + 1 < W7.heap.size := (by omega)
  have ne0_0_0 : w.heap.size ≠ W7.heap.size := (by omega)
  have en0_0_0 : W7.heap.size ≠ w.heap.size := (by omega)
  have ne0_1_0 : w.heap.size + 1 ≠ W7.heap.size := (by omega)
  have en0_1_0 : W7.heap.size ≠ w.heap.size + 1 := (by omega)
  have ne0_2_0 : w.heap.size + 1 + 1 ≠ W7.heap.size := (by omega)
  have en0_2_0 : W7.heap.size ≠ w.heap.size + 1 + 1 := (by omega)
  have nr_0 : w.heap.size + 1 + 1 ≠ w.heap.size := (by omega)
  have mr_0 : w.heap.size ≠ w.heap.size + 1 + 1 := (by omega)
  have nr_1 : w.heap.size + 1 + 1 ≠ w.heap.size + 1 := (by omega)
  have mr_1 : w.heap.size + 1 ≠ w.heap.size + 1 + 1 := (by omega)
  go_wp2_with fail
  refine (HC2.out _ B7).mono ?_
  rintro e W8 ⟨rfl, hb8⟩
  have B8 := below_trans B7 hb8
  have hK8 := (Kept.refl W7 (Nat.le_refl _)).below hb8
  have hz8 : W7.heap.size ≤ W8.heap.size := hK8.2.2.1
  obtain ⟨j0_0, j0_1, j0_2, j0_3, j0_4, yj0_0, yj0_1, yj0_2, yj0_3, yj0_4⟩ := hK8.k5 (b := w.heap.size) (by omega) g0_0 g0_1 g0_2 g0_3 g0_4 yg0_0 yg0_1 yg0_2 yg0_3 yg0_4
  obtain ⟨j1_0, j1_1, j1_2, j1_3, j1_4, yj1_0, yj1_1, yj1_2, yj1_3, yj1_4⟩ := hK8.k5 (b := w.heap.size + 1) (by omega) g1_0 g1_1 g1_2 g1_3 g1_4 yg1_0 yg1_1 yg1_2 yg1_3 yg1_4
  obtain ⟨j2_0, j2_1, j2_2, j2_3, j2_4, yj2_0, yj2_1, yj2_2, yj2_3, yj2_4⟩ := hK8.k5 (b := w.heap.size + 1 + 1) (by omega) g2_0 g2_1 g2_2 g2_3 g2_4 yg2_0 yg2_1 yg2_2 yg2_3 yg2_4
  clear hK8 hb8 g0_0 yg0_0 g0_1 yg0_1 g0_2 yg0_2 g0_3 yg0_3 g0_4 yg0_4 g1_0 yg1_0 g1_1 yg1_1 g1_2 yg1_2 g1_3 yg1_3 g1_4 yg1_4 g2_0 yg2_0 g2_1 yg2_1 g2_2 yg2_2 g2_3 yg2_3 g2_4 yg2_4
  have lt8_0 : w.heap.size < W8.heap.size := (by omega)
  have lt8_1 : w.heap.size + 1 < W8.heap.size := (by omega)
  have lt8_2 : w.heap.size + 1 + 1 < W8.heap.size := (by omega)
  have ne8_0_0 : w.heap.size ≠ W8.heap.size := (by omega)
  have en8_0_0 : W8.heap.size ≠ w.heap.size := (by omega)
  have ne8_1_0 : w.heap.size + 1 ≠ W8.heap.size := (by omega)
  have en8_1_0 : W8.heap.size ≠ w.heap.size + 1 := (by omega)
  have ne8_2_0 : w.heap.size + 1 + 1 ≠ W8.heap.size := (by omega)
  have en8_2_0 : W8.heap.size ≠ w.heap.size + 1 + 1 := (by omega)
  go_wp2_with fail
  go_region_held3 (fun w' => w'.cell? ⟨w.heap.size, 0, none⟩ = some (.slice A1 n1 c1) ∧ w'.cell? ⟨w.heap.size, 1, none⟩ = some (.bool p1) ∧ w'.cell? ⟨w.heap.size, 2, none⟩ = some (.slice A2 n2 c2) ∧ w'.cell? ⟨w.heap.size, 3, none⟩ = some (.bool p2) ∧ w'.cell? ⟨w.heap.size + 1, 0, none⟩ = some (.slice A4 n4 c4) ∧ w'.cell? ⟨w.heap.size + 1, 1, none⟩ = some (.bool p4) ∧ w'.cell? ⟨w.heap.size + 1, 2, none⟩ = some (.slice A5 n5 c5) ∧ w'.cell? ⟨w.heap.size + 1, 3, none⟩ = some (.bool p5)) (go_keep) (first | (go_at_call 75; (first | ((with_reducible refine (A1'.out _ ?_).mono ?_); (exact (by (repeat (first | exact Below.refl _ _ | assumption | with_reducible refine Below.drew ?_ | with_reducible refine below_trans ?_ (below_alloc _ _) | with_reducible refine below_trans ?_ (below_drewN _ _) | with_reducible refine Below.setCell ?_ (by simp <;> omega) _ | refine below_trans ?_ (by assumption))))); (rintro e W17 ⟨r17, rfl, hr17, hb17⟩; obtain ⟨A17, n17, c17, rfl, -, -⟩ := hr17.parts; generalize decide (a + a' < 0) = q17 at *; have kb17 : Below W8.heap.size W8 W17 := (by (repeat (first | exact Below.refl _ _ | assumption | with_reducible refine Below.drew ?_ | with_reducible refine below_trans ?_ (below_alloc _ _) | with_reducible refine below_trans ?_ (below_drewN _ _) | with_reducible refine Below.setCell ?_ (by simp <;> omega) _ | refine below_trans ?_ (by assumption)))); clear hb17; obtain ⟨hc17, hf17, hz17⟩ := bcells kb17 (W8.heap.size) (by omega))) | ((with_reducible refine (A2'.out _ ?_).mono ?_); (exact (by (repeat (first | exact Below.refl _ _ | assumption | with_reducible refine Below.drew ?_ | with_reducible refine below_trans ?_ (below_alloc _ _) | with_reducible refine below_trans ?_ (below_drewN _ _) | with_reducible refine Below.setCell ?_ (by simp <;> omega) _ | refine below_trans ?_ (by assumption))))); (rintro e W18 ⟨r18, rfl, hr18, hb18⟩; obtain ⟨A18, n18, c18, rfl, -, -⟩ := hr18.parts; generalize decide (b + b' < 0) = q18 at *; have kb18 : Below W17.heap.size W17 W18 := (by (repeat (first | exact Below.refl _ _ | assumption | with_reducible refine Below.drew ?_ | with_reducible refine below_trans ?_ (below_alloc _ _) | with_reducible refine below_trans ?_ (below_drewN _ _) | with_reducible refine Below.setCell ?_ (by simp <;> omega) _ | refine below_trans ?_ (by assumption)))); clear hb18; obtain ⟨hc18, hf18, hz18⟩ := bcells kb18 (W8.heap.size) (by omega))))))
  go_wp2
  have KB := below_trans kb17 kb18
  have B9 := below_trans B8 KB
  obtain ⟨hc9, hf9, hz9⟩ := bcells KB (W8.heap.size) (by omega)
  have NB : NumBox W18 (w.heap.size + 1 + 1) := NumBox.of hc9 (by omega) (.nil j2_0 j2_1 j2_2 j2_3 j2_4)
  refine bodyPost_ret (v := .agg #[.slice A17 n17 c17, .bool q17, .slice A18 n18 c18, .bool q18, .slice none 0 0]) (by simp [results, Tryz.results15]; exact run_load5 NB _ _ _ _ _) rfl ?_
  exact RetNum.box B9 (by omega) NB (.mk HL.out (hr17.below kb18) hr18 (IsNat.zero _ _ _)) _ _ _ _ _

set_option maxHeartbeats 4000000 in
theorem addN_w (v u : Value) (x y : Cx) (w : World) (h : IsNum w v x) (h' : IsNum w u y) (m n : Nat) (hx : Sz x m) (hy : Sz y n) (hm : m + n + 1 < 549755813888) (hT : Tab w) (h1 : x ≠ .zero) (h2 : y ≠ .zero) (hdx : ¬ ∀ a b d, Low x a b d → d = 1) :
    Calls Tryz.prog 15 #[v, u] w (RetNum w (x.add y)) := by
  have HX := Lib.hid (fun W (hb : Below w.heap.size w W) => h.below hb)
  have HY := Lib.hid (fun W (hb : Below w.heap.size w W) => h'.below hb)
  have c1 := fun W (hb : Below w.heap.size w W) => clear_any _ _ W (h.below hb)
  have c2 := fun W (hb : Below w.heap.size w W) => clear_any _ _ W (h'.below hb)
  have HDx := Lib.hid (fun W (hb : Below w.heap.size w W) => denominator_any _ _ W (h.below hb))
  have HDy := Lib.hid (fun W (hb : Below w.heap.size w W) => denominator_any _ _ W (h'.below hb))
  rw [decide_eq_false h1] at c1
  rw [decide_eq_false h2] at c2
  have HC1 := Lib.hid c1
  have HC2 := Lib.hid c2
  obtain ⟨A1, n1, c1, p1, A2, n2, c2, p2, A3, n3, c3, a, b, d, rfl, hl, hr, hi, hs, hn3, -, -, -, -⟩ := h.parts
  obtain ⟨A4, n4, c4, p4, A5, n5, c5, p5, A6, n6, c6, a', b', d', rfl, hl', hr', hi', hs', hn6, -, -, -, -⟩ := h'.parts
  have s1 := hx _ _ _ hl
  have s2 := hy _ _ _ hl'
  have hn : ¬ n3 = 0 := fun e => by
    have e1 := dn_wl hl.pos hn3 e
    subst e1
    exact hdx fun a2 b2 d2 hl2 => (hl2.uniq hl).2.2
  have b3 : ((n3 : Int) == 0) = false := by simp [hn]
  clear hn hdx
  have hg0 : 0 < (Nat.gcd d d') := Nat.gcd_pos_of_pos_left _ hl.pos
  have k1 := wl_mono (Nat.div_le_self d (Nat.gcd d d'))
  have k2 := wl_mono (Nat.div_le_self d' (Nat.gcd d d'))
  have k3 := wl_mono (Nat.gcd_le_left d' hl.pos)
  have i1 := wl_imul a ((d' / Nat.gcd d d') : Nat)
  have i2 := wl_imul a' ((d / Nat.gcd d d') : Nat)
  have i3 := wl_imul b ((d' / Nat.gcd d d') : Nat)
  have i4 := wl_imul b' ((d / Nat.gcd d d') : Nat)
  rw [wl_inat] at i1 i2 i3 i4
  have i5 := wl_iadd (a * ((d' / Nat.gcd d d') : Nat)) (a' * ((d / Nat.gcd d d') : Nat))
  have i6 := wl_iadd (b * ((d' / Nat.gcd d d') : Nat)) (b' * ((d / Nat.gcd d d') : Nat))
  have i7 := wl_mul (d / Nat.gcd d d') d'
  have ht := add_terms' hl hl'
  have hdd : 0 < (d / Nat.gcd d d') := Nat.div_pos (Nat.le_of_dvd hl.pos (Nat.gcd_dvd_left _ _)) hg0
  have HD1 := Lib.hid (fun W (hb : Below w.heap.size w W) => HDx.out W hb a b d hl)
  have HD2 := Lib.hid (fun W (hb : Below w.heap.size w W) => HDy.out W hb a' b' d' hl')
  have HG := Lib.hid (fun W v u (hb : Below w.heap.size w W) (hv : IsNat W v d) (hu : IsNat W u d') => gcd_any _ _ _ _ W hv hu (by omega) (by omega) (hT.below hb))
  have HE1 := Lib.hid (fun W v u (hb : Below w.heap.size w W) (hv : IsNat W v d) (hu : IsNat W u (Nat.gcd d d')) => exact_any _ _ _ _ W hv hu hg0 (by omega) (by omega) (hT.below hb))
  have HE2 := Lib.hid (fun W v u (hb : Below w.heap.size w W) (hv : IsNat W v d') (hu : IsNat W u (Nat.gcd d d')) => exact_any _ _ _ _ W hv hu hg0 (by omega) (by omega) (hT.below hb))
  have HS1 := Lib.hid (fun W u (hb : Below w.heap.size w W) (hu : IsNat W u (d' / Nat.gcd d d')) => scaleI_any _ u _ _ W (hr.below hb) hu (by omega))
  have HS2 := Lib.hid (fun W u (hb : Below w.heap.size w W) (hu : IsNat W u (d / Nat.gcd d d')) => scaleI_any _ u _ _ W (hr'.below hb) hu (by omega))
  have HS3 := Lib.hid (fun W u (hb : Below w.heap.size w W) (hu : IsNat W u (d' / Nat.gcd d d')) => scaleI_any _ u _ _ W (hi.below hb) hu (by omega))
  have HS4 := Lib.hid (fun W u (hb : Below w.heap.size w W) (hu : IsNat W u (d / Nat.gcd d d')) => scaleI_any _ u _ _ W (hi'.below hb) hu (by omega))
  have HA1 := Lib.hid (fun W v u (h1 : IsInt W v (a * ((d' / Nat.gcd d d') : Nat))) (h2 : IsInt W u (a' * ((d / Nat.gcd d d') : Nat))) => addI_any _ _ _ _ W h1 h2 (by omega) (by omega))
  have HA2 := Lib.hid (fun W v u (h1 : IsInt W v (b * ((d' / Nat.gcd d d') : Nat))) (h2 : IsInt W u (b' * ((d / Nat.gcd d d') : Nat))) => addI_any _ _ _ _ W h1 h2 (by omega) (by omega))
  have HM := Lib.hid (fun W v u (h1 : IsNat W v (d / Nat.gcd d d')) (h2 : IsNat W u d') => mul_any _ _ _ _ W h1 h2 (by omega))
  have HR := Lib.hid (fun W r i s t (hb : Below w.heap.size w W) (h1 : IsInt W r (a * ((d' / Nat.gcd d d') : Nat) + a' * ((d / Nat.gcd d d') : Nat))) (h2 : IsInt W i (b * ((d' / Nat.gcd d d') : Nat) + b' * ((d / Nat.gcd d d') : Nat))) (h3 : IsNat W s ((d / Nat.gcd d d') * d')) (h4 : IsNat W t (Nat.gcd d d')) =>
    reduced_any r i s t _ _ ((d / Nat.gcd d d') * d') _ _ (x.add y) W h1 h2 h3 h4 (Den.self (Nat.mul_pos hdd hl'.pos)) (fun _ => ⟨Nat.dvd_trans (Nat.gcd_dvd_right d d') (Nat.dvd_mul_left _ _), add_common hl hl'⟩) ht.1 ht.2 (by omega) (by omega) (by omega) (hT.below hb))
  clear c1 c2 h1 h2 s1 s2 k1 k2 k3 i1 i2 i3 i4 i5 i6 i7 ht hdd hg0 HDx HDy h h' hx hy hm hT hl hr hi hs hn3 hl' hr' hi' hs' hn6
  generalize hgg : Nat.gcd d d' = g at *
  generalize hee : (d' / g) = ee at *
  generalize hdd : (d / g) = dd at *
  clear hgg hee hdd
  go_enter Tryz.func15, Tryz.ntmps15
  go_upto_region 1 with fail
  obtain ⟨W1, hW1⟩ : ∃ W1 : World, W1 = (((w.alloc (.cells #[.slice A1 n1 c1, .bool p1, .slice A2 n2 c2, .bool p2, .slice A3 n3 c3] 27)).alloc (.cells #[.slice A4 n4 c4, .bool p4, .slice A5 n5 c5, .bool p5, .slice A6 n6 c6] 27)).alloc (.cells #[.slice none 0 0, .bool false, .slice none 0 0, .bool false, .slice none 0 0] 27)) := ⟨_, rfl⟩
  rw [← hW1]
  have B1 : Below w.heap.size w W1 := by rw [hW1]; exact (by (repeat (first | exact Below.refl _ _ | assumption | with_reducible refine Below.drew ?_ | with_reducible refine below_trans ?_ (below_alloc _ _) | with_reducible refine below_trans ?_ (below_drewN _ _) | with_reducible refine Below.setCell ?_ (by simp <;> omega) _ | refine below_trans ?_ (by assumption))))
  have hz1 : w.heap.size + 3 ≤ W1.heap.size := by rw [hW1]; simp
  obtain ⟨f0_0, f0_1, f0_2, f0_3, f0_4, yf0_0, yf0_1, yf0_2, yf0_3, yf0_4⟩ : Bx5 W1 (w.heap.size) (.slice A1 n1 c1) (.bool p1) (.slice A2 n2 c2) (.bool p2) (.slice A3 n3 c3) := by rw [hW1]; simp [Bx5, go_sem]
  obtain ⟨f1_0, f1_1, f1_2, f1_3, f1_4, yf1_0, yf1_1, yf1_2, yf1_3, yf1_4⟩ : Bx5 W1 (w.heap.size + 1) (.slice A4 n4 c4) (.bool p4) (.slice A5 n5 c5) (.bool p5) (.slice A6 n6 c6) := by rw [hW1]; simp [Bx5, go_sem]
  obtain ⟨f2_0, f2_1, f2_2, f2_3, f2_4, yf2_0, yf2_1, yf2_2, yf2_3, yf2_4⟩ : Bx5 W1 (w.heap.size + 1 + 1) (.slice none 0 0) (.bool false) (.slice none 0 0) (.bool false) (.slice none 0 0) := by rw [hW1]; simp [Bx5, go_sem]
  clear hW1
  go_wp2_with fail
  refine (HC1.out _ B1).mono ?_
  rintro e W7 ⟨rfl, hb7⟩
  have B7 := below_trans B1 hb7
  have hK7 := (Kept.refl W1 (Nat.le_refl _)).below hb7
  have hz7 : W1.heap.size ≤ W7.heap.size := hK7.2.2.1
  obtain ⟨g0_0, g0_1, g0_2, g0_3, g0_4, yg0_0, yg0_1, yg0_2, yg0_3, yg0_4⟩ := hK7.k5 (b := w.heap.size) (by omega) f0_0 f0_1 f0_2 f0_3 f0_4 yf0_0 yf0_1 yf0_2 yf0_3 yf0_4
  obtain ⟨g1_0, g1_1, g1_2, g1_3, g1_4, yg1_0, yg1_1, yg1_2, yg1_3, yg1_4⟩ := hK7.k5 (b := w.heap.size + 1) (by omega) f1_0 f1_1 f1_2 f1_3 f1_4 yf1_0 yf1_1 yf1_2 yf1_3 yf1_4
  obtain ⟨g2_0, g2_1, g2_2, g2_3, g2_4, yg2_0, yg2_1, yg2_2, yg2_3, yg2_4⟩ := hK7.k5 (b := w.heap.size + 1 + 1) (by omega) f2_0 f2_1 f2_2 f2_3 f2_4 yf2_0 yf2_1 yf2_2 yf2_3 yf2_4
  clear hK7 hb7 f0_0 yf0_0 f0_1 yf0_1 f0_2 yf0_2 f0_3 yf0_3 f0_4 yf0_4 f1_0 yf1_0 f1_1 yf1_1 f1_2 yf1_2 f1_3 yf1_3 f1_4 yf1_4 f2_0 yf2_0 f2_1 yf2_1 f2_2 yf2_2 f2_3 yf2_3 f2_4 yf2_4
  have lt0_0 : w.heap.size < W7.heap.size := (by omega)
  have lt0_1 : w.heap.size + 1 < W7.heap.size := (by omega)
  have lt0_2 : w.heap.size + 1 + 1 < W7.heap.size := (by omega)
  have ne0_0_0 : w.heap.size ≠ W7.heap.size := (by omega)
  have en0_0_0 : W7.heap.size ≠ w.heap.size := (by omega)
  have ne0_1_0 : w.heap.size + 1 ≠ W7.heap.size := (by omega)
  have en0_1_0 : W7.heap.size ≠ w.heap.size + 1 := (by omega)
  have ne0_2_0 : w.heap.size + 1 + 1 ≠ W7.heap.size := (by omega)
  have en0_2_0 : W7.heap.size ≠ w.heap.size + 1 + 1 := (by omega)
  have nr_0 : w.heap.size + 1 + 1 ≠ w.heap.size := (by omega)
  have mr_0 : w.heap.size ≠ w.heap.size + 1 + 1 := (by omega)
  have nr_1 : w.heap.size + 1 + 1 ≠ w.heap.size + 1 := (by omega)
  have mr_1 : w.heap.size + 1 ≠ w.heap.size + 1 + 1 := (by omega)
  go_wp2_with fail
  refine (HC2.out _ B7).mono ?_
  rintro e W8 ⟨rfl, hb8⟩
  have B8 := below_trans B7 hb8
  have hK8 := (Kept.refl W7 (Nat.le_refl _)).below hb8
  have hz8 : W7.heap.size ≤ W8.heap.size := hK8.2.2.1
  obtain ⟨j0_0, j0_1, j0_2, j0_3, j0_4, yj0_0, yj0_1, yj0_2, yj0_3, yj0_4⟩ := hK8.k5 (b := w.heap.size) (by omega) g0_0 g0_1 g0_2 g0_3 g0_4 yg0_0 yg0_1 yg0_2 yg0_3 yg0_4
  obtain ⟨j1_0, j1_1, j1_2, j1_3, j1_4, yj1_0, yj1_1, yj1_2, yj1_3, yj1_4⟩ := hK8.k5 (b := w.heap.size + 1) (by omega) g1_0 g1_1 g1_2 g1_3 g1_4 yg1_0 yg1_1 yg1_2 yg1_3 yg1_4
  obtain ⟨j2_0, j2_1, j2_2, j2_3, j2_4, yj2_0, yj2_1, yj2_2, yj2_3, yj2_4⟩ := hK8.k5 (b := w.heap.size + 1 + 1) (by omega) g2_0 g2_1 g2_2 g2_3 g2_4 yg2_0 yg2_1 yg2_2 yg2_3 yg2_4
  clear hK8 hb8 g0_0 yg0_0 g0_1 yg0_1 g0_2 yg0_2 g0_3 yg0_3 g0_4 yg0_4 g1_0 yg1_0 g1_1 yg1_1 g1_2 yg1_2 g1_3 yg1_3 g1_4 yg1_4 g2_0 yg2_0 g2_1 yg2_1 g2_2 yg2_2 g2_3 yg2_3 g2_4 yg2_4
  have lt8_0 : w.heap.size < W8.heap.size := (by omega)
  have lt8_1 : w.heap.size + 1 < W8.heap.size := (by omega)
  have lt8_2 : w.heap.size + 1 + 1 < W8.heap.size := (by omega)
  have ne8_0_0 : w.heap.size ≠ W8.heap.size := (by omega)
  have en8_0_0 : W8.heap.size ≠ w.heap.size := (by omega)
  have ne8_1_0 : w.heap.size + 1 ≠ W8.heap.size := (by omega)
  have en8_1_0 : W8.heap.size ≠ w.heap.size + 1 := (by omega)
  have ne8_2_0 : w.heap.size + 1 + 1 ≠ W8.heap.size := (by omega)
  have en8_2_0 : W8.heap.size ≠ w.heap.size + 1 + 1 := (by omega)
  go_wp2_with fail
  go_region_held3 (fun w' => w'.cell? ⟨w.heap.size, 0, none⟩ = some (.slice A1 n1 c1) ∧ w'.cell? ⟨w.heap.size, 1, none⟩ = some (.bool p1) ∧ w'.cell? ⟨w.heap.size, 2, none⟩ = some (.slice A2 n2 c2) ∧ w'.cell? ⟨w.heap.size, 3, none⟩ = some (.bool p2) ∧ w'.cell? ⟨w.heap.size, 4, none⟩ = some (.slice A3 n3 c3) ∧ w'.cell? ⟨w.heap.size + 1, 0, none⟩ = some (.slice A4 n4 c4) ∧ w'.cell? ⟨w.heap.size + 1, 1, none⟩ = some (.bool p4) ∧ w'.cell? ⟨w.heap.size + 1, 2, none⟩ = some (.slice A5 n5 c5) ∧ w'.cell? ⟨w.heap.size + 1, 3, none⟩ = some (.bool p5) ∧ w'.cell? ⟨w.heap.size + 1, 4, none⟩ = some (.slice A6 n6 c6)) (go_keep) (first | (go_at_call 76; (first | ((with_reducible refine (HD1.out _ ?_).mono ?_); (exact (by (repeat (first | exact Below.refl _ _ | assumption | with_reducible refine Below.drew ?_ | with_reducible refine below_trans ?_ (below_alloc _ _) | with_reducible refine below_trans ?_ (below_drewN _ _) | with_reducible refine Below.setCell ?_ (by simp <;> omega) _ | refine below_trans ?_ (by assumption))))); (rintro e W17 ⟨r17, rfl, hr17, hb17⟩; obtain ⟨A17, n17, c17, rfl, hnn17⟩ := hr17.ex; clear hnn17; have kb17 : Below W8.heap.size W8 W17 := (by (repeat (first | exact Below.refl _ _ | assumption | with_reducible refine Below.drew ?_ | with_reducible refine below_trans ?_ (below_alloc _ _) | with_reducible refine below_trans ?_ (below_drewN _ _) | with_reducible refine Below.setCell ?_ (by simp <;> omega) _ | refine below_trans ?_ (by assumption)))); clear hb17; obtain ⟨hc17, hf17, hz17⟩ := bcells kb17 (W8.heap.size) (by omega))) | ((with_reducible refine (HD2.out _ ?_).mono ?_); (exact (by (repeat (first | exact Below.refl _ _ | assumption | with_reducible refine Below.drew ?_ | with_reducible refine below_trans ?_ (below_alloc _ _) | with_reducible refine below_trans ?_ (below_drewN _ _) | with_reducible refine Below.setCell ?_ (by simp <;> omega) _ | refine below_trans ?_ (by assumption))))); (rintro e W18 ⟨r18, rfl, hr18, hb18⟩; obtain ⟨A18, n18, c18, rfl, hnn18⟩ := hr18.ex; clear hnn18; have kb18 : Below W17.heap.size W17 W18 := (by (repeat (first | exact Below.refl _ _ | assumption | with_reducible refine Below.drew ?_ | with_reducible refine below_trans ?_ (below_alloc _ _) | with_reducible refine below_trans ?_ (below_drewN _ _) | with_reducible refine Below.setCell ?_ (by simp <;> omega) _ | refine below_trans ?_ (by assumption)))); clear hb18; obtain ⟨hc18, hf18, hz18⟩ := bcells kb18 (W8.heap.size) (by omega))))))
  go_wp2_with fail
  have B18 := below_trans (below_trans B8 kb17) kb18
  refine (HG.out _ _ _ B18 (hr17.below kb18) hr18).mono ?_
  rintro e W19 ⟨r19, rfl, hr19, kb19⟩
  obtain ⟨A19, n19, c19, rfl, hnn19⟩ := hr19.ex
  clear hnn19
  go_wp2_with fail
  have B19 := below_trans B18 kb19
  refine (HE1.out _ _ _ B19 (hr17.below (below_trans kb18 kb19)) hr19).mono ?_
  rintro e W20 ⟨r20, rfl, hr20, kb20⟩
  obtain ⟨A20, n20, c20, rfl, hnn20⟩ := hr20.ex
  clear hnn20
  go_wp2_with fail
  have B20 := below_trans B19 kb20
  refine (HE2.out _ _ _ B20 (hr18.below (below_trans kb19 kb20)) (hr19.below kb20)).mono ?_
  rintro e W21 ⟨r21, rfl, hr21, kb21⟩
  obtain ⟨A21, n21, c21, rfl, hnn21⟩ := hr21.ex
  clear hnn21
  have B21 := below_trans B20 kb21
  have KB := below_trans (below_trans (below_trans (below_trans kb17 kb18) kb19) kb20) kb21
  have hK21 := (Kept.refl W8 (Nat.le_refl _)).below KB
  have hz21 : W8.heap.size ≤ W21.heap.size := hK21.2.2.1
  have hrg := hr19.below (below_trans kb20 kb21)
  have hrd := hr20.below kb21
  clear hr17 hr18 hr19 hr20 kb17 kb18 kb19 kb20 kb21 KB B18 B19 B20 hc17 hf17 hc18 hf18
  obtain ⟨l0_0, l0_1, l0_2, l0_3, l0_4, yl0_0, yl0_1, yl0_2, yl0_3, yl0_4⟩ := hK21.k5 (b := w.heap.size) (by omega) j0_0 j0_1 j0_2 j0_3 j0_4 yj0_0 yj0_1 yj0_2 yj0_3 yj0_4
  obtain ⟨l1_0, l1_1, l1_2, l1_3, l1_4, yl1_0, yl1_1, yl1_2, yl1_3, yl1_4⟩ := hK21.k5 (b := w.heap.size + 1) (by omega) j1_0 j1_1 j1_2 j1_3 j1_4 yj1_0 yj1_1 yj1_2 yj1_3 yj1_4
  obtain ⟨l2_0, l2_1, l2_2, l2_3, l2_4, yl2_0, yl2_1, yl2_2, yl2_3, yl2_4⟩ := hK21.k5 (b := w.heap.size + 1 + 1) (by omega) j2_0 j2_1 j2_2 j2_3 j2_4 yj2_0 yj2_1 yj2_2 yj2_3 yj2_4
  clear hK21 j0_0 yj0_0 j0_1 yj0_1 j0_2 yj0_2 j0_3 yj0_3 j0_4 yj0_4 j1_0 yj1_0 j1_1 yj1_1 j1_2 yj1_2 j1_3 yj1_3 j1_4 yj1_4 j2_0 yj2_0 j2_1 yj2_1 j2_2 yj2_2 j2_3 yj2_3 j2_4 yj2_4
  have lt21_0 : w.heap.size < W21.heap.size := (by omega)
  have lt21_1 : w.heap.size + 1 < W21.heap.size := (by omega)
  have lt21_2 : w.heap.size + 1 + 1 < W21.heap.size := (by omega)
  have ne21_0_0 : w.heap.size ≠ W21.heap.size := (by omega)
  have en21_0_0 : W21.heap.size ≠ w.heap.size := (by omega)
  have ne21_1_0 : w.heap.size + 1 ≠ W21.heap.size := (by omega)
  have en21_1_0 : W21.heap.size ≠ w.heap.size + 1 := (by omega)
  have ne21_2_0 : w.heap.size + 1 + 1 ≠ W21.heap.size := (by omega)
  have en21_2_0 : W21.heap.size ≠ w.heap.size + 1 + 1 := (by omega)
  go_upto_region 10 with fail
  have KW21 := Kept.refl W21 (Nat.le_refl _)
  go_cut [8] (fun s8 wx => IBox (W21.heap.size) s8 (a * (ee : Nat) + a' * (dd : Nat)) wx ∧ Kept (W21.heap.size) W21 wx)
  case first =>
    go_region_held3 (fun w' => w'.cell? ⟨w.heap.size, 0, none⟩ = some (.slice A1 n1 c1) ∧ w'.cell? ⟨w.heap.size, 1, none⟩ = some (.bool p1) ∧ w'.cell? ⟨w.heap.size + 1, 0, none⟩ = some (.slice A4 n4 c4) ∧ w'.cell? ⟨w.heap.size + 1, 1, none⟩ = some (.bool p4)) (go_keep) (first | (go_at_call 79; (first | ((with_reducible refine (HS1.out _ _ ?_ ?_).mono ?_); (exact (by (repeat (first | exact Below.refl _ _ | assumption | with_reducible refine Below.drew ?_ | with_reducible refine below_trans ?_ (below_alloc _ _) | with_reducible refine below_trans ?_ (below_drewN _ _) | with_reducible refine Below.setCell ?_ (by simp <;> omega) _ | refine below_trans ?_ (by assumption))))); (exact hr21.below (by (repeat (first | exact Below.refl _ _ | assumption | with_reducible refine Below.drew ?_ | with_reducible refine below_trans ?_ (below_alloc _ _) | with_reducible refine below_trans ?_ (below_drewN _ _) | with_reducible refine Below.setCell ?_ (by simp <;> omega) _ | refine below_trans ?_ (by assumption))))); (rintro e W27 ⟨r27, rfl, hr27, hb27⟩; obtain ⟨A27, n27, c27, rfl, -, -⟩ := hr27.parts; generalize decide (a * (ee : Nat) < 0) = q27 at *; (try (refine cutv (p := W21.heap.size < W27.heap.size) ?_ (fun al1_0_0 => ?_); (refine Nat.lt_of_lt_of_le ?_ hb27.size; (first | (simp <;> fail) | (simp <;> omega) | omega)); refine cutv (p := W27.cell? ⟨W21.heap.size, 0, none⟩ = some (.slice none 0 0)) ?_ (fun ac1_0_0_0 => ?_); (refine (hb27.cell (p := ⟨W21.heap.size, 0, none⟩) ?_).trans ?_; (first | (simp <;> fail) | (simp <;> omega) | omega); (simp [go_sem] <;> fail)); refine cutv (p := W27.frozen? ⟨W21.heap.size, 0, none⟩ = false) ?_ (fun af1_0_0_0 => ?_); (refine (hb27.frozen (p := ⟨W21.heap.size, 0, none⟩) ?_).trans ?_; (first | (simp <;> fail) | (simp <;> omega) | omega); (simp [go_sem] <;> fail)); refine cutv (p := W27.cell? ⟨W21.heap.size, 1, none⟩ = some (.bool false)) ?_ (fun ac1_0_0_1 => ?_); (refine (hb27.cell (p := ⟨W21.heap.size, 1, none⟩) ?_).trans ?_; (first | (simp <;> fail) | (simp <;> omega) | omega); (simp [go_sem] <;> fail)); refine cutv (p := W27.frozen? ⟨W21.heap.size, 1, none⟩ = false) ?_ (fun af1_0_0_1 => ?_); (refine (hb27.frozen (p := ⟨W21.heap.size, 1, none⟩) ?_).trans ?_; (first | (simp <;> fail) | (simp <;> omega) | omega); (simp [go_sem] <;> fail)); have an1_0_0 := Nat.ne_of_lt al1_0_0; have ao1_0_0 := Nat.ne_of_gt al1_0_0; have ap1_0_0 := Nat.lt_succ_of_lt al1_0_0)); have kb27 : Below W21.heap.size W21 W27 := (by (repeat (first | exact Below.refl _ _ | assumption | with_reducible refine Below.drew ?_ | with_reducible refine below_trans ?_ (below_alloc _ _) | with_reducible refine below_trans ?_ (below_drewN _ _) | with_reducible refine Below.setCell ?_ (by simp <;> omega) _ | refine below_trans ?_ (by assumption)))); clear hb27; obtain ⟨hc27, hf27, hz27⟩ := bcells kb27 (W21.heap.size) (by omega); have ne27_0_0 : w.heap.size ≠ W27.heap.size := (by omega); have en27_0_0 : W27.heap.size ≠ w.heap.size := (by omega); have ne27_1_0 : w.heap.size + 1 ≠ W27.heap.size := (by omega); have en27_1_0 : W27.heap.size ≠ w.heap.size + 1 := (by omega); have ne27_2_0 : w.heap.size + 1 + 1 ≠ W27.heap.size := (by omega); have en27_2_0 : W27.heap.size ≠ w.heap.size + 1 + 1 := (by omega))) | ((with_reducible refine (HS2.out _ _ ?_ ?_).mono ?_); (exact (by (repeat (first | exact Below.refl _ _ | assumption | with_reducible refine Below.drew ?_ | with_reducible refine below_trans ?_ (below_alloc _ _) | with_reducible refine below_trans ?_ (below_drewN _ _) | with_reducible refine Below.setCell ?_ (by simp <;> omega) _ | refine below_trans ?_ (by assumption))))); (exact hrd.below (by (repeat (first | exact Below.refl _ _ | assumption | with_reducible refine Below.drew ?_ | with_reducible refine below_trans ?_ (below_alloc _ _) | with_reducible refine below_trans ?_ (below_drewN _ _) | with_reducible refine Below.setCell ?_ (by simp <;> omega) _ | refine below_trans ?_ (by assumption))))); (rintro e W28 ⟨r28, rfl, hr28, hb28⟩; obtain ⟨A28, n28, c28, rfl, -, -⟩ := hr28.parts; generalize decide (a' * (dd : Nat) < 0) = q28 at *; (try (refine cutv (p := W21.heap.size < W28.heap.size) ?_ (fun al2_0_0 => ?_); (refine Nat.lt_of_lt_of_le ?_ hb28.size; (have hlt := al1_0_0; first | omega | (simp <;> omega))); refine cutv (p := W28.cell? ⟨W21.heap.size, 0, none⟩ = some (.slice none 0 0)) ?_ (fun ac2_0_0_0 => ?_); (refine (hb28.cell (p := ⟨W21.heap.size, 0, none⟩) ?_).trans ?_; (have hlt := al1_0_0; first | omega | (simp <;> omega)); (first | exact ac1_0_0_0 | (simp [go_sem, *] <;> fail))); refine cutv (p := W28.frozen? ⟨W21.heap.size, 0, none⟩ = false) ?_ (fun af2_0_0_0 => ?_); (refine (hb28.frozen (p := ⟨W21.heap.size, 0, none⟩) ?_).trans ?_; (have hlt := al1_0_0; first | omega | (simp <;> omega)); (first | exact af1_0_0_0 | (simp [go_sem, *] <;> fail))); refine cutv (p := W28.cell? ⟨W21.heap.size, 1, none⟩ = some (.bool false)) ?_ (fun ac2_0_0_1 => ?_); (refine (hb28.cell (p := ⟨W21.heap.size, 1, none⟩) ?_).trans ?_; (have hlt := al1_0_0; first | omega | (simp <;> omega)); (first | exact ac1_0_0_1 | (simp [go_sem, *] <;> fail))); refine cutv (p := W28.frozen? ⟨W21.heap.size, 1, none⟩ = false) ?_ (fun af2_0_0_1 => ?_); (refine (hb28.frozen (p := ⟨W21.heap.size, 1, none⟩) ?_).trans ?_; (have hlt := al1_0_0; first | omega | (simp <;> omega)); (first | exact af1_0_0_1 | (simp [go_sem, *] <;> fail))); have an2_0_0 := Nat.ne_of_lt al2_0_0; have ao2_0_0 := Nat.ne_of_gt al2_0_0; have ap2_0_0 := Nat.lt_succ_of_lt al2_0_0)); (try (refine cutv (p := W27.heap.size < W28.heap.size) ?_ (fun al2_1_0 => ?_); (refine Nat.lt_of_lt_of_le ?_ hb28.size; (first | (simp <;> fail) | (simp <;> omega) | omega)); refine cutv (p := W28.cell? ⟨W27.heap.size, 0, none⟩ = some (.slice none 0 0)) ?_ (fun ac2_1_0_0 => ?_); (refine (hb28.cell (p := ⟨W27.heap.size, 0, none⟩) ?_).trans ?_; (first | (simp <;> fail) | (simp <;> omega) | omega); (simp [go_sem] <;> fail)); refine cutv (p := W28.frozen? ⟨W27.heap.size, 0, none⟩ = false) ?_ (fun af2_1_0_0 => ?_); (refine (hb28.frozen (p := ⟨W27.heap.size, 0, none⟩) ?_).trans ?_; (first | (simp <;> fail) | (simp <;> omega) | omega); (simp [go_sem] <;> fail)); refine cutv (p := W28.cell? ⟨W27.heap.size, 1, none⟩ = some (.bool false)) ?_ (fun ac2_1_0_1 => ?_); (refine (hb28.cell (p := ⟨W27.heap.size, 1, none⟩) ?_).trans ?_; (first | (simp <;> fail) | (simp <;> omega) | omega); (simp [go_sem] <;> fail)); refine cutv (p := W28.frozen? ⟨W27.heap.size, 1, none⟩ = false) ?_ (fun af2_1_0_1 => ?_); (refine (hb28.frozen (p := ⟨W27.heap.size, 1, none⟩) ?_).trans ?_; (first | (simp <;> fail) | (simp <;> omega) | omega); (simp [go_sem] <;> fail)); have an2_1_0 := Nat.ne_of_lt al2_1_0; have ao2_1_0 := Nat.ne_of_gt al2_1_0; have ap2_1_0 := Nat.lt_succ_of_lt al2_1_0)); have kb28 : Below W27.heap.size W27 W28 := (by (repeat (first | exact Below.refl _ _ | assumption | with_reducible refine Below.drew ?_ | with_reducible refine below_trans ?_ (below_alloc _ _) | with_reducible refine below_trans ?_ (below_drewN _ _) | with_reducible refine Below.setCell ?_ (by simp <;> omega) _ | refine below_trans ?_ (by assumption)))); clear hb28; obtain ⟨hc28, hf28, hz28⟩ := bcells kb28 (W21.heap.size) (by omega); have ne28_0_0 : w.heap.size ≠ W28.heap.size := (by omega); have en28_0_0 : W28.heap.size ≠ w.heap.size := (by omega); have ne28_1_0 : w.heap.size + 1 ≠ W28.heap.size := (by omega); have en28_1_0 : W28.heap.size ≠ w.heap.size + 1 := (by omega); have ne28_2_0 : w.heap.size + 1 + 1 ≠ W28.heap.size := (by omega); have en28_2_0 : W28.heap.size ≠ w.heap.size + 1 + 1 := (by omega))))) | (go_at_call 75; (first | ((with_reducible refine (HA1.out _ _ _ ?_ ?_).mono ?_); (exact hr27.below (by (repeat (first | exact Below.refl _ _ | assumption | with_reducible refine Below.drew ?_ | with_reducible refine below_trans ?_ (below_alloc _ _) | with_reducible refine below_trans ?_ (below_drewN _ _) | with_reducible refine Below.setCell ?_ (by simp <;> omega) _ | refine below_trans ?_ (by assumption))))); (exact hr28.below (by (repeat (first | exact Below.refl _ _ | assumption | with_reducible refine Below.drew ?_ | with_reducible refine below_trans ?_ (below_alloc _ _) | with_reducible refine below_trans ?_ (below_drewN _ _) | with_reducible refine Below.setCell ?_ (by simp <;> omega) _ | refine below_trans ?_ (by assumption))))); (rintro e W29 ⟨r29, rfl, hr29, hb29⟩; obtain ⟨A29, n29, c29, rfl, -, -⟩ := hr29.parts; generalize decide (a * (ee : Nat) + a' * (dd : Nat) < 0) = q29 at *; (try (refine cutv (p := W21.heap.size < W29.heap.size) ?_ (fun al3_0_0 => ?_); (refine Nat.lt_of_lt_of_le ?_ hb29.size; (have hlt := al2_0_0; first | omega | (simp <;> omega))); refine cutv (p := W29.cell? ⟨W21.heap.size, 0, none⟩ = some (.slice none 0 0)) ?_ (fun ac3_0_0_0 => ?_); (refine (hb29.cell (p := ⟨W21.heap.size, 0, none⟩) ?_).trans ?_; (have hlt := al2_0_0; first | omega | (simp <;> omega)); (first | exact ac2_0_0_0 | (simp [go_sem, *] <;> fail))); refine cutv (p := W29.frozen? ⟨W21.heap.size, 0, none⟩ = false) ?_ (fun af3_0_0_0 => ?_); (refine (hb29.frozen (p := ⟨W21.heap.size, 0, none⟩) ?_).trans ?_; (have hlt := al2_0_0; first | omega | (simp <;> omega)); (first | exact af2_0_0_0 | (simp [go_sem, *] <;> fail))); refine cutv (p := W29.cell? ⟨W21.heap.size, 1, none⟩ = some (.bool false)) ?_ (fun ac3_0_0_1 => ?_); (refine (hb29.cell (p := ⟨W21.heap.size, 1, none⟩) ?_).trans ?_; (have hlt := al2_0_0; first | omega | (simp <;> omega)); (first | exact ac2_0_0_1 | (simp [go_sem, *] <;> fail))); refine cutv (p := W29.frozen? ⟨W21.heap.size, 1, none⟩ = false) ?_ (fun af3_0_0_1 => ?_); (refine (hb29.frozen (p := ⟨W21.heap.size, 1, none⟩) ?_).trans ?_; (have hlt := al2_0_0; first | omega | (simp <;> omega)); (first | exact af2_0_0_1 | (simp [go_sem, *] <;> fail))); have an3_0_0 := Nat.ne_of_lt al3_0_0; have ao3_0_0 := Nat.ne_of_gt al3_0_0; have ap3_0_0 := Nat.lt_succ_of_lt al3_0_0)); (try (refine cutv (p := W27.heap.size < W29.heap.size) ?_ (fun al3_1_0 => ?_); (refine Nat.lt_of_lt_of_le ?_ hb29.size; (have hlt := al2_1_0; first | omega | (simp <;> omega))); refine cutv (p := W29.cell? ⟨W27.heap.size, 0, none⟩ = some (.slice none 0 0)) ?_ (fun ac3_1_0_0 => ?_); (refine (hb29.cell (p := ⟨W27.heap.size, 0, none⟩) ?_).trans ?_; (have hlt := al2_1_0; first | omega | (simp <;> omega)); (first | exact ac2_1_0_0 | (simp [go_sem, *] <;> fail))); refine cutv (p := W29.frozen? ⟨W27.heap.size, 0, none⟩ = false) ?_ (fun af3_1_0_0 => ?_); (refine (hb29.frozen (p := ⟨W27.heap.size, 0, none⟩) ?_).trans ?_; (have hlt := al2_1_0; first | omega | (simp <;> omega)); (first | exact af2_1_0_0 | (simp [go_sem, *] <;> fail))); refine cutv (p := W29.cell? ⟨W27.heap.size, 1, none⟩ = some (.bool false)) ?_ (fun ac3_1_0_1 => ?_); (refine (hb29.cell (p := ⟨W27.heap.size, 1, none⟩) ?_).trans ?_; (have hlt := al2_1_0; first | omega | (simp <;> omega)); (first | exact ac2_1_0_1 | (simp [go_sem, *] <;> fail))); refine cutv (p := W29.frozen? ⟨W27.heap.size, 1, none⟩ = false) ?_ (fun af3_1_0_1 => ?_); (refine (hb29.frozen (p := ⟨W27.heap.size, 1, none⟩) ?_).trans ?_; (have hlt := al2_1_0; first | omega | (simp <;> omega)); (first | exact af2_1_0_1 | (simp [go_sem, *] <;> fail))); have an3_1_0 := Nat.ne_of_lt al3_1_0; have ao3_1_0 := Nat.ne_of_gt al3_1_0; have ap3_1_0 := Nat.lt_succ_of_lt al3_1_0)); (try (refine cutv (p := W28.heap.size < W29.heap.size) ?_ (fun al3_2_0 => ?_); (refine Nat.lt_of_lt_of_le ?_ hb29.size; (first | (simp <;> fail) | (simp <;> omega) | omega)); refine cutv (p := W29.cell? ⟨W28.heap.size, 0, none⟩ = some (.slice none 0 0)) ?_ (fun ac3_2_0_0 => ?_); (refine (hb29.cell (p := ⟨W28.heap.size, 0, none⟩) ?_).trans ?_; (first | (simp <;> fail) | (simp <;> omega) | omega); (simp [go_sem] <;> fail)); refine cutv (p := W29.frozen? ⟨W28.heap.size, 0, none⟩ = false) ?_ (fun af3_2_0_0 => ?_); (refine (hb29.frozen (p := ⟨W28.heap.size, 0, none⟩) ?_).trans ?_; (first | (simp <;> fail) | (simp <;> omega) | omega); (simp [go_sem] <;> fail)); refine cutv (p := W29.cell? ⟨W28.heap.size, 1, none⟩ = some (.bool false)) ?_ (fun ac3_2_0_1 => ?_); (refine (hb29.cell (p := ⟨W28.heap.size, 1, none⟩) ?_).trans ?_; (first | (simp <;> fail) | (simp <;> omega) | omega); (simp [go_sem] <;> fail)); refine cutv (p := W29.frozen? ⟨W28.heap.size, 1, none⟩ = false) ?_ (fun af3_2_0_1 => ?_); (refine (hb29.frozen (p := ⟨W28.heap.size, 1, none⟩) ?_).trans ?_; (first | (simp <;> fail) | (simp <;> omega) | omega); (simp [go_sem] <;> fail)); have an3_2_0 := Nat.ne_of_lt al3_2_0; have ao3_2_0 := Nat.ne_of_gt al3_2_0; have ap3_2_0 := Nat.lt_succ_of_lt al3_2_0)); have kb29 : Below W28.heap.size W28 W29 := (by (repeat (first | exact Below.refl _ _ | assumption | with_reducible refine Below.drew ?_ | with_reducible refine below_trans ?_ (below_alloc _ _) | with_reducible refine below_trans ?_ (below_drewN _ _) | with_reducible refine Below.setCell ?_ (by simp <;> omega) _ | refine below_trans ?_ (by assumption)))); clear hb29; obtain ⟨hc29, hf29, hz29⟩ := bcells kb29 (W21.heap.size) (by omega); have ne29_0_0 : w.heap.size ≠ W29.heap.size := (by omega); have en29_0_0 : W29.heap.size ≠ w.heap.size := (by omega); have ne29_1_0 : w.heap.size + 1 ≠ W29.heap.size := (by omega); have en29_1_0 : W29.heap.size ≠ w.heap.size + 1 := (by omega); have ne29_2_0 : w.heap.size + 1 + 1 ≠ W29.heap.size := (by omega); have en29_2_0 : W29.heap.size ≠ w.heap.size + 1 + 1 := (by omega))))))
    all_goals
      go_wp2_with fail
      go_meet
      refine ⟨?_, (by (repeat (first | assumption | with_reducible refine Kept.drew ?_ | with_reducible refine Kept.alloc ?_ _ | with_reducible refine Kept.set ?_ (by first | omega | (simp <;> omega)) _ _ | refine Kept.below ?_ (by assumption))))⟩
      · refine ⟨_, A29, n29, c29, q29, rfl, ?_, ?_, ?_, ?_, ?_⟩
        · first | omega | (simp <;> omega)
        · first | (simp <;> fail) | (simp <;> omega) | (simp; exact lt_of_cell (by assumption))
        · simp [go_sem, *]
        · simp [go_sem, *]
        · (repeat (first | exact hr29 | with_reducible refine IsInt.below ?_ (below_alloc _ _) | ((with_reducible refine IsInt.box2 ?_ (IntBox.mk (A := none) (n := 0) (c := 0) (p := false) ?_ ?_) _ _); rotate_left; (first | assumption | (simp [go_sem, *] <;> fail)); (first | assumption | (simp [go_sem, *] <;> fail)))))
  case rest =>
    obtain ⟨⟨g5, A29, n29, c29, q29, rfl, hg5, hl5, e5_0, e5_1, hi5⟩, hK5⟩ := hcut
    obtain ⟨W5, rfl⟩ : ∃ W5 : World, W5 = wc := ⟨_, rfl⟩
    have hz5 : W21.heap.size ≤ W5.heap.size := hK5.2.2.1
    have B215 : Below W21.heap.size W21 W5 := hK5.2.2.2 _ (Nat.le_refl _)
    have B5 := below_trans B21 B215
    have hr21 := hr21.below B215
    have hrg := hrg.below B215
    have hrd := hrd.below B215
    obtain ⟨o0_0, o0_1, o0_2, o0_3, o0_4, yo0_0, yo0_1, yo0_2, yo0_3, yo0_4⟩ := hK5.k5 (b := w.heap.size) (by omega) l0_0 l0_1 l0_2 l0_3 l0_4 yl0_0 yl0_1 yl0_2 yl0_3 yl0_4
    obtain ⟨o1_0, o1_1, o1_2, o1_3, o1_4, yo1_0, yo1_1, yo1_2, yo1_3, yo1_4⟩ := hK5.k5 (b := w.heap.size + 1) (by omega) l1_0 l1_1 l1_2 l1_3 l1_4 yl1_0 yl1_1 yl1_2 yl1_3 yl1_4
    obtain ⟨o2_0, o2_1, o2_2, o2_3, o2_4, yo2_0, yo2_1, yo2_2, yo2_3, yo2_4⟩ := hK5.k5 (b := w.heap.size + 1 + 1) (by omega) l2_0 l2_1 l2_2 l2_3 l2_4 yl2_0 yl2_1 yl2_2 yl2_3 yl2_4
    clear hK5 B215 l0_0 yl0_0 l0_1 yl0_1 l0_2 yl0_2 l0_3 yl0_3 l0_4 yl0_4 l1_0 yl1_0 l1_1 yl1_1 l1_2 yl1_2 l1_3 yl1_3 l1_4 yl1_4 l2_0 yl2_0 l2_1 yl2_1 l2_2 yl2_2 l2_3 yl2_3 l2_4 yl2_4
    have lt5_0 : w.heap.size < W5.heap.size := (by omega)
    have lt5_1 : w.heap.size + 1 < W5.heap.size := (by omega)
    have lt5_2 : w.heap.size + 1 + 1 < W5.heap.size := (by omega)
    have lt5_3 : g5 < W5.heap.size := (by omega)
    have ne5_0_0 : w.heap.size ≠ W5.heap.size := (by omega)
    have en5_0_0 : W5.heap.size ≠ w.heap.size := (by omega)
    have ne5_1_0 : w.heap.size + 1 ≠ W5.heap.size := (by omega)
    have en5_1_0 : W5.heap.size ≠ w.heap.size + 1 := (by omega)
    have ne5_2_0 : w.heap.size + 1 + 1 ≠ W5.heap.size := (by omega)
    have en5_2_0 : W5.heap.size ≠ w.heap.size + 1 + 1 := (by omega)
    have ne5_3_0 : g5 ≠ W5.heap.size := (by omega)
    have en5_3_0 : W5.heap.size ≠ g5 := (by omega)
    go_upto_region 11 with fail
    have KW5 := Kept.refl W5 (Nat.le_refl _)
    go_cut [9] (fun s9 wx => IBox (W5.heap.size) s9 (b * (ee : Nat) + b' * (dd : Nat)) wx ∧ Kept (W5.heap.size) W5 wx)
    case first =>
      go_region_held3 (fun w' => w'.cell? ⟨w.heap.size, 2, none⟩ = some (.slice A2 n2 c2) ∧ w'.cell? ⟨w.heap.size, 3, none⟩ = some (.bool p2) ∧ w'.cell? ⟨w.heap.size + 1, 2, none⟩ = some (.slice A5 n5 c5) ∧ w'.cell? ⟨w.heap.size + 1, 3, none⟩ = some (.bool p5)) (go_keep) (first | (go_at_call 79; (first | ((with_reducible refine (HS3.out _ _ ?_ ?_).mono ?_); (exact (by (repeat (first | exact Below.refl _ _ | assumption | with_reducible refine Below.drew ?_ | with_reducible refine below_trans ?_ (below_alloc _ _) | with_reducible refine below_trans ?_ (below_drewN _ _) | with_reducible refine Below.setCell ?_ (by simp <;> omega) _ | refine below_trans ?_ (by assumption))))); (exact hr21.below (by (repeat (first | exact Below.refl _ _ | assumption | with_reducible refine Below.drew ?_ | with_reducible refine below_trans ?_ (below_alloc _ _) | with_reducible refine below_trans ?_ (below_drewN _ _) | with_reducible refine Below.setCell ?_ (by simp <;> omega) _ | refine below_trans ?_ (by assumption))))); (rintro e W37 ⟨r37, rfl, hr37, hb37⟩; obtain ⟨A37, n37, c37, rfl, -, -⟩ := hr37.parts; generalize decide (b * (ee : Nat) < 0) = q37 at *; (try (refine cutv (p := W5.heap.size < W37.heap.size) ?_ (fun al1_0_0 => ?_); (refine Nat.lt_of_lt_of_le ?_ hb37.size; (first | (simp <;> fail) | (simp <;> omega) | omega)); refine cutv (p := W37.cell? ⟨W5.heap.size, 0, none⟩ = some (.slice none 0 0)) ?_ (fun ac1_0_0_0 => ?_); (refine (hb37.cell (p := ⟨W5.heap.size, 0, none⟩) ?_).trans ?_; (first | (simp <;> fail) | (simp <;> omega) | omega); (simp [go_sem] <;> fail)); refine cutv (p := W37.frozen? ⟨W5.heap.size, 0, none⟩ = false) ?_ (fun af1_0_0_0 => ?_); (refine (hb37.frozen (p := ⟨W5.heap.size, 0, none⟩) ?_).trans ?_; (first | (simp <;> fail) | (simp <;> omega) | omega); (simp [go_sem] <;> fail)); refine cutv (p := W37.cell? ⟨W5.heap.size, 1, none⟩ = some (.bool false)) ?_ (fun ac1_0_0_1 => ?_); (refine (hb37.cell (p := ⟨W5.heap.size, 1, none⟩) ?_).trans ?_; (first | (simp <;> fail) | (simp <;> omega) | omega); (simp [go_sem] <;> fail)); refine cutv (p := W37.frozen? ⟨W5.heap.size, 1, none⟩ = false) ?_ (fun af1_0_0_1 => ?_); (refine (hb37.frozen (p := ⟨W5.heap.size, 1, none⟩) ?_).trans ?_; (first | (simp <;> fail) | (simp <;> omega) | omega); (simp [go_sem] <;> fail)); have an1_0_0 := Nat.ne_of_lt al1_0_0; have ao1_0_0 := Nat.ne_of_gt al1_0_0; have ap1_0_0 := Nat.lt_succ_of_lt al1_0_0)); have kb37 : Below W5.heap.size W5 W37 := (by (repeat (first | exact Below.refl _ _ | assumption | with_reducible refine Below.drew ?_ | with_reducible refine below_trans ?_ (below_alloc _ _) | with_reducible refine below_trans ?_ (below_drewN _ _) | with_reducible refine Below.setCell ?_ (by simp <;> omega) _ | refine below_trans ?_ (by assumption)))); clear hb37; obtain ⟨hc37, hf37, hz37⟩ := bcells kb37 (W5.heap.size) (by omega); have ne37_0_0 : w.heap.size ≠ W37.heap.size := (by omega); have en37_0_0 : W37.heap.size ≠ w.heap.size := (by omega); have ne37_1_0 : w.heap.size + 1 ≠ W37.heap.size := (by omega); have en37_1_0 : W37.heap.size ≠ w.heap.size + 1 := (by omega); have ne37_2_0 : w.heap.size + 1 + 1 ≠ W37.heap.size := (by omega); have en37_2_0 : W37.heap.size ≠ w.heap.size + 1 + 1 := (by omega); have ne37_3_0 : g5 ≠ W37.heap.size := (by omega); have en37_3_0 : W37.heap.size ≠ g5 := (by omega))) | ((with_reducible refine (HS4.out _ _ ?_ ?_).mono ?_); (exact (by (repeat (first | exact Below.refl _ _ | assumption | with_reducible refine Below.drew ?_ | with_reducible refine below_trans ?_ (below_alloc _ _) | with_reducible refine below_trans ?_ (below_drewN _ _) | with_reducible refine Below.setCell ?_ (by simp <;> omega) _ | refine below_trans ?_ (by assumption))))); (exact hrd.below (by (repeat (first | exact Below.refl _ _ | assumption | with_reducible refine Below.drew ?_ | with_reducible refine below_trans ?_ (below_alloc _ _) | with_reducible refine below_trans ?_ (below_drewN _ _) | with_reducible refine Below.setCell ?_ (by simp <;> omega) _ | refine below_trans ?_ (by assumption))))); (rintro e W38 ⟨r38, rfl, hr38, hb38⟩; obtain ⟨A38, n38, c38, rfl, -, -⟩ := hr38.parts; generalize decide (b' * (dd : Nat) < 0) = q38 at *; (try (refine cutv (p := W5.heap.size < W38.heap.size) ?_ (fun al2_0_0 => ?_); (refine Nat.lt_of_lt_of_le ?_ hb38.size; (have hlt := al1_0_0; first | omega | (simp <;> omega))); refine cutv (p := W38.cell? ⟨W5.heap.size, 0, none⟩ = some (.slice none 0 0)) ?_ (fun ac2_0_0_0 => ?_); (refine (hb38.cell (p := ⟨W5.heap.size, 0, none⟩) ?_).trans ?_; (have hlt := al1_0_0; first | omega | (simp <;> omega)); (first | exact ac1_0_0_0 | (simp [go_sem, *] <;> fail))); refine cutv (p := W38.frozen? ⟨W5.heap.size, 0, none⟩ = false) ?_ (fun af2_0_0_0 => ?_); (refine (hb38.frozen (p := ⟨W5.heap.size, 0, none⟩) ?_).trans ?_; (have hlt := al1_0_0; first | omega | (simp <;> omega)); (first | exact af1_0_0_0 | (simp [go_sem, *] <;> fail))); refine cutv (p := W38.cell? ⟨W5.heap.size, 1, none⟩ = some (.bool false)) ?_ (fun ac2_0_0_1 => ?_); (refine (hb38.cell (p := ⟨W5.heap.size, 1, none⟩) ?_).trans ?_; (have hlt := al1_0_0; first | omega | (simp <;> omega)); (first | exact ac1_0_0_1 | (simp [go_sem, *] <;> fail))); refine cutv (p := W38.frozen? ⟨W5.heap.size, 1, none⟩ = false) ?_ (fun af2_0_0_1 => ?_); (refine (hb38.frozen (p := ⟨W5.heap.size, 1, none⟩) ?_).trans ?_; (have hlt := al1_0_0; first | omega | (simp <;> omega)); (first | exact af1_0_0_1 | (simp [go_sem, *] <;> fail))); have an2_0_0 := Nat.ne_of_lt al2_0_0; have ao2_0_0 := Nat.ne_of_gt al2_0_0; have ap2_0_0 := Nat.lt_succ_of_lt al2_0_0)); (try (refine cutv (p := W37.heap.size < W38.heap.size) ?_ (fun al2_1_0 => ?_); (refine Nat.lt_of_lt_of_le ?_ hb38.size; (first | (simp <;> fail) | (simp <;> omega) | omega)); refine cutv (p := W38.cell? ⟨W37.heap.size, 0, none⟩ = some (.slice none 0 0)) ?_ (fun ac2_1_0_0 => ?_); (refine (hb38.cell (p := ⟨W37.heap.size, 0, none⟩) ?_).trans ?_; (first | (simp <;> fail) | (simp <;> omega) | omega); (simp [go_sem] <;> fail)); refine cutv (p := W38.frozen? ⟨W37.heap.size, 0, none⟩ = false) ?_ (fun af2_1_0_0 => ?_); (refine (hb38.frozen (p := ⟨W37.heap.size, 0, none⟩) ?_).trans ?_; (first | (simp <;> fail) | (simp <;> omega) | omega); (simp [go_sem] <;> fail)); refine cutv (p := W38.cell? ⟨W37.heap.size, 1, none⟩ = some (.bool false)) ?_ (fun ac2_1_0_1 => ?_); (refine (hb38.cell (p := ⟨W37.heap.size, 1, none⟩) ?_).trans ?_; (first | (simp <;> fail) | (simp <;> omega) | omega); (simp [go_sem] <;> fail)); refine cutv (p := W38.frozen? ⟨W37.heap.size, 1, none⟩ = false) ?_ (fun af2_1_0_1 => ?_); (refine (hb38.frozen (p := ⟨W37.heap.size, 1, none⟩) ?_).trans ?_; (first | (simp <;> fail) | (simp <;> omega) | omega); (simp [go_sem] <;> fail)); have an2_1_0 := Nat.ne_of_lt al2_1_0; have ao2_1_0 := Nat.ne_of_gt al2_1_0; have ap2_1_0 := Nat.lt_succ_of_lt al2_1_0)); have kb38 : Below W37.heap.size W37 W38 := (by (repeat (first | exact Below.refl _ _ | assumption | with_reducible refine Below.drew ?_ | with_reducible refine below_trans ?_ (below_alloc _ _) | with_reducible refine below_trans ?_ (below_drewN _ _) | with_reducible refine Below.setCell ?_ (by simp <;> omega) _ | refine below_trans ?_ (by assumption)))); clear hb38; obtain ⟨hc38, hf38, hz38⟩ := bcells kb38 (W5.heap.size) (by omega); have ne38_0_0 : w.heap.size ≠ W38.heap.size := (by omega); have en38_0_0 : W38.heap.size ≠ w.heap.size := (by omega); have ne38_1_0 : w.heap.size + 1 ≠ W38.heap.size := (by omega); have en38_1_0 : W38.heap.size ≠ w.heap.size + 1 := (by omega); have ne38_2_0 : w.heap.size + 1 + 1 ≠ W38.heap.size := (by omega); have en38_2_0 : W38.heap.size ≠ w.heap.size + 1 + 1 := (by omega); have ne38_3_0 : g5 ≠ W38.heap.size := (by omega); have en38_3_0 : W38.heap.size ≠ g5 := (by omega))))) | (go_at_call 75; (first | ((with_reducible refine (HA2.out _ _ _ ?_ ?_).mono ?_); (exact hr37.below (by (repeat (first | exact Below.refl _ _ | assumption | with_reducible refine Below.drew ?_ | with_reducible refine below_trans ?_ (below_alloc _ _) | with_reducible refine below_trans ?_ (below_drewN _ _) | with_reducible refine Below.setCell ?_ (by simp <;> omega) _ | refine below_trans ?_ (by assumption))))); (exact hr38.below (by (repeat (first | exact Below.refl _ _ | assumption | with_reducible refine Below.drew ?_ | with_reducible refine below_trans ?_ (below_alloc _ _) | with_reducible refine below_trans ?_ (below_drewN _ _) | with_reducible refine Below.setCell ?_ (by simp <;> omega) _ | refine below_trans ?_ (by assumption))))); (rintro e W39 ⟨r39, rfl, hr39, hb39⟩; obtain ⟨A39, n39, c39, rfl, -, -⟩ := hr39.parts; generalize decide (b * (ee : Nat) + b' * (dd : Nat) < 0) = q39 at *; (try (refine cutv (p := W5.heap.size < W39.heap.size) ?_ (fun al3_0_0 => ?_); (refine Nat.lt_of_lt_of_le ?_ hb39.size; (have hlt := al2_0_0; first | omega | (simp <;> omega))); refine cutv (p := W39.cell? ⟨W5.heap.size, 0, none⟩ = some (.slice none 0 0)) ?_ (fun ac3_0_0_0 => ?_); (refine (hb39.cell (p := ⟨W5.heap.size, 0, none⟩) ?_).trans ?_; (have hlt := al2_0_0; first | omega | (simp <;> omega)); (first | exact ac2_0_0_0 | (simp [go_sem, *] <;> fail))); refine cutv (p := W39.frozen? ⟨W5.heap.size, 0, none⟩ = false) ?_ (fun af3_0_0_0 => ?_); (refine (hb39.frozen (p := ⟨W5.heap.size, 0, none⟩) ?_).trans ?_; (have hlt := al2_0_0; first | omega | (simp <;> omega)); (first | exact af2_0_0_0 | (simp [go_sem, *] <;> fail))); refine cutv (p := W39.cell? ⟨W5.heap.size, 1, none⟩ = some (.bool false)) ?_ (fun ac3_0_0_1 => ?_); (refine (hb39.cell (p := ⟨W5.heap.size, 1, none⟩) ?_).trans ?_; (have hlt := al2_0_0; first | omega | (simp <;> omega)); (first | exact ac2_0_0_1 | (simp [go_sem, *] <;> fail))); refine cutv (p := W39.frozen? ⟨W5.heap.size, 1, none⟩ = false) ?_ (fun af3_0_0_1 => ?_); (refine (hb39.frozen (p := ⟨W5.heap.size, 1, none⟩) ?_).trans ?_; (have hlt := al2_0_0; first | omega | (simp <;> omega)); (first | exact af2_0_0_1 | (simp [go_sem, *] <;> fail))); have an3_0_0 := Nat.ne_of_lt al3_0_0; have ao3_0_0 := Nat.ne_of_gt al3_0_0; have ap3_0_0 := Nat.lt_succ_of_lt al3_0_0)); (try (refine cutv (p := W37.heap.size < W39.heap.size) ?_ (fun al3_1_0 => ?_); (refine Nat.lt_of_lt_of_le ?_ hb39.size; (have hlt := al2_1_0; first | omega | (simp <;> omega))); refine cutv (p := W39.cell? ⟨W37.heap.size, 0, none⟩ = some (.slice none 0 0)) ?_ (fun ac3_1_0_0 => ?_); (refine (hb39.cell (p := ⟨W37.heap.size, 0, none⟩) ?_).trans ?_; (have hlt := al2_1_0; first | omega | (simp <;> omega)); (first | exact ac2_1_0_0 | (simp [go_sem, *] <;> fail))); refine cutv (p := W39.frozen? ⟨W37.heap.size, 0, none⟩ = false) ?_ (fun af3_1_0_0 => ?_); (refine (hb39.frozen (p := ⟨W37.heap.size, 0, none⟩) ?_).trans ?_; (have hlt := al2_1_0; first | omega | (simp <;> omega)); (first | exact af2_1_0_0 | (simp [go_sem, *] <;> fail))); refine cutv (p := W39.cell? ⟨W37.heap.size, 1, none⟩ = some (.bool false)) ?_ (fun ac3_1_0_1 => ?_); (refine (hb39.cell (p := ⟨W37.heap.size, 1, none⟩) ?_).trans ?_; (have hlt := al2_1_0; first | omega | (simp <;> omega)); (first | exact ac2_1_0_1 | (simp [go_sem, *] <;> fail))); refine cutv (p := W39.frozen? ⟨W37.heap.size, 1, none⟩ = false) ?_ (fun af3_1_0_1 => ?_); (refine (hb39.frozen (p := ⟨W37.heap.size, 1, none⟩) ?_).trans ?_; (have hlt := al2_1_0; first | omega | (simp <;> omega)); (first | exact af2_1_0_1 | (simp [go_sem, *] <;> fail))); have an3_1_0 := Nat.ne_of_lt al3_1_0; have ao3_1_0 := Nat.ne_of_gt al3_1_0; have ap3_1_0 := Nat.lt_succ_of_lt al3_1_0)); (try (refine cutv (p := W38.heap.size < W39.heap.size) ?_ (fun al3_2_0 => ?_); (refine Nat.lt_of_lt_of_le ?_ hb39.size; (first | (simp <;> fail) | (simp <;> omega) | omega)); refine cutv (p := W39.cell? ⟨W38.heap.size, 0, none⟩ = some (.slice none 0 0)) ?_ (fun ac3_2_0_0 => ?_); (refine (hb39.cell (p := ⟨W38.heap.size, 0, none⟩) ?_).trans ?_; (first | (simp <;> fail) | (simp <;> omega) | omega); (simp [go_sem] <;> fail)); refine cutv (p := W39.frozen? ⟨W38.heap.size, 0, none⟩ = false) ?_ (fun af3_2_0_0 => ?_); (refine (hb39.frozen (p := ⟨W38.heap.size, 0, none⟩) ?_).trans ?_; (first | (simp <;> fail) | (simp <;> omega) | omega); (simp [go_sem] <;> fail)); refine cutv (p := W39.cell? ⟨W38.heap.size, 1, none⟩ = some (.bool false)) ?_ (fun ac3_2_0_1 => ?_); (refine (hb39.cell (p := ⟨W38.heap.size, 1, none⟩) ?_).trans ?_; (first | (simp <;> fail) | (simp <;> omega) | omega); (simp [go_sem] <;> fail)); refine cutv (p := W39.frozen? ⟨W38.heap.size, 1, none⟩ = false) ?_ (fun af3_2_0_1 => ?_); (refine (hb39.frozen (p := ⟨W38.heap.size, 1, none⟩) ?_).trans ?_; (first | (simp <;> fail) | (simp <;> omega) | omega); (simp [go_sem] <;> fail)); have an3_2_0 := Nat.ne_of_lt al3_2_0; have ao3_2_0 := Nat.ne_of_gt al3_2_0; have ap3_2_0 := Nat.lt_succ_of_lt al3_2_0)); have kb39 : Below W38.heap.size W38 W39 := (by (repeat (first | exact Below.refl _ _ | assumption | with_reducible refine Below.drew ?_ | with_reducible refine below_trans ?_ (below_alloc _ _) | with_reducible refine below_trans ?_ (below_drewN _ _) | with_reducible refine Below.setCell ?_ (by simp <;> omega) _ | refine below_trans ?_ (by assumption)))); clear hb39; obtain ⟨hc39, hf39, hz39⟩ := bcells kb39 (W5.heap.size) (by omega); have ne39_0_0 : w.heap.size ≠ W39.heap.size := (by omega); have en39_0_0 : W39.heap.size ≠ w.heap.size := (by omega); have ne39_1_0 : w.heap.size + 1 ≠ W39.heap.size := (by omega); have en39_1_0 : W39.heap.size ≠ w.heap.size + 1 := (by omega); have ne39_2_0 : w.heap.size + 1 + 1 ≠ W39.heap.size := (by omega); have en39_2_0 : W39.heap.size ≠ w.heap.size + 1 + 1 := (by omega); have ne39_3_0 : g5 ≠ W39.heap.size := (by omega); have en39_3_0 : W39.heap.size ≠ g5 := (by omega))))))
      all_goals
        go_wp2_with fail
        go_meet
        refine ⟨?_, (by (repeat (first | assumption | with_reducible refine Kept.drew ?_ | with_reducible refine Kept.alloc ?_ _ | with_reducible refine Kept.set ?_ (by first | omega | (simp <;> omega)) _ _ | refine Kept.below ?_ (by assumption))))⟩
        · refine ⟨_, A39, n39, c39, q39, rfl, ?_, ?_, ?_, ?_, ?_⟩
          · first | omega | (simp <;> omega)
          · first | (simp <;> fail) | (simp <;> omega) | (simp; exact lt_of_cell (by assumption))
          · simp [go_sem, *]
          · simp [go_sem, *]
          · (repeat (first | exact hr39 | with_reducible refine IsInt.below ?_ (below_alloc _ _) | ((with_reducible refine IsInt.box2 ?_ (IntBox.mk (A := none) (n := 0) (c := 0) (p := false) ?_ ?_) _ _); rotate_left; (first | assumption | (simp [go_sem, *] <;> fail)); (first | assumption | (simp [go_sem, *] <;> fail)))))
    case rest =>
      obtain ⟨⟨g6, A39, n39, c39, q39, rfl, hg6, hl6, e6_0, e6_1, hi6⟩, hK6⟩ := hcut
      obtain ⟨W6, rfl⟩ : ∃ W6 : World, W6 = wc := ⟨_, rfl⟩
      have hz6 : W5.heap.size ≤ W6.heap.size := hK6.2.2.1
      have B56 : Below W5.heap.size W5 W6 := hK6.2.2.2 _ (Nat.le_refl _)
      have B6 := below_trans B5 B56
      have hrg := hrg.below B56
      have hrd := hrd.below B56
      have d5_0 : W6.cell? ⟨g5, 0, none⟩ = some (.slice A29 n29 c29) := (hK6.1 _ _ (by omega)).trans e5_0
      have d5_1 : W6.cell? ⟨g5, 1, none⟩ = some (.bool q29) := (hK6.1 _ _ (by omega)).trans e5_1
      have hi5 := hi5.below B56
      obtain ⟨s0_0, s0_1, s0_2, s0_3, s0_4, ys0_0, ys0_1, ys0_2, ys0_3, ys0_4⟩ := hK6.k5 (b := w.heap.size) (by omega) o0_0 o0_1 o0_2 o0_3 o0_4 yo0_0 yo0_1 yo0_2 yo0_3 yo0_4
      obtain ⟨s1_0, s1_1, s1_2, s1_3, s1_4, ys1_0, ys1_1, ys1_2, ys1_3, ys1_4⟩ := hK6.k5 (b := w.heap.size + 1) (by omega) o1_0 o1_1 o1_2 o1_3 o1_4 yo1_0 yo1_1 yo1_2 yo1_3 yo1_4
      obtain ⟨s2_0, s2_1, s2_2, s2_3, s2_4, ys2_0, ys2_1, ys2_2, ys2_3, ys2_4⟩ := hK6.k5 (b := w.heap.size + 1 + 1) (by omega) o2_0 o2_1 o2_2 o2_3 o2_4 yo2_0 yo2_1 yo2_2 yo2_3 yo2_4
      clear hK6 B56 e5_0 e5_1 o0_0 yo0_0 o0_1 yo0_1 o0_2 yo0_2 o0_3 yo0_3 o0_4 yo0_4 o1_0 yo1_0 o1_1 yo1_1 o1_2 yo1_2 o1_3 yo1_3 o1_4 yo1_4 o2_0 yo2_0 o2_1 yo2_1 o2_2 yo2_2 o2_3 yo2_3 o2_4 yo2_4
      have lt6_0 : w.heap.size < W6.heap.size := (by omega)
      have lt6_1 : w.heap.size + 1 < W6.heap.size := (by omega)
      have lt6_2 : w.heap.size + 1 + 1 < W6.heap.size := (by omega)
      have lt6_3 : g5 < W6.heap.size := (by omega)
      have lt6_4 : g6 < W6.heap.size := (by omega)
      have ne6_0_0 : w.heap.size ≠ W6.heap.size := (by omega)
      have en6_0_0 : W6.heap.size ≠ w.heap.size := (by omega)
      have ne6_1_0 : w.heap.size + 1 ≠ W6.heap.size := (by omega)
      have en6_1_0 : W6.heap.size ≠ w.heap.size + 1 := (by omega)
      have ne6_2_0 : w.heap.size + 1 + 1 ≠ W6.heap.size := (by omega)
      have en6_2_0 : W6.heap.size ≠ w.heap.size + 1 + 1 := (by omega)
      have ne6_3_0 : g5 ≠ W6.heap.size := (by omega)
      have en6_3_0 : W6.heap.size ≠ g5 := (by omega)
      have ne6_4_0 : g6 ≠ W6.heap.size := (by omega)
      have en6_4_0 : W6.heap.size ≠ g6 := (by omega)
      have nq_0 : w.heap.size + 1 + 1 ≠ g5 := (by omega)
      have mq_0 : g5 ≠ w.heap.size + 1 + 1 := (by omega)
      have nq_1 : w.heap.size + 1 + 1 ≠ g6 := (by omega)
      have mq_1 : g6 ≠ w.heap.size + 1 + 1 := (by omega)
      have NB6 : NumBox W6 (w.heap.size + 1 + 1) := .nil s2_0 s2_1 s2_2 s2_3 s2_4
      go_wp2_with fail
      go_region_held3 (fun w' => w'.cell? ⟨g5, 0, none⟩ = some (.slice A29 n29 c29) ∧ w'.cell? ⟨g5, 1, none⟩ = some (.bool q29) ∧ w'.cell? ⟨g6, 0, none⟩ = some (.slice A39 n39 c39) ∧ w'.cell? ⟨g6, 1, none⟩ = some (.bool q39) ∧ w'.cell? ⟨w.heap.size + 1, 0, none⟩ = some (.slice A4 n4 c4) ∧ w'.cell? ⟨w.heap.size + 1, 1, none⟩ = some (.bool p4) ∧ w'.cell? ⟨w.heap.size + 1, 2, none⟩ = some (.slice A5 n5 c5) ∧ w'.cell? ⟨w.heap.size + 1, 3, none⟩ = some (.bool p5) ∧ w'.cell? ⟨w.heap.size + 1, 4, none⟩ = some (.slice A6 n6 c6)) (go_keep) (first | (go_at_call 76; (first | ((with_reducible refine (HD2.out _ ?_).mono ?_); (exact (by (repeat (first | exact Below.refl _ _ | assumption | with_reducible refine Below.drew ?_ | with_reducible refine below_trans ?_ (below_alloc _ _) | with_reducible refine below_trans ?_ (below_drewN _ _) | with_reducible refine Below.setCell ?_ (by simp <;> omega) _ | refine below_trans ?_ (by assumption))))); (rintro e W48 ⟨r48, rfl, hr48, hb48⟩; obtain ⟨A48, n48, c48, rfl, hnn48⟩ := hr48.ex; clear hnn48; have kb48 : Below W6.heap.size W6 W48 := (by (repeat (first | exact Below.refl _ _ | assumption | with_reducible refine Below.drew ?_ | with_reducible refine below_trans ?_ (below_alloc _ _) | with_reducible refine below_trans ?_ (below_drewN _ _) | with_reducible refine Below.setCell ?_ (by simp <;> omega) _ | refine below_trans ?_ (by assumption)))); clear hb48; obtain ⟨hc48, hf48, hz48⟩ := bcells kb48 (W6.heap.size) (by omega); have ne48_0_0 : w.heap.size ≠ W48.heap.size := (by omega); have en48_0_0 : W48.heap.size ≠ w.heap.size := (by omega); have ne48_1_0 : w.heap.size + 1 ≠ W48.heap.size := (by omega); have en48_1_0 : W48.heap.size ≠ w.heap.size + 1 := (by omega); have ne48_2_0 : w.heap.size + 1 + 1 ≠ W48.heap.size := (by omega); have en48_2_0 : W48.heap.size ≠ w.heap.size + 1 + 1 := (by omega); have ne48_3_0 : g5 ≠ W48.heap.size := (by omega); have en48_3_0 : W48.heap.size ≠ g5 := (by omega); have ne48_4_0 : g6 ≠ W48.heap.size := (by omega); have en48_4_0 : W48.heap.size ≠ g6 := (by omega))))) | (go_at_call 81; (first | ((with_reducible refine (HM.out _ _ _ ?_ ?_).mono ?_); (exact hrd.below (below_trans kb48 (by (repeat (first | exact Below.refl _ _ | assumption | with_reducible refine Below.drew ?_ | with_reducible refine below_trans ?_ (below_alloc _ _) | with_reducible refine below_trans ?_ (below_drewN _ _) | with_reducible refine Below.setCell ?_ (by simp <;> omega) _ | refine below_trans ?_ (by assumption)))))); (exact hr48.below (by (repeat (first | exact Below.refl _ _ | assumption | with_reducible refine Below.drew ?_ | with_reducible refine below_trans ?_ (below_alloc _ _) | with_reducible refine below_trans ?_ (below_drewN _ _) | with_reducible refine Below.setCell ?_ (by simp <;> omega) _ | refine below_trans ?_ (by assumption))))); (rintro e W49 ⟨r49, rfl, hr49, hb49⟩; obtain ⟨A49, n49, c49, rfl, hnn49⟩ := hr49.ex; clear hnn49; have kb49 : Below W48.heap.size W48 W49 := (by (repeat (first | exact Below.refl _ _ | assumption | with_reducible refine Below.drew ?_ | with_reducible refine below_trans ?_ (below_alloc _ _) | with_reducible refine below_trans ?_ (below_drewN _ _) | with_reducible refine Below.setCell ?_ (by simp <;> omega) _ | refine below_trans ?_ (by assumption)))); clear hb49; obtain ⟨hc49, hf49, hz49⟩ := bcells kb49 (W6.heap.size) (by omega))))) | (go_at_call 80; (first | ((with_reducible refine (HR.out _ _ _ _ _ ?_ ?_ ?_ ?_ ?_).mono ?_); (exact (by (repeat (first | exact Below.refl _ _ | assumption | with_reducible refine Below.drew ?_ | with_reducible refine below_trans ?_ (below_alloc _ _) | with_reducible refine below_trans ?_ (below_drewN _ _) | with_reducible refine Below.setCell ?_ (by simp <;> omega) _ | refine below_trans ?_ (by assumption))))); (exact hi5.below (below_trans (below_trans kb48 kb49) (by (repeat (first | exact Below.refl _ _ | assumption | with_reducible refine Below.drew ?_ | with_reducible refine below_trans ?_ (below_alloc _ _) | with_reducible refine below_trans ?_ (below_drewN _ _) | with_reducible refine Below.setCell ?_ (by simp <;> omega) _ | refine below_trans ?_ (by assumption)))))); (exact hi6.below (below_trans (below_trans kb48 kb49) (by (repeat (first | exact Below.refl _ _ | assumption | with_reducible refine Below.drew ?_ | with_reducible refine below_trans ?_ (below_alloc _ _) | with_reducible refine below_trans ?_ (below_drewN _ _) | with_reducible refine Below.setCell ?_ (by simp <;> omega) _ | refine below_trans ?_ (by assumption)))))); (exact hr49.below (by (repeat (first | exact Below.refl _ _ | assumption | with_reducible refine Below.drew ?_ | with_reducible refine below_trans ?_ (below_alloc _ _) | with_reducible refine below_trans ?_ (below_drewN _ _) | with_reducible refine Below.setCell ?_ (by simp <;> omega) _ | refine below_trans ?_ (by assumption))))); (exact hrg.below (below_trans (below_trans kb48 kb49) (by (repeat (first | exact Below.refl _ _ | assumption | with_reducible refine Below.drew ?_ | with_reducible refine below_trans ?_ (below_alloc _ _) | with_reducible refine below_trans ?_ (below_drewN _ _) | with_reducible refine Below.setCell ?_ (by simp <;> omega) _ | refine below_trans ?_ (by assumption)))))); (rintro e W50 ⟨r50, rfl, hr50, hb50⟩; obtain ⟨A50, n50, c50, p50, A50', n50', c50', p50', A50'', n50'', c50'', a50, b50, d50, rfl, -⟩ := hr50.parts; have kb50 : Below W49.heap.size W49 W50 := (by (repeat (first | exact Below.refl _ _ | assumption | with_reducible refine Below.drew ?_ | with_reducible refine below_trans ?_ (below_alloc _ _) | with_reducible refine below_trans ?_ (below_drewN _ _) | with_reducible refine Below.setCell ?_ (by simp <;> omega) _ | refine below_trans ?_ (by assumption)))); clear hb50; obtain ⟨hc50, hf50, hz50⟩ := bcells kb50 (W6.heap.size) (by omega))))))
      go_wp2
      have KB := below_trans (below_trans kb48 kb49) kb50
      have B9 := below_trans B6 KB
      obtain ⟨hc9, hf9, hz9⟩ := bcells KB (W6.heap.size) (by omega)
      have NB9 : NumBox W50 (w.heap.size + 1 + 1) := NumBox.of hc9 (by omega) NB6
      refine bodyPost_ret (v := .agg #[.slice A50 n50 c50, .bool p50, .slice A50' n50' c50', .bool p50', .slice A50'' n50'' c50'']) (by simp [results, Tryz.results15]; exact run_load5 NB9 _ _ _ _ _) rfl ?_
      exact RetNum.box B9 (by omega) NB9 (hr50) _ _ _ _ _

set_option maxHeartbeats 4000000 in
theorem addN_v (v u : Value) (x y : Cx) (w : World) (h : IsNum w v x) (h' : IsNum w u y) (m n : Nat) (hx : Sz x m) (hy : Sz y n) (hm : m + n + 1 < 549755813888) (hT : Tab w) (h1 : x ≠ .zero) (h2 : y ≠ .zero) (hdx : ∀ a b d, Low x a b d → d = 1) (hdy : ¬ ∀ a b d, Low y a b d → d = 1) :
    Calls Tryz.prog 15 #[v, u] w (RetNum w (x.add y)) := by
  have HX := Lib.hid (fun W (hb : Below w.heap.size w W) => h.below hb)
  have HY := Lib.hid (fun W (hb : Below w.heap.size w W) => h'.below hb)
  have c1 := fun W (hb : Below w.heap.size w W) => clear_any _ _ W (h.below hb)
  have c2 := fun W (hb : Below w.heap.size w W) => clear_any _ _ W (h'.below hb)
  have HDx := Lib.hid (fun W (hb : Below w.heap.size w W) => denominator_any _ _ W (h.below hb))
  have HDy := Lib.hid (fun W (hb : Below w.heap.size w W) => denominator_any _ _ W (h'.below hb))
  rw [decide_eq_false h1] at c1
  rw [decide_eq_false h2] at c2
  have HC1 := Lib.hid c1
  have HC2 := Lib.hid c2
  obtain ⟨A1, n1, c1, p1, A2, n2, c2, p2, A3, n3, c3, a, b, d, rfl, hl, hr, hi, hs, hn3, -, -, -, -⟩ := h.parts
  obtain ⟨A4, n4, c4, p4, A5, n5, c5, p5, A6, n6, c6, a', b', d', rfl, hl', hr', hi', hs', hn6, -, -, -, -⟩ := h'.parts
  have s1 := hx _ _ _ hl
  have s2 := hy _ _ _ hl'
  have hn : ¬ n6 = 0 := fun e => by
    have e1 := dn_wl hl'.pos hn6 e
    subst e1
    exact hdy fun a2 b2 d2 hl2 => (hl2.uniq hl').2.2
  have hn' : n3 = 0 := by
    have e1 := hdx _ _ _ hl
    subst e1
    rw [hn3, dn_one, wl_zero]
  have b3 : ((n3 : Int) == 0) = true := by simp [hn']
  have b6 : ((n6 : Int) == 0) = false := by simp [hn]
  clear hn hn' hdx hdy
  have hg0 : 0 < (Nat.gcd d d') := Nat.gcd_pos_of_pos_left _ hl.pos
  have k1 := wl_mono (Nat.div_le_self d (Nat.gcd d d'))
  have k2 := wl_mono (Nat.div_le_self d' (Nat.gcd d d'))
  have k3 := wl_mono (Nat.gcd_le_left d' hl.pos)
  have i1 := wl_imul a ((d' / Nat.gcd d d') : Nat)
  have i2 := wl_imul a' ((d / Nat.gcd d d') : Nat)
  have i3 := wl_imul b ((d' / Nat.gcd d d') : Nat)
  have i4 := wl_imul b' ((d / Nat.gcd d d') : Nat)
  rw [wl_inat] at i1 i2 i3 i4
  have i5 := wl_iadd (a * ((d' / Nat.gcd d d') : Nat)) (a' * ((d / Nat.gcd d d') : Nat))
  have i6 := wl_iadd (b * ((d' / Nat.gcd d d') : Nat)) (b' * ((d / Nat.gcd d d') : Nat))
  have i7 := wl_mul (d / Nat.gcd d d') d'
  have ht := add_terms' hl hl'
  have hdd : 0 < (d / Nat.gcd d d') := Nat.div_pos (Nat.le_of_dvd hl.pos (Nat.gcd_dvd_left _ _)) hg0
  have HD1 := Lib.hid (fun W (hb : Below w.heap.size w W) => HDx.out W hb a b d hl)
  have HD2 := Lib.hid (fun W (hb : Below w.heap.size w W) => HDy.out W hb a' b' d' hl')
  have HG := Lib.hid (fun W v u (hb : Below w.heap.size w W) (hv : IsNat W v d) (hu : IsNat W u d') => gcd_any _ _ _ _ W hv hu (by omega) (by omega) (hT.below hb))
  have HE1 := Lib.hid (fun W v u (hb : Below w.heap.size w W) (hv : IsNat W v d) (hu : IsNat W u (Nat.gcd d d')) => exact_any _ _ _ _ W hv hu hg0 (by omega) (by omega) (hT.below hb))
  have HE2 := Lib.hid (fun W v u (hb : Below w.heap.size w W) (hv : IsNat W v d') (hu : IsNat W u (Nat.gcd d d')) => exact_any _ _ _ _ W hv hu hg0 (by omega) (by omega) (hT.below hb))
  have HS1 := Lib.hid (fun W u (hb : Below w.heap.size w W) (hu : IsNat W u (d' / Nat.gcd d d')) => scaleI_any _ u _ _ W (hr.below hb) hu (by omega))
  have HS2 := Lib.hid (fun W u (hb : Below w.heap.size w W) (hu : IsNat W u (d / Nat.gcd d d')) => scaleI_any _ u _ _ W (hr'.below hb) hu (by omega))
  have HS3 := Lib.hid (fun W u (hb : Below w.heap.size w W) (hu : IsNat W u (d' / Nat.gcd d d')) => scaleI_any _ u _ _ W (hi.below hb) hu (by omega))
  have HS4 := Lib.hid (fun W u (hb : Below w.heap.size w W) (hu : IsNat W u (d / Nat.gcd d d')) => scaleI_any _ u _ _ W (hi'.below hb) hu (by omega))
  have HA1 := Lib.hid (fun W v u (h1 : IsInt W v (a * ((d' / Nat.gcd d d') : Nat))) (h2 : IsInt W u (a' * ((d / Nat.gcd d d') : Nat))) => addI_any _ _ _ _ W h1 h2 (by omega) (by omega))
  have HA2 := Lib.hid (fun W v u (h1 : IsInt W v (b * ((d' / Nat.gcd d d') : Nat))) (h2 : IsInt W u (b' * ((d / Nat.gcd d d') : Nat))) => addI_any _ _ _ _ W h1 h2 (by omega) (by omega))
  have HM := Lib.hid (fun W v u (h1 : IsNat W v (d / Nat.gcd d d')) (h2 : IsNat W u d') => mul_any _ _ _ _ W h1 h2 (by omega))
  have HR := Lib.hid (fun W r i s t (hb : Below w.heap.size w W) (h1 : IsInt W r (a * ((d' / Nat.gcd d d') : Nat) + a' * ((d / Nat.gcd d d') : Nat))) (h2 : IsInt W i (b * ((d' / Nat.gcd d d') : Nat) + b' * ((d / Nat.gcd d d') : Nat))) (h3 : IsNat W s ((d / Nat.gcd d d') * d')) (h4 : IsNat W t (Nat.gcd d d')) =>
    reduced_any r i s t _ _ ((d / Nat.gcd d d') * d') _ _ (x.add y) W h1 h2 h3 h4 (Den.self (Nat.mul_pos hdd hl'.pos)) (fun _ => ⟨Nat.dvd_trans (Nat.gcd_dvd_right d d') (Nat.dvd_mul_left _ _), add_common hl hl'⟩) ht.1 ht.2 (by omega) (by omega) (by omega) (hT.below hb))
  clear c1 c2 h1 h2 s1 s2 k1 k2 k3 i1 i2 i3 i4 i5 i6 i7 ht hdd hg0 HDx HDy h h' hx hy hm hT hl hr hi hs hn3 hl' hr' hi' hs' hn6
  generalize hgg : Nat.gcd d d' = g at *
  generalize hee : (d' / g) = ee at *
  generalize hdd : (d / g) = dd at *
  clear hgg hee hdd
  go_enter Tryz.func15, Tryz.ntmps15
  go_upto_region 1 with fail
  obtain ⟨W1, hW1⟩ : ∃ W1 : World, W1 = (((w.alloc (.cells #[.slice A1 n1 c1, .bool p1, .slice A2 n2 c2, .bool p2, .slice A3 n3 c3] 27)).alloc (.cells #[.slice A4 n4 c4, .bool p4, .slice A5 n5 c5, .bool p5, .slice A6 n6 c6] 27)).alloc (.cells #[.slice none 0 0, .bool false, .slice none 0 0, .bool false, .slice none 0 0] 27)) := ⟨_, rfl⟩
  rw [← hW1]
  have B1 : Below w.heap.size w W1 := by rw [hW1]; exact (by (repeat (first | exact Below.refl _ _ | assumption | with_reducible refine Below.drew ?_ | with_reducible refine below_trans ?_ (below_alloc _ _) | with_reducible refine below_trans ?_ (below_drewN _ _) | with_reducible refine Below.setCell ?_ (by simp <;> omega) _ | refine below_trans ?_ (by assumption))))
  have hz1 : w.heap.size + 3 ≤ W1.heap.size := by rw [hW1]; simp
  obtain ⟨f0_0, f0_1, f0_2, f0_3, f0_4, yf0_0, yf0_1, yf0_2, yf0_3, yf0_4⟩ : Bx5 W1 (w.heap.size) (.slice A1 n1 c1) (.bool p1) (.slice A2 n2 c2) (.bool p2) (.slice A3 n3 c3) := by rw [hW1]; simp [Bx5, go_sem]
  obtain ⟨f1_0, f1_1, f1_2, f1_3, f1_4, yf1_0, yf1_1, yf1_2, yf1_3, yf1_4⟩ : Bx5 W1 (w.heap.size + 1) (.slice A4 n4 c4) (.bool p4) (.slice A5 n5 c5) (.bool p5) (.slice A6 n6 c6) := by rw [hW1]; simp [Bx5, go_sem]
  obtain ⟨f2_0, f2_1, f2_2, f2_3, f2_4, yf2_0, yf2_1, yf2_2, yf2_3, yf2_4⟩ : Bx5 W1 (w.heap.size + 1 + 1) (.slice none 0 0) (.bool false) (.slice none 0 0) (.bool false) (.slice none 0 0) := by rw [hW1]; simp [Bx5, go_sem]
  clear hW1
  go_wp2_with fail
  refine (HC1.out _ B1).mono ?_
  rintro e W7 ⟨rfl, hb7⟩
  have B7 := below_trans B1 hb7
  have hK7 := (Kept.refl W1 (Nat.le_refl _)).below hb7
  have hz7 : W1.heap.size ≤ W7.heap.size := hK7.2.2.1
  obtain ⟨g0_0, g0_1, g0_2, g0_3, g0_4, yg0_0, yg0_1, yg0_2, yg0_3, yg0_4⟩ := hK7.k5 (b := w.heap.size) (by omega) f0_0 f0_1 f0_2 f0_3 f0_4 yf0_0 yf0_1 yf0_2 yf0_3 yf0_4
  obtain ⟨g1_0, g1_1, g1_2, g1_3, g1_4, yg1_0, yg1_1, yg1_2, yg1_3, yg1_4⟩ := hK7.k5 (b := w.heap.size + 1) (by omega) f1_0 f1_1 f1_2 f1_3 f1_4 yf1_0 yf1_1 yf1_2 yf1_3 yf1_4
  obtain ⟨g2_0, g2_1, g2_2, g2_3, g2_4, yg2_0, yg2_1, yg2_2, yg2_3, yg2_4⟩ := hK7.k5 (b := w.heap.size + 1 + 1) (by omega) f2_0 f2_1 f2_2 f2_3 f2_4 yf2_0 yf2_1 yf2_2 yf2_3 yf2_4
  clear hK7 hb7 f0_0 yf0_0 f0_1 yf0_1 f0_2 yf0_2 f0_3 yf0_3 f0_4 yf0_4 f1_0 yf1_0 f1_1 yf1_1 f1_2 yf1_2 f1_3 yf1_3 f1_4 yf1_4 f2_0 yf2_0 f2_1 yf2_1 f2_2 yf2_2 f2_3 yf2_3 f2_4 yf2_4
  have lt0_0 : w.heap.size < W7.heap.size := (by omega)
  have lt0_1 : w.heap.size + 1 < W7.heap.size := (by omega)
  have lt0_2 : w.heap.size + 1 + 1 < W7.heap.size := (by omega)
  have ne0_0_0 : w.heap.size ≠ W7.heap.size := (by omega)
  have en0_0_0 : W7.heap.size ≠ w.heap.size := (by omega)
  have ne0_1_0 : w.heap.size + 1 ≠ W7.heap.size := (by omega)
  have en0_1_0 : W7.heap.size ≠ w.heap.size + 1 := (by omega)
  have ne0_2_0 : w.heap.size + 1 + 1 ≠ W7.heap.size := (by omega)
  have en0_2_0 : W7.heap.size ≠ w.heap.size + 1 + 1 := (by omega)
  have nr_0 : w.heap.size + 1 + 1 ≠ w.heap.size := (by omega)
  have mr_0 : w.heap.size ≠ w.heap.size + 1 + 1 := (by omega)
  have nr_1 : w.heap.size + 1 + 1 ≠ w.heap.size + 1 := (by omega)
  have mr_1 : w.heap.size + 1 ≠ w.heap.size + 1 + 1 := (by omega)
  go_wp2_with fail
  refine (HC2.out _ B7).mono ?_
  rintro e W8 ⟨rfl, hb8⟩
  have B8 := below_trans B7 hb8
  have hK8 := (Kept.refl W7 (Nat.le_refl _)).below hb8
  have hz8 : W7.heap.size ≤ W8.heap.size := hK8.2.2.1
  obtain ⟨j0_0, j0_1, j0_2, j0_3, j0_4, yj0_0, yj0_1, yj0_2, yj0_3, yj0_4⟩ := hK8.k5 (b := w.heap.size) (by omega) g0_0 g0_1 g0_2 g0_3 g0_4 yg0_0 yg0_1 yg0_2 yg0_3 yg0_4
  obtain ⟨j1_0, j1_1, j1_2, j1_3, j1_4, yj1_0, yj1_1, yj1_2, yj1_3, yj1_4⟩ := hK8.k5 (b := w.heap.size + 1) (by omega) g1_0 g1_1 g1_2 g1_3 g1_4 yg1_0 yg1_1 yg1_2 yg1_3 yg1_4
  obtain ⟨j2_0, j2_1, j2_2, j2_3, j2_4, yj2_0, yj2_1, yj2_2, yj2_3, yj2_4⟩ := hK8.k5 (b := w.heap.size + 1 + 1) (by omega) g2_0 g2_1 g2_2 g2_3 g2_4 yg2_0 yg2_1 yg2_2 yg2_3 yg2_4
  clear hK8 hb8 g0_0 yg0_0 g0_1 yg0_1 g0_2 yg0_2 g0_3 yg0_3 g0_4 yg0_4 g1_0 yg1_0 g1_1 yg1_1 g1_2 yg1_2 g1_3 yg1_3 g1_4 yg1_4 g2_0 yg2_0 g2_1 yg2_1 g2_2 yg2_2 g2_3 yg2_3 g2_4 yg2_4
  have lt8_0 : w.heap.size < W8.heap.size := (by omega)
  have lt8_1 : w.heap.size + 1 < W8.heap.size := (by omega)
  have lt8_2 : w.heap.size + 1 + 1 < W8.heap.size := (by omega)
  have ne8_0_0 : w.heap.size ≠ W8.heap.size := (by omega)
  have en8_0_0 : W8.heap.size ≠ w.heap.size := (by omega)
  have ne8_1_0 : w.heap.size + 1 ≠ W8.heap.size := (by omega)
  have en8_1_0 : W8.heap.size ≠ w.heap.size + 1 := (by omega)
  have ne8_2_0 : w.heap.size + 1 + 1 ≠ W8.heap.size := (by omega)
  have en8_2_0 : W8.heap.size ≠ w.heap.size + 1 + 1 := (by omega)
  go_wp2_with fail
  go_region_held3 (fun w' => w'.cell? ⟨w.heap.size, 0, none⟩ = some (.slice A1 n1 c1) ∧ w'.cell? ⟨w.heap.size, 1, none⟩ = some (.bool p1) ∧ w'.cell? ⟨w.heap.size, 2, none⟩ = some (.slice A2 n2 c2) ∧ w'.cell? ⟨w.heap.size, 3, none⟩ = some (.bool p2) ∧ w'.cell? ⟨w.heap.size, 4, none⟩ = some (.slice A3 n3 c3) ∧ w'.cell? ⟨w.heap.size + 1, 0, none⟩ = some (.slice A4 n4 c4) ∧ w'.cell? ⟨w.heap.size + 1, 1, none⟩ = some (.bool p4) ∧ w'.cell? ⟨w.heap.size + 1, 2, none⟩ = some (.slice A5 n5 c5) ∧ w'.cell? ⟨w.heap.size + 1, 3, none⟩ = some (.bool p5) ∧ w'.cell? ⟨w.heap.size + 1, 4, none⟩ = some (.slice A6 n6 c6)) (go_keep) (first | (go_at_call 76; (first | ((with_reducible refine (HD1.out _ ?_).mono ?_); (exact (by (repeat (first | exact Below.refl _ _ | assumption | with_reducible refine Below.drew ?_ | with_reducible refine below_trans ?_ (below_alloc _ _) | with_reducible refine below_trans ?_ (below_drewN _ _) | with_reducible refine Below.setCell ?_ (by simp <;> omega) _ | refine below_trans ?_ (by assumption))))); (rintro e W17 ⟨r17, rfl, hr17, hb17⟩; obtain ⟨A17, n17, c17, rfl, hnn17⟩ := hr17.ex; clear hnn17; have kb17 : Below W8.heap.size W8 W17 := (by (repeat (first | exact Below.refl _ _ | assumption | with_reducible refine Below.drew ?_ | with_reducible refine below_trans ?_ (below_alloc _ _) | with_reducible refine below_trans ?_ (below_drewN _ _) | with_reducible refine Below.setCell ?_ (by simp <;> omega) _ | refine below_trans ?_ (by assumption)))); clear hb17; obtain ⟨hc17, hf17, hz17⟩ := bcells kb17 (W8.heap.size) (by omega))) | ((with_reducible refine (HD2.out _ ?_).mono ?_); (exact (by (repeat (first | exact Below.refl _ _ | assumption | with_reducible refine Below.drew ?_ | with_reducible refine below_trans ?_ (below_alloc _ _) | with_reducible refine below_trans ?_ (below_drewN _ _) | with_reducible refine Below.setCell ?_ (by simp <;> omega) _ | refine below_trans ?_ (by assumption))))); (rintro e W18 ⟨r18, rfl, hr18, hb18⟩; obtain ⟨A18, n18, c18, rfl, hnn18⟩ := hr18.ex; clear hnn18; have kb18 : Below W17.heap.size W17 W18 := (by (repeat (first | exact Below.refl _ _ | assumption | with_reducible refine Below.drew ?_ | with_reducible refine below_trans ?_ (below_alloc _ _) | with_reducible refine below_trans ?_ (below_drewN _ _) | with_reducible refine Below.setCell ?_ (by simp <;> omega) _ | refine below_trans ?_ (by assumption)))); clear hb18; obtain ⟨hc18, hf18, hz18⟩ := bcells kb18 (W8.heap.size) (by omega))))))
  go_wp2_with fail
  have B18 := below_trans (below_trans B8 kb17) kb18
  refine (HG.out _ _ _ B18 (hr17.below kb18) hr18).mono ?_
  rintro e W19 ⟨r19, rfl, hr19, kb19⟩
  obtain ⟨A19, n19, c19, rfl, hnn19⟩ := hr19.ex
  clear hnn19
  go_wp2_with fail
  have B19 := below_trans B18 kb19
  refine (HE1.out _ _ _ B19 (hr17.below (below_trans kb18 kb19)) hr19).mono ?_
  rintro e W20 ⟨r20, rfl, hr20, kb20⟩
  obtain ⟨A20, n20, c20, rfl, hnn20⟩ := hr20.ex
  clear hnn20
  go_wp2_with fail
  have B20 := below_trans B19 kb20
  refine (HE2.out _ _ _ B20 (hr18.below (below_trans kb19 kb20)) (hr19.below kb20)).mono ?_
  rintro e W21 ⟨r21, rfl, hr21, kb21⟩
  obtain ⟨A21, n21, c21, rfl, hnn21⟩ := hr21.ex
  clear hnn21
  have B21 := below_trans B20 kb21
  have KB := below_trans (below_trans (below_trans (below_trans kb17 kb18) kb19) kb20) kb21
  have hK21 := (Kept.refl W8 (Nat.le_refl _)).below KB
  have hz21 : W8.heap.size ≤ W21.heap.size := hK21.2.2.1
  have hrg := hr19.below (below_trans kb20 kb21)
  have hrd := hr20.below kb21
  clear hr17 hr18 hr19 hr20 kb17 kb18 kb19 kb20 kb21 KB B18 B19 B20 hc17 hf17 hc18 hf18
  obtain ⟨l0_0, l0_1, l0_2, l0_3, l0_4, yl0_0, yl0_1, yl0_2, yl0_3, yl0_4⟩ := hK21.k5 (b := w.heap.size) (by omega) j0_0 j0_1 j0_2 j0_3 j0_4 yj0_0 yj0_1 yj0_2 yj0_3 yj0_4
  obtain ⟨l1_0, l1_1, l1_2, l1_3, l1_4, yl1_0, yl1_1, yl1_2, yl1_3, yl1_4⟩ := hK21.k5 (b := w.heap.size + 1) (by omega) j1_0 j1_1 j1_2 j1_3 j1_4 yj1_0 yj1_1 yj1_2 yj1_3 yj1_4
  obtain ⟨l2_0, l2_1, l2_2, l2_3, l2_4, yl2_0, yl2_1, yl2_2, yl2_3, yl2_4⟩ := hK21.k5 (b := w.heap.size + 1 + 1) (by omega) j2_0 j2_1 j2_2 j2_3 j2_4 yj2_0 yj2_1 yj2_2 yj2_3 yj2_4
  clear hK21 j0_0 yj0_0 j0_1 yj0_1 j0_2 yj0_2 j0_3 yj0_3 j0_4 yj0_4 j1_0 yj1_0 j1_1 yj1_1 j1_2 yj1_2 j1_3 yj1_3 j1_4 yj1_4 j2_0 yj2_0 j2_1 yj2_1 j2_2 yj2_2 j2_3 yj2_3 j2_4 yj2_4
  have lt21_0 : w.heap.size < W21.heap.size := (by omega)
  have lt21_1 : w.heap.size + 1 < W21.heap.size := (by omega)
  have lt21_2 : w.heap.size + 1 + 1 < W21.heap.size := (by omega)
  have ne21_0_0 : w.heap.size ≠ W21.heap.size := (by omega)
  have en21_0_0 : W21.heap.size ≠ w.heap.size := (by omega)
  have ne21_1_0 : w.heap.size + 1 ≠ W21.heap.size := (by omega)
  have en21_1_0 : W21.heap.size ≠ w.heap.size + 1 := (by omega)
  have ne21_2_0 : w.heap.size + 1 + 1 ≠ W21.heap.size := (by omega)
  have en21_2_0 : W21.heap.size ≠ w.heap.size + 1 + 1 := (by omega)
  go_upto_region 10 with fail
  have KW21 := Kept.refl W21 (Nat.le_refl _)
  go_cut [8] (fun s8 wx => IBox (W21.heap.size) s8 (a * (ee : Nat) + a' * (dd : Nat)) wx ∧ Kept (W21.heap.size) W21 wx)
  case first =>
    go_region_held3 (fun w' => w'.cell? ⟨w.heap.size, 0, none⟩ = some (.slice A1 n1 c1) ∧ w'.cell? ⟨w.heap.size, 1, none⟩ = some (.bool p1) ∧ w'.cell? ⟨w.heap.size + 1, 0, none⟩ = some (.slice A4 n4 c4) ∧ w'.cell? ⟨w.heap.size + 1, 1, none⟩ = some (.bool p4)) (go_keep) (first | (go_at_call 79; (first | ((with_reducible refine (HS1.out _ _ ?_ ?_).mono ?_); (exact (by (repeat (first | exact Below.refl _ _ | assumption | with_reducible refine Below.drew ?_ | with_reducible refine below_trans ?_ (below_alloc _ _) | with_reducible refine below_trans ?_ (below_drewN _ _) | with_reducible refine Below.setCell ?_ (by simp <;> omega) _ | refine below_trans ?_ (by assumption))))); (exact hr21.below (by (repeat (first | exact Below.refl _ _ | assumption | with_reducible refine Below.drew ?_ | with_reducible refine below_trans ?_ (below_alloc _ _) | with_reducible refine below_trans ?_ (below_drewN _ _) | with_reducible refine Below.setCell ?_ (by simp <;> omega) _ | refine below_trans ?_ (by assumption))))); (rintro e W27 ⟨r27, rfl, hr27, hb27⟩; obtain ⟨A27, n27, c27, rfl, -, -⟩ := hr27.parts; generalize decide (a * (ee : Nat) < 0) = q27 at *; (try (refine cutv (p := W21.heap.size < W27.heap.size) ?_ (fun al1_0_0 => ?_); (refine Nat.lt_of_lt_of_le ?_ hb27.size; (first | (simp <;> fail) | (simp <;> omega) | omega)); refine cutv (p := W27.cell? ⟨W21.heap.size, 0, none⟩ = some (.slice none 0 0)) ?_ (fun ac1_0_0_0 => ?_); (refine (hb27.cell (p := ⟨W21.heap.size, 0, none⟩) ?_).trans ?_; (first | (simp <;> fail) | (simp <;> omega) | omega); (simp [go_sem] <;> fail)); refine cutv (p := W27.frozen? ⟨W21.heap.size, 0, none⟩ = false) ?_ (fun af1_0_0_0 => ?_); (refine (hb27.frozen (p := ⟨W21.heap.size, 0, none⟩) ?_).trans ?_; (first | (simp <;> fail) | (simp <;> omega) | omega); (simp [go_sem] <;> fail)); refine cutv (p := W27.cell? ⟨W21.heap.size, 1, none⟩ = some (.bool false)) ?_ (fun ac1_0_0_1 => ?_); (refine (hb27.cell (p := ⟨W21.heap.size, 1, none⟩) ?_).trans ?_; (first | (simp <;> fail) | (simp <;> omega) | omega); (simp [go_sem] <;> fail)); refine cutv (p := W27.frozen? ⟨W21.heap.size, 1, none⟩ = false) ?_ (fun af1_0_0_1 => ?_); (refine (hb27.frozen (p := ⟨W21.heap.size, 1, none⟩) ?_).trans ?_; (first | (simp <;> fail) | (simp <;> omega) | omega); (simp [go_sem] <;> fail)); have an1_0_0 := Nat.ne_of_lt al1_0_0; have ao1_0_0 := Nat.ne_of_gt al1_0_0; have ap1_0_0 := Nat.lt_succ_of_lt al1_0_0)); have kb27 : Below W21.heap.size W21 W27 := (by (repeat (first | exact Below.refl _ _ | assumption | with_reducible refine Below.drew ?_ | with_reducible refine below_trans ?_ (below_alloc _ _) | with_reducible refine below_trans ?_ (below_drewN _ _) | with_reducible refine Below.setCell ?_ (by simp <;> omega) _ | refine below_trans ?_ (by assumption)))); clear hb27; obtain ⟨hc27, hf27, hz27⟩ := bcells kb27 (W21.heap.size) (by omega); have ne27_0_0 : w.heap.size ≠ W27.heap.size := (by omega); have en27_0_0 : W27.heap.size ≠ w.heap.size := (by omega); have ne27_1_0 : w.heap.size + 1 ≠ W27.heap.size := (by omega); have en27_1_0 : W27.heap.size ≠ w.heap.size + 1 := (by omega); have ne27_2_0 : w.heap.size + 1 + 1 ≠ W27.heap.size := (by omega); have en27_2_0 : W27.heap.size ≠ w.heap.size + 1 + 1 := (by omega))) | ((with_reducible refine (HS2.out _ _ ?_ ?_).mono ?_); (exact (by (repeat (first | exact Below.refl _ _ | assumption | with_reducible refine Below.drew ?_ | with_reducible refine below_trans ?_ (below_alloc _ _) | with_reducible refine below_trans ?_ (below_drewN _ _) | with_reducible refine Below.setCell ?_ (by simp <;> omega) _ | refine below_trans ?_ (by assumption))))); (exact hrd.below (by (repeat (first | exact Below.refl _ _ | assumption | with_reducible refine Below.drew ?_ | with_reducible refine below_trans ?_ (below_alloc _ _) | with_reducible refine below_trans ?_ (below_drewN _ _) | with_reducible refine Below.setCell ?_ (by simp <;> omega) _ | refine below_trans ?_ (by assumption))))); (rintro e W28 ⟨r28, rfl, hr28, hb28⟩; obtain ⟨A28, n28, c28, rfl, -, -⟩ := hr28.parts; generalize decide (a' * (dd : Nat) < 0) = q28 at *; (try (refine cutv (p := W21.heap.size < W28.heap.size) ?_ (fun al2_0_0 => ?_); (refine Nat.lt_of_lt_of_le ?_ hb28.size; (have hlt := al1_0_0; first | omega | (simp <;> omega))); refine cutv (p := W28.cell? ⟨W21.heap.size, 0, none⟩ = some (.slice none 0 0)) ?_ (fun ac2_0_0_0 => ?_); (refine (hb28.cell (p := ⟨W21.heap.size, 0, none⟩) ?_).trans ?_; (have hlt := al1_0_0; first | omega | (simp <;> omega)); (first | exact ac1_0_0_0 | (simp [go_sem, *] <;> fail))); refine cutv (p := W28.frozen? ⟨W21.heap.size, 0, none⟩ = false) ?_ (fun af2_0_0_0 => ?_); (refine (hb28.frozen (p := ⟨W21.heap.size, 0, none⟩) ?_).trans ?_; (have hlt := al1_0_0; first | omega | (simp <;> omega)); (first | exact af1_0_0_0 | (simp [go_sem, *] <;> fail))); refine cutv (p := W28.cell? ⟨W21.heap.size, 1, none⟩ = some (.bool false)) ?_ (fun ac2_0_0_1 => ?_); (refine (hb28.cell (p := ⟨W21.heap.size, 1, none⟩) ?_).trans ?_; (have hlt := al1_0_0; first | omega | (simp <;> omega)); (first | exact ac1_0_0_1 | (simp [go_sem, *] <;> fail))); refine cutv (p := W28.frozen? ⟨W21.heap.size, 1, none⟩ = false) ?_ (fun af2_0_0_1 => ?_); (refine (hb28.frozen (p := ⟨W21.heap.size, 1, none⟩) ?_).trans ?_; (have hlt := al1_0_0; first | omega | (simp <;> omega)); (first | exact af1_0_0_1 | (simp [go_sem, *] <;> fail))); have an2_0_0 := Nat.ne_of_lt al2_0_0; have ao2_0_0 := Nat.ne_of_gt al2_0_0; have ap2_0_0 := Nat.lt_succ_of_lt al2_0_0)); (try (refine cutv (p := W27.heap.size < W28.heap.size) ?_ (fun al2_1_0 => ?_); (refine Nat.lt_of_lt_of_le ?_ hb28.size; (first | (simp <;> fail) | (simp <;> omega) | omega)); refine cutv (p := W28.cell? ⟨W27.heap.size, 0, none⟩ = some (.slice none 0 0)) ?_ (fun ac2_1_0_0 => ?_); (refine (hb28.cell (p := ⟨W27.heap.size, 0, none⟩) ?_).trans ?_; (first | (simp <;> fail) | (simp <;> omega) | omega); (simp [go_sem] <;> fail)); refine cutv (p := W28.frozen? ⟨W27.heap.size, 0, none⟩ = false) ?_ (fun af2_1_0_0 => ?_); (refine (hb28.frozen (p := ⟨W27.heap.size, 0, none⟩) ?_).trans ?_; (first | (simp <;> fail) | (simp <;> omega) | omega); (simp [go_sem] <;> fail)); refine cutv (p := W28.cell? ⟨W27.heap.size, 1, none⟩ = some (.bool false)) ?_ (fun ac2_1_0_1 => ?_); (refine (hb28.cell (p := ⟨W27.heap.size, 1, none⟩) ?_).trans ?_; (first | (simp <;> fail) | (simp <;> omega) | omega); (simp [go_sem] <;> fail)); refine cutv (p := W28.frozen? ⟨W27.heap.size, 1, none⟩ = false) ?_ (fun af2_1_0_1 => ?_); (refine (hb28.frozen (p := ⟨W27.heap.size, 1, none⟩) ?_).trans ?_; (first | (simp <;> fail) | (simp <;> omega) | omega); (simp [go_sem] <;> fail)); have an2_1_0 := Nat.ne_of_lt al2_1_0; have ao2_1_0 := Nat.ne_of_gt al2_1_0; have ap2_1_0 := Nat.lt_succ_of_lt al2_1_0)); have kb28 : Below W27.heap.size W27 W28 := (by (repeat (first | exact Below.refl _ _ | assumption | with_reducible refine Below.drew ?_ | with_reducible refine below_trans ?_ (below_alloc _ _) | with_reducible refine below_trans ?_ (below_drewN _ _) | with_reducible refine Below.setCell ?_ (by simp <;> omega) _ | refine below_trans ?_ (by assumption)))); clear hb28; obtain ⟨hc28, hf28, hz28⟩ := bcells kb28 (W21.heap.size) (by omega); have ne28_0_0 : w.heap.size ≠ W28.heap.size := (by omega); have en28_0_0 : W28.heap.size ≠ w.heap.size := (by omega); have ne28_1_0 : w.heap.size + 1 ≠ W28.heap.size := (by omega); have en28_1_0 : W28.heap.size ≠ w.heap.size + 1 := (by omega); have ne28_2_0 : w.heap.size + 1 + 1 ≠ W28.heap.size := (by omega); have en28_2_0 : W28.heap.size ≠ w.heap.size + 1 + 1 := (by omega))))) | (go_at_call 75; (first | ((with_reducible refine (HA1.out _ _ _ ?_ ?_).mono ?_); (exact hr27.below (by (repeat (first | exact Below.refl _ _ | assumption | with_reducible refine Below.drew ?_ | with_reducible refine below_trans ?_ (below_alloc _ _) | with_reducible refine below_trans ?_ (below_drewN _ _) | with_reducible refine Below.setCell ?_ (by simp <;> omega) _ | refine below_trans ?_ (by assumption))))); (exact hr28.below (by (repeat (first | exact Below.refl _ _ | assumption | with_reducible refine Below.drew ?_ | with_reducible refine below_trans ?_ (below_alloc _ _) | with_reducible refine below_trans ?_ (below_drewN _ _) | with_reducible refine Below.setCell ?_ (by simp <;> omega) _ | refine below_trans ?_ (by assumption))))); (rintro e W29 ⟨r29, rfl, hr29, hb29⟩; obtain ⟨A29, n29, c29, rfl, -, -⟩ := hr29.parts; generalize decide (a * (ee : Nat) + a' * (dd : Nat) < 0) = q29 at *; (try (refine cutv (p := W21.heap.size < W29.heap.size) ?_ (fun al3_0_0 => ?_); (refine Nat.lt_of_lt_of_le ?_ hb29.size; (have hlt := al2_0_0; first | omega | (simp <;> omega))); refine cutv (p := W29.cell? ⟨W21.heap.size, 0, none⟩ = some (.slice none 0 0)) ?_ (fun ac3_0_0_0 => ?_); (refine (hb29.cell (p := ⟨W21.heap.size, 0, none⟩) ?_).trans ?_; (have hlt := al2_0_0; first | omega | (simp <;> omega)); (first | exact ac2_0_0_0 | (simp [go_sem, *] <;> fail))); refine cutv (p := W29.frozen? ⟨W21.heap.size, 0, none⟩ = false) ?_ (fun af3_0_0_0 => ?_); (refine (hb29.frozen (p := ⟨W21.heap.size, 0, none⟩) ?_).trans ?_; (have hlt := al2_0_0; first | omega | (simp <;> omega)); (first | exact af2_0_0_0 | (simp [go_sem, *] <;> fail))); refine cutv (p := W29.cell? ⟨W21.heap.size, 1, none⟩ = some (.bool false)) ?_ (fun ac3_0_0_1 => ?_); (refine (hb29.cell (p := ⟨W21.heap.size, 1, none⟩) ?_).trans ?_; (have hlt := al2_0_0; first | omega | (simp <;> omega)); (first | exact ac2_0_0_1 | (simp [go_sem, *] <;> fail))); refine cutv (p := W29.frozen? ⟨W21.heap.size, 1, none⟩ = false) ?_ (fun af3_0_0_1 => ?_); (refine (hb29.frozen (p := ⟨W21.heap.size, 1, none⟩) ?_).trans ?_; (have hlt := al2_0_0; first | omega | (simp <;> omega)); (first | exact af2_0_0_1 | (simp [go_sem, *] <;> fail))); have an3_0_0 := Nat.ne_of_lt al3_0_0; have ao3_0_0 := Nat.ne_of_gt al3_0_0; have ap3_0_0 := Nat.lt_succ_of_lt al3_0_0)); (try (refine cutv (p := W27.heap.size < W29.heap.size) ?_ (fun al3_1_0 => ?_); (refine Nat.lt_of_lt_of_le ?_ hb29.size; (have hlt := al2_1_0; first | omega | (simp <;> omega))); refine cutv (p := W29.cell? ⟨W27.heap.size, 0, none⟩ = some (.slice none 0 0)) ?_ (fun ac3_1_0_0 => ?_); (refine (hb29.cell (p := ⟨W27.heap.size, 0, none⟩) ?_).trans ?_; (have hlt := al2_1_0; first | omega | (simp <;> omega)); (first | exact ac2_1_0_0 | (simp [go_sem, *] <;> fail))); refine cutv (p := W29.frozen? ⟨W27.heap.size, 0, none⟩ = false) ?_ (fun af3_1_0_0 => ?_); (refine (hb29.frozen (p := ⟨W27.heap.size, 0, none⟩) ?_).trans ?_; (have hlt := al2_1_0; first | omega | (simp <;> omega)); (first | exact af2_1_0_0 | (simp [go_sem, *] <;> fail))); refine cutv (p := W29.cell? ⟨W27.heap.size, 1, none⟩ = some (.bool false)) ?_ (fun ac3_1_0_1 => ?_); (refine (hb29.cell (p := ⟨W27.heap.size, 1, none⟩) ?_).trans ?_; (have hlt := al2_1_0; first | omega | (simp <;> omega)); (first | exact ac2_1_0_1 | (simp [go_sem, *] <;> fail))); refine cutv (p := W29.frozen? ⟨W27.heap.size, 1, none⟩ = false) ?_ (fun af3_1_0_1 => ?_); (refine (hb29.frozen (p := ⟨W27.heap.size, 1, none⟩) ?_).trans ?_; (have hlt := al2_1_0; first | omega | (simp <;> omega)); (first | exact af2_1_0_1 | (simp [go_sem, *] <;> fail))); have an3_1_0 := Nat.ne_of_lt al3_1_0; have ao3_1_0 := Nat.ne_of_gt al3_1_0; have ap3_1_0 := Nat.lt_succ_of_lt al3_1_0)); (try (refine cutv (p := W28.heap.size < W29.heap.size) ?_ (fun al3_2_0 => ?_); (refine Nat.lt_of_lt_of_le ?_ hb29.size; (first | (simp <;> fail) | (simp <;> omega) | omega)); refine cutv (p := W29.cell? ⟨W28.heap.size, 0, none⟩ = some (.slice none 0 0)) ?_ (fun ac3_2_0_0 => ?_); (refine (hb29.cell (p := ⟨W28.heap.size, 0, none⟩) ?_).trans ?_; (first | (simp <;> fail) | (simp <;> omega) | omega); (simp [go_sem] <;> fail)); refine cutv (p := W29.frozen? ⟨W28.heap.size, 0, none⟩ = false) ?_ (fun af3_2_0_0 => ?_); (refine (hb29.frozen (p := ⟨W28.heap.size, 0, none⟩) ?_).trans ?_; (first | (simp <;> fail) | (simp <;> omega) | omega); (simp [go_sem] <;> fail)); refine cutv (p := W29.cell? ⟨W28.heap.size, 1, none⟩ = some (.bool false)) ?_ (fun ac3_2_0_1 => ?_); (refine (hb29.cell (p := ⟨W28.heap.size, 1, none⟩) ?_).trans ?_; (first | (simp <;> fail) | (simp <;> omega) | omega); (simp [go_sem] <;> fail)); refine cutv (p := W29.frozen? ⟨W28.heap.size, 1, none⟩ = false) ?_ (fun af3_2_0_1 => ?_); (refine (hb29.frozen (p := ⟨W28.heap.size, 1, none⟩) ?_).trans ?_; (first | (simp <;> fail) | (simp <;> omega) | omega); (simp [go_sem] <;> fail)); have an3_2_0 := Nat.ne_of_lt al3_2_0; have ao3_2_0 := Nat.ne_of_gt al3_2_0; have ap3_2_0 := Nat.lt_succ_of_lt al3_2_0)); have kb29 : Below W28.heap.size W28 W29 := (by (repeat (first | exact Below.refl _ _ | assumption | with_reducible refine Below.drew ?_ | with_reducible refine below_trans ?_ (below_alloc _ _) | with_reducible refine below_trans ?_ (below_drewN _ _) | with_reducible refine Below.setCell ?_ (by simp <;> omega) _ | refine below_trans ?_ (by assumption)))); clear hb29; obtain ⟨hc29, hf29, hz29⟩ := bcells kb29 (W21.heap.size) (by omega); have ne29_0_0 : w.heap.size ≠ W29.heap.size := (by omega); have en29_0_0 : W29.heap.size ≠ w.heap.size := (by omega); have ne29_1_0 : w.heap.size + 1 ≠ W29.heap.size := (by omega); have en29_1_0 : W29.heap.size ≠ w.heap.size + 1 := (by omega); have ne29_2_0 : w.heap.size + 1 + 1 ≠ W29.heap.size := (by omega); have en29_2_0 : W29.heap.size ≠ w.heap.size + 1 + 1 := (by omega))))))
    all_goals
      go_wp2_with fail
      go_meet
      refine ⟨?_, (by (repeat (first | assumption | with_reducible refine Kept.drew ?_ | with_reducible refine Kept.alloc ?_ _ | with_reducible refine Kept.set ?_ (by first | omega | (simp <;> omega)) _ _ | refine Kept.below ?_ (by assumption))))⟩
      · refine ⟨_, A29, n29, c29, q29, rfl, ?_, ?_, ?_, ?_, ?_⟩
        · first | omega | (simp <;> omega)
        · first | (simp <;> fail) | (simp <;> omega) | (simp; exact lt_of_cell (by assumption))
        · simp [go_sem, *]
        · simp [go_sem, *]
        · (repeat (first | exact hr29 | with_reducible refine IsInt.below ?_ (below_alloc _ _) | ((with_reducible refine IsInt.box2 ?_ (IntBox.mk (A := none) (n := 0) (c := 0) (p := false) ?_ ?_) _ _); rotate_left; (first | assumption | (simp [go_sem, *] <;> fail)); (first | assumption | (simp [go_sem, *] <;> fail)))))
  case rest =>
    obtain ⟨⟨g5, A29, n29, c29, q29, rfl, hg5, hl5, e5_0, e5_1, hi5⟩, hK5⟩ := hcut
    obtain ⟨W5, rfl⟩ : ∃ W5 : World, W5 = wc := ⟨_, rfl⟩
    have hz5 : W21.heap.size ≤ W5.heap.size := hK5.2.2.1
    have B215 : Below W21.heap.size W21 W5 := hK5.2.2.2 _ (Nat.le_refl _)
    have B5 := below_trans B21 B215
    have hr21 := hr21.below B215
    have hrg := hrg.below B215
    have hrd := hrd.below B215
    obtain ⟨o0_0, o0_1, o0_2, o0_3, o0_4, yo0_0, yo0_1, yo0_2, yo0_3, yo0_4⟩ := hK5.k5 (b := w.heap.size) (by omega) l0_0 l0_1 l0_2 l0_3 l0_4 yl0_0 yl0_1 yl0_2 yl0_3 yl0_4
    obtain ⟨o1_0, o1_1, o1_2, o1_3, o1_4, yo1_0, yo1_1, yo1_2, yo1_3, yo1_4⟩ := hK5.k5 (b := w.heap.size + 1) (by omega) l1_0 l1_1 l1_2 l1_3 l1_4 yl1_0 yl1_1 yl1_2 yl1_3 yl1_4
    obtain ⟨o2_0, o2_1, o2_2, o2_3, o2_4, yo2_0, yo2_1, yo2_2, yo2_3, yo2_4⟩ := hK5.k5 (b := w.heap.size + 1 + 1) (by omega) l2_0 l2_1 l2_2 l2_3 l2_4 yl2_0 yl2_1 yl2_2 yl2_3 yl2_4
    clear hK5 B215 l0_0 yl0_0 l0_1 yl0_1 l0_2 yl0_2 l0_3 yl0_3 l0_4 yl0_4 l1_0 yl1_0 l1_1 yl1_1 l1_2 yl1_2 l1_3 yl1_3 l1_4 yl1_4 l2_0 yl2_0 l2_1 yl2_1 l2_2 yl2_2 l2_3 yl2_3 l2_4 yl2_4
    have lt5_0 : w.heap.size < W5.heap.size := (by omega)
    have lt5_1 : w.heap.size + 1 < W5.heap.size := (by omega)
    have lt5_2 : w.heap.size + 1 + 1 < W5.heap.size := (by omega)
    have lt5_3 : g5 < W5.heap.size := (by omega)
    have ne5_0_0 : w.heap.size ≠ W5.heap.size := (by omega)
    have en5_0_0 : W5.heap.size ≠ w.heap.size := (by omega)
    have ne5_1_0 : w.heap.size + 1 ≠ W5.heap.size := (by omega)
    have en5_1_0 : W5.heap.size ≠ w.heap.size + 1 := (by omega)
    have ne5_2_0 : w.heap.size + 1 + 1 ≠ W5.heap.size := (by omega)
    have en5_2_0 : W5.heap.size ≠ w.heap.size + 1 + 1 := (by omega)
    have ne5_3_0 : g5 ≠ W5.heap.size := (by omega)
    have en5_3_0 : W5.heap.size ≠ g5 := (by omega)
    go_upto_region 11 with fail
    have KW5 := Kept.refl W5 (Nat.le_refl _)
    go_cut [9] (fun s9 wx => IBox (W5.heap.size) s9 (b * (ee : Nat) + b' * (dd : Nat)) wx ∧ Kept (W5.heap.size) W5 wx)
    case first =>
      go_region_held3 (fun w' => w'.cell? ⟨w.heap.size, 2, none⟩ = some (.slice A2 n2 c2) ∧ w'.cell? ⟨w.heap.size, 3, none⟩ = some (.bool p2) ∧ w'.cell? ⟨w.heap.size + 1, 2, none⟩ = some (.slice A5 n5 c5) ∧ w'.cell? ⟨w.heap.size + 1, 3, none⟩ = some (.bool p5)) (go_keep) (first | (go_at_call 79; (first | ((with_reducible refine (HS3.out _ _ ?_ ?_).mono ?_); (exact (by (repeat (first | exact Below.refl _ _ | assumption | with_reducible refine Below.drew ?_ | with_reducible refine below_trans ?_ (below_alloc _ _) | with_reducible refine below_trans ?_ (below_drewN _ _) | with_reducible refine Below.setCell ?_ (by simp <;> omega) _ | refine below_trans ?_ (by assumption))))); (exact hr21.below (by (repeat (first | exact Below.refl _ _ | assumption | with_reducible refine Below.drew ?_ | with_reducible refine below_trans ?_ (below_alloc _ _) | with_reducible refine below_trans ?_ (below_drewN _ _) | with_reducible refine Below.setCell ?_ (by simp <;> omega) _ | refine below_trans ?_ (by assumption))))); (rintro e W37 ⟨r37, rfl, hr37, hb37⟩; obtain ⟨A37, n37, c37, rfl, -, -⟩ := hr37.parts; generalize decide (b * (ee : Nat) < 0) = q37 at *; (try (refine cutv (p := W5.heap.size < W37.heap.size) ?_ (fun al1_0_0 => ?_); (refine Nat.lt_of_lt_of_le ?_ hb37.size; (first | (simp <;> fail) | (simp <;> omega) | omega)); refine cutv (p := W37.cell? ⟨W5.heap.size, 0, none⟩ = some (.slice none 0 0)) ?_ (fun ac1_0_0_0 => ?_); (refine (hb37.cell (p := ⟨W5.heap.size, 0, none⟩) ?_).trans ?_; (first | (simp <;> fail) | (simp <;> omega) | omega); (simp [go_sem] <;> fail)); refine cutv (p := W37.frozen? ⟨W5.heap.size, 0, none⟩ = false) ?_ (fun af1_0_0_0 => ?_); (refine (hb37.frozen (p := ⟨W5.heap.size, 0, none⟩) ?_).trans ?_; (first | (simp <;> fail) | (simp <;> omega) | omega); (simp [go_sem] <;> fail)); refine cutv (p := W37.cell? ⟨W5.heap.size, 1, none⟩ = some (.bool false)) ?_ (fun ac1_0_0_1 => ?_); (refine (hb37.cell (p := ⟨W5.heap.size, 1, none⟩) ?_).trans ?_; (first | (simp <;> fail) | (simp <;> omega) | omega); (simp [go_sem] <;> fail)); refine cutv (p := W37.frozen? ⟨W5.heap.size, 1, none⟩ = false) ?_ (fun af1_0_0_1 => ?_); (refine (hb37.frozen (p := ⟨W5.heap.size, 1, none⟩) ?_).trans ?_; (first | (simp <;> fail) | (simp <;> omega) | omega); (simp [go_sem] <;> fail)); have an1_0_0 := Nat.ne_of_lt al1_0_0; have ao1_0_0 := Nat.ne_of_gt al1_0_0; have ap1_0_0 := Nat.lt_succ_of_lt al1_0_0)); have kb37 : Below W5.heap.size W5 W37 := (by (repeat (first | exact Below.refl _ _ | assumption | with_reducible refine Below.drew ?_ | with_reducible refine below_trans ?_ (below_alloc _ _) | with_reducible refine below_trans ?_ (below_drewN _ _) | with_reducible refine Below.setCell ?_ (by simp <;> omega) _ | refine below_trans ?_ (by assumption)))); clear hb37; obtain ⟨hc37, hf37, hz37⟩ := bcells kb37 (W5.heap.size) (by omega); have ne37_0_0 : w.heap.size ≠ W37.heap.size := (by omega); have en37_0_0 : W37.heap.size ≠ w.heap.size := (by omega); have ne37_1_0 : w.heap.size + 1 ≠ W37.heap.size := (by omega); have en37_1_0 : W37.heap.size ≠ w.heap.size + 1 := (by omega); have ne37_2_0 : w.heap.size + 1 + 1 ≠ W37.heap.size := (by omega); have en37_2_0 : W37.heap.size ≠ w.heap.size + 1 + 1 := (by omega); have ne37_3_0 : g5 ≠ W37.heap.size := (by omega); have en37_3_0 : W37.heap.size ≠ g5 := (by omega))) | ((with_reducible refine (HS4.out _ _ ?_ ?_).mono ?_); (exact (by (repeat (first | exact Below.refl _ _ | assumption | with_reducible refine Below.drew ?_ | with_reducible refine below_trans ?_ (below_alloc _ _) | with_reducible refine below_trans ?_ (below_drewN _ _) | with_reducible refine Below.setCell ?_ (by simp <;> omega) _ | refine below_trans ?_ (by assumption))))); (exact hrd.below (by (repeat (first | exact Below.refl _ _ | assumption | with_reducible refine Below.drew ?_ | with_reducible refine below_trans ?_ (below_alloc _ _) | with_reducible refine below_trans ?_ (below_drewN _ _) | with_reducible refine Below.setCell ?_ (by simp <;> omega) _ | refine below_trans ?_ (by assumption))))); (rintro e W38 ⟨r38, rfl, hr38, hb38⟩; obtain ⟨A38, n38, c38, rfl, -, -⟩ := hr38.parts; generalize decide (b' * (dd : Nat) < 0) = q38 at *; (try (refine cutv (p := W5.heap.size < W38.heap.size) ?_ (fun al2_0_0 => ?_); (refine Nat.lt_of_lt_of_le ?_ hb38.size; (have hlt := al1_0_0; first | omega | (simp <;> omega))); refine cutv (p := W38.cell? ⟨W5.heap.size, 0, none⟩ = some (.slice none 0 0)) ?_ (fun ac2_0_0_0 => ?_); (refine (hb38.cell (p := ⟨W5.heap.size, 0, none⟩) ?_).trans ?_; (have hlt := al1_0_0; first | omega | (simp <;> omega)); (first | exact ac1_0_0_0 | (simp [go_sem, *] <;> fail))); refine cutv (p := W38.frozen? ⟨W5.heap.size, 0, none⟩ = false) ?_ (fun af2_0_0_0 => ?_); (refine (hb38.frozen (p := ⟨W5.heap.size, 0, none⟩) ?_).trans ?_; (have hlt := al1_0_0; first | omega | (simp <;> omega)); (first | exact af1_0_0_0 | (simp [go_sem, *] <;> fail))); refine cutv (p := W38.cell? ⟨W5.heap.size, 1, none⟩ = some (.bool false)) ?_ (fun ac2_0_0_1 => ?_); (refine (hb38.cell (p := ⟨W5.heap.size, 1, none⟩) ?_).trans ?_; (have hlt := al1_0_0; first | omega | (simp <;> omega)); (first | exact ac1_0_0_1 | (simp [go_sem, *] <;> fail))); refine cutv (p := W38.frozen? ⟨W5.heap.size, 1, none⟩ = false) ?_ (fun af2_0_0_1 => ?_); (refine (hb38.frozen (p := ⟨W5.heap.size, 1, none⟩) ?_).trans ?_; (have hlt := al1_0_0; first | omega | (simp <;> omega)); (first | exact af1_0_0_1 | (simp [go_sem, *] <;> fail))); have an2_0_0 := Nat.ne_of_lt al2_0_0; have ao2_0_0 := Nat.ne_of_gt al2_0_0; have ap2_0_0 := Nat.lt_succ_of_lt al2_0_0)); (try (refine cutv (p := W37.heap.size < W38.heap.size) ?_ (fun al2_1_0 => ?_); (refine Nat.lt_of_lt_of_le ?_ hb38.size; (first | (simp <;> fail) | (simp <;> omega) | omega)); refine cutv (p := W38.cell? ⟨W37.heap.size, 0, none⟩ = some (.slice none 0 0)) ?_ (fun ac2_1_0_0 => ?_); (refine (hb38.cell (p := ⟨W37.heap.size, 0, none⟩) ?_).trans ?_; (first | (simp <;> fail) | (simp <;> omega) | omega); (simp [go_sem] <;> fail)); refine cutv (p := W38.frozen? ⟨W37.heap.size, 0, none⟩ = false) ?_ (fun af2_1_0_0 => ?_); (refine (hb38.frozen (p := ⟨W37.heap.size, 0, none⟩) ?_).trans ?_; (first | (simp <;> fail) | (simp <;> omega) | omega); (simp [go_sem] <;> fail)); refine cutv (p := W38.cell? ⟨W37.heap.size, 1, none⟩ = some (.bool false)) ?_ (fun ac2_1_0_1 => ?_); (refine (hb38.cell (p := ⟨W37.heap.size, 1, none⟩) ?_).trans ?_; (first | (simp <;> fail) | (simp <;> omega) | omega); (simp [go_sem] <;> fail)); refine cutv (p := W38.frozen? ⟨W37.heap.size, 1, none⟩ = false) ?_ (fun af2_1_0_1 => ?_); (refine (hb38.frozen (p := ⟨W37.heap.size, 1, none⟩) ?_).trans ?_; (first | (simp <;> fail) | (simp <;> omega) | omega); (simp [go_sem] <;> fail)); have an2_1_0 := Nat.ne_of_lt al2_1_0; have ao2_1_0 := Nat.ne_of_gt al2_1_0; have ap2_1_0 := Nat.lt_succ_of_lt al2_1_0)); have kb38 : Below W37.heap.size W37 W38 := (by (repeat (first | exact Below.refl _ _ | assumption | with_reducible refine Below.drew ?_ | with_reducible refine below_trans ?_ (below_alloc _ _) | with_reducible refine below_trans ?_ (below_drewN _ _) | with_reducible refine Below.setCell ?_ (by simp <;> omega) _ | refine below_trans ?_ (by assumption)))); clear hb38; obtain ⟨hc38, hf38, hz38⟩ := bcells kb38 (W5.heap.size) (by omega); have ne38_0_0 : w.heap.size ≠ W38.heap.size := (by omega); have en38_0_0 : W38.heap.size ≠ w.heap.size := (by omega); have ne38_1_0 : w.heap.size + 1 ≠ W38.heap.size := (by omega); have en38_1_0 : W38.heap.size ≠ w.heap.size + 1 := (by omega); have ne38_2_0 : w.heap.size + 1 + 1 ≠ W38.heap.size := (by omega); have en38_2_0 : W38.heap.size ≠ w.heap.size + 1 + 1 := (by omega); have ne38_3_0 : g5 ≠ W38.heap.size := (by omega); have en38_3_0 : W38.heap.size ≠ g5 := (by omega))))) | (go_at_call 75; (first | ((with_reducible refine (HA2.out _ _ _ ?_ ?_).mono ?_); (exact hr37.below (by (repeat (first | exact Below.refl _ _ | assumption | with_reducible refine Below.drew ?_ | with_reducible refine below_trans ?_ (below_alloc _ _) | with_reducible refine below_trans ?_ (below_drewN _ _) | with_reducible refine Below.setCell ?_ (by simp <;> omega) _ | refine below_trans ?_ (by assumption))))); (exact hr38.below (by (repeat (first | exact Below.refl _ _ | assumption | with_reducible refine Below.drew ?_ | with_reducible refine below_trans ?_ (below_alloc _ _) | with_reducible refine below_trans ?_ (below_drewN _ _) | with_reducible refine Below.setCell ?_ (by simp <;> omega) _ | refine below_trans ?_ (by assumption))))); (rintro e W39 ⟨r39, rfl, hr39, hb39⟩; obtain ⟨A39, n39, c39, rfl, -, -⟩ := hr39.parts; generalize decide (b * (ee : Nat) + b' * (dd : Nat) < 0) = q39 at *; (try (refine cutv (p := W5.heap.size < W39.heap.size) ?_ (fun al3_0_0 => ?_); (refine Nat.lt_of_lt_of_le ?_ hb39.size; (have hlt := al2_0_0; first | omega | (simp <;> omega))); refine cutv (p := W39.cell? ⟨W5.heap.size, 0, none⟩ = some (.slice none 0 0)) ?_ (fun ac3_0_0_0 => ?_); (refine (hb39.cell (p := ⟨W5.heap.size, 0, none⟩) ?_).trans ?_; (have hlt := al2_0_0; first | omega | (simp <;> omega)); (first | exact ac2_0_0_0 | (simp [go_sem, *] <;> fail))); refine cutv (p := W39.frozen? ⟨W5.heap.size, 0, none⟩ = false) ?_ (fun af3_0_0_0 => ?_); (refine (hb39.frozen (p := ⟨W5.heap.size, 0, none⟩) ?_).trans ?_; (have hlt := al2_0_0; first | omega | (simp <;> omega)); (first | exact af2_0_0_0 | (simp [go_sem, *] <;> fail))); refine cutv (p := W39.cell? ⟨W5.heap.size, 1, none⟩ = some (.bool false)) ?_ (fun ac3_0_0_1 => ?_); (refine (hb39.cell (p := ⟨W5.heap.size, 1, none⟩) ?_).trans ?_; (have hlt := al2_0_0; first | omega | (simp <;> omega)); (first | exact ac2_0_0_1 | (simp [go_sem, *] <;> fail))); refine cutv (p := W39.frozen? ⟨W5.heap.size, 1, none⟩ = false) ?_ (fun af3_0_0_1 => ?_); (refine (hb39.frozen (p := ⟨W5.heap.size, 1, none⟩) ?_).trans ?_; (have hlt := al2_0_0; first | omega | (simp <;> omega)); (first | exact af2_0_0_1 | (simp [go_sem, *] <;> fail))); have an3_0_0 := Nat.ne_of_lt al3_0_0; have ao3_0_0 := Nat.ne_of_gt al3_0_0; have ap3_0_0 := Nat.lt_succ_of_lt al3_0_0)); (try (refine cutv (p := W37.heap.size < W39.heap.size) ?_ (fun al3_1_0 => ?_); (refine Nat.lt_of_lt_of_le ?_ hb39.size; (have hlt := al2_1_0; first | omega | (simp <;> omega))); refine cutv (p := W39.cell? ⟨W37.heap.size, 0, none⟩ = some (.slice none 0 0)) ?_ (fun ac3_1_0_0 => ?_); (refine (hb39.cell (p := ⟨W37.heap.size, 0, none⟩) ?_).trans ?_; (have hlt := al2_1_0; first | omega | (simp <;> omega)); (first | exact ac2_1_0_0 | (simp [go_sem, *] <;> fail))); refine cutv (p := W39.frozen? ⟨W37.heap.size, 0, none⟩ = false) ?_ (fun af3_1_0_0 => ?_); (refine (hb39.frozen (p := ⟨W37.heap.size, 0, none⟩) ?_).trans ?_; (have hlt := al2_1_0; first | omega | (simp <;> omega)); (first | exact af2_1_0_0 | (simp [go_sem, *] <;> fail))); refine cutv (p := W39.cell? ⟨W37.heap.size, 1, none⟩ = some (.bool false)) ?_ (fun ac3_1_0_1 => ?_); (refine (hb39.cell (p := ⟨W37.heap.size, 1, none⟩) ?_).trans ?_; (have hlt := al2_1_0; first | omega | (simp <;> omega)); (first | exact ac2_1_0_1 | (simp [go_sem, *] <;> fail))); refine cutv (p := W39.frozen? ⟨W37.heap.size, 1, none⟩ = false) ?_ (fun af3_1_0_1 => ?_); (refine (hb39.frozen (p := ⟨W37.heap.size, 1, none⟩) ?_).trans ?_; (have hlt := al2_1_0; first | omega | (simp <;> omega)); (first | exact af2_1_0_1 | (simp [go_sem, *] <;> fail))); have an3_1_0 := Nat.ne_of_lt al3_1_0; have ao3_1_0 := Nat.ne_of_gt al3_1_0; have ap3_1_0 := Nat.lt_succ_of_lt al3_1_0)); (try (refine cutv (p := W38.heap.size < W39.heap.size) ?_ (fun al3_2_0 => ?_); (refine Nat.lt_of_lt_of_le ?_ hb39.size; (first | (simp <;> fail) | (simp <;> omega) | omega)); refine cutv (p := W39.cell? ⟨W38.heap.size, 0, none⟩ = some (.slice none 0 0)) ?_ (fun ac3_2_0_0 => ?_); (refine (hb39.cell (p := ⟨W38.heap.size, 0, none⟩) ?_).trans ?_; (first | (simp <;> fail) | (simp <;> omega) | omega); (simp [go_sem] <;> fail)); refine cutv (p := W39.frozen? ⟨W38.heap.size, 0, none⟩ = false) ?_ (fun af3_2_0_0 => ?_); (refine (hb39.frozen (p := ⟨W38.heap.size, 0, none⟩) ?_).trans ?_; (first | (simp <;> fail) | (simp <;> omega) | omega); (simp [go_sem] <;> fail)); refine cutv (p := W39.cell? ⟨W38.heap.size, 1, none⟩ = some (.bool false)) ?_ (fun ac3_2_0_1 => ?_); (refine (hb39.cell (p := ⟨W38.heap.size, 1, none⟩) ?_).trans ?_; (first | (simp <;> fail) | (simp <;> omega) | omega); (simp [go_sem] <;> fail)); refine cutv (p := W39.frozen? ⟨W38.heap.size, 1, none⟩ = false) ?_ (fun af3_2_0_1 => ?_); (refine (hb39.frozen (p := ⟨W38.heap.size, 1, none⟩) ?_).trans ?_; (first | (simp <;> fail) | (simp <;> omega) | omega); (simp [go_sem] <;> fail)); have an3_2_0 := Nat.ne_of_lt al3_2_0; have ao3_2_0 := Nat.ne_of_gt al3_2_0; have ap3_2_0 := Nat.lt_succ_of_lt al3_2_0)); have kb39 : Below W38.heap.size W38 W39 := (by (repeat (first | exact Below.refl _ _ | assumption | with_reducible refine Below.drew ?_ | with_reducible refine below_trans ?_ (below_alloc _ _) | with_reducible refine below_trans ?_ (below_drewN _ _) | with_reducible refine Below.setCell ?_ (by simp <;> omega) _ | refine below_trans ?_ (by assumption)))); clear hb39; obtain ⟨hc39, hf39, hz39⟩ := bcells kb39 (W5.heap.size) (by omega); have ne39_0_0 : w.heap.size ≠ W39.heap.size := (by omega); have en39_0_0 : W39.heap.size ≠ w.heap.size := (by omega); have ne39_1_0 : w.heap.size + 1 ≠ W39.heap.size := (by omega); have en39_1_0 : W39.heap.size ≠ w.heap.size + 1 := (by omega); have ne39_2_0 : w.heap.size + 1 + 1 ≠ W39.heap.size := (by omega); have en39_2_0 : W39.heap.size ≠ w.heap.size + 1 + 1 := (by omega); have ne39_3_0 : g5 ≠ W39.heap.size := (by omega); have en39_3_0 : W39.heap.size ≠ g5 := (by omega))))))
      all_goals
        go_wp2_with fail
        go_meet
        refine ⟨?_, (by (repeat (first | assumption | with_reducible refine Kept.drew ?_ | with_reducible refine Kept.alloc ?_ _ | with_reducible refine Kept.set ?_ (by first | omega | (simp <;> omega)) _ _ | refine Kept.below ?_ (by assumption))))⟩
        · refine ⟨_, A39, n39, c39, q39, rfl, ?_, ?_, ?_, ?_, ?_⟩
          · first | omega | (simp <;> omega)
          · first | (simp <;> fail) | (simp <;> omega) | (simp; exact lt_of_cell (by assumption))
          · simp [go_sem, *]
          · simp [go_sem, *]
          · (repeat (first | exact hr39 | with_reducible refine IsInt.below ?_ (below_alloc _ _) | ((with_reducible refine IsInt.box2 ?_ (IntBox.mk (A := none) (n := 0) (c := 0) (p := false) ?_ ?_) _ _); rotate_left; (first | assumption | (simp [go_sem, *] <;> fail)); (first | assumption | (simp [go_sem, *] <;> fail)))))
    case rest =>
      obtain ⟨⟨g6, A39, n39, c39, q39, rfl, hg6, hl6, e6_0, e6_1, hi6⟩, hK6⟩ := hcut
      obtain ⟨W6, rfl⟩ : ∃ W6 : World, W6 = wc := ⟨_, rfl⟩
      have hz6 : W5.heap.size ≤ W6.heap.size := hK6.2.2.1
      have B56 : Below W5.heap.size W5 W6 := hK6.2.2.2 _ (Nat.le_refl _)
      have B6 := below_trans B5 B56
      have hrg := hrg.below B56
      have hrd := hrd.below B56
      have d5_0 : W6.cell? ⟨g5, 0, none⟩ = some (.slice A29 n29 c29) := (hK6.1 _ _ (by omega)).trans e5_0
      have d5_1 : W6.cell? ⟨g5, 1, none⟩ = some (.bool q29) := (hK6.1 _ _ (by omega)).trans e5_1
      have hi5 := hi5.below B56
      obtain ⟨s0_0, s0_1, s0_2, s0_3, s0_4, ys0_0, ys0_1, ys0_2, ys0_3, ys0_4⟩ := hK6.k5 (b := w.heap.size) (by omega) o0_0 o0_1 o0_2 o0_3 o0_4 yo0_0 yo0_1 yo0_2 yo0_3 yo0_4
      obtain ⟨s1_0, s1_1, s1_2, s1_3, s1_4, ys1_0, ys1_1, ys1_2, ys1_3, ys1_4⟩ := hK6.k5 (b := w.heap.size + 1) (by omega) o1_0 o1_1 o1_2 o1_3 o1_4 yo1_0 yo1_1 yo1_2 yo1_3 yo1_4
      obtain ⟨s2_0, s2_1, s2_2, s2_3, s2_4, ys2_0, ys2_1, ys2_2, ys2_3, ys2_4⟩ := hK6.k5 (b := w.heap.size + 1 + 1) (by omega) o2_0 o2_1 o2_2 o2_3 o2_4 yo2_0 yo2_1 yo2_2 yo2_3 yo2_4
      clear hK6 B56 e5_0 e5_1 o0_0 yo0_0 o0_1 yo0_1 o0_2 yo0_2 o0_3 yo0_3 o0_4 yo0_4 o1_0 yo1_0 o1_1 yo1_1 o1_2 yo1_2 o1_3 yo1_3 o1_4 yo1_4 o2_0 yo2_0 o2_1 yo2_1 o2_2 yo2_2 o2_3 yo2_3 o2_4 yo2_4
      have lt6_0 : w.heap.size < W6.heap.size := (by omega)
      have lt6_1 : w.heap.size + 1 < W6.heap.size := (by omega)
      have lt6_2 : w.heap.size + 1 + 1 < W6.heap.size := (by omega)
      have lt6_3 : g5 < W6.heap.size := (by omega)
      have lt6_4 : g6 < W6.heap.size := (by omega)
      have ne6_0_0 : w.heap.size ≠ W6.heap.size := (by omega)
      have en6_0_0 : W6.heap.size ≠ w.heap.size := (by omega)
      have ne6_1_0 : w.heap.size + 1 ≠ W6.heap.size := (by omega)
      have en6_1_0 : W6.heap.size ≠ w.heap.size + 1 := (by omega)
      have ne6_2_0 : w.heap.size + 1 + 1 ≠ W6.heap.size := (by omega)
      have en6_2_0 : W6.heap.size ≠ w.heap.size + 1 + 1 := (by omega)
      have ne6_3_0 : g5 ≠ W6.heap.size := (by omega)
      have en6_3_0 : W6.heap.size ≠ g5 := (by omega)
      have ne6_4_0 : g6 ≠ W6.heap.size := (by omega)
      have en6_4_0 : W6.heap.size ≠ g6 := (by omega)
      have nq_0 : w.heap.size + 1 + 1 ≠ g5 := (by omega)
      have mq_0 : g5 ≠ w.heap.size + 1 + 1 := (by omega)
      have nq_1 : w.heap.size + 1 + 1 ≠ g6 := (by omega)
      have mq_1 : g6 ≠ w.heap.size + 1 + 1 := (by omega)
      have NB6 : NumBox W6 (w.heap.size + 1 + 1) := .nil s2_0 s2_1 s2_2 s2_3 s2_4
      go_wp2_with fail
      go_region_held3 (fun w' => w'.cell? ⟨g5, 0, none⟩ = some (.slice A29 n29 c29) ∧ w'.cell? ⟨g5, 1, none⟩ = some (.bool q29) ∧ w'.cell? ⟨g6, 0, none⟩ = some (.slice A39 n39 c39) ∧ w'.cell? ⟨g6, 1, none⟩ = some (.bool q39) ∧ w'.cell? ⟨w.heap.size + 1, 0, none⟩ = some (.slice A4 n4 c4) ∧ w'.cell? ⟨w.heap.size + 1, 1, none⟩ = some (.bool p4) ∧ w'.cell? ⟨w.heap.size + 1, 2, none⟩ = some (.slice A5 n5 c5) ∧ w'.cell? ⟨w.heap.size + 1, 3, none⟩ = some (.bool p5) ∧ w'.cell? ⟨w.heap.size + 1, 4, none⟩ = some (.slice A6 n6 c6)) (go_keep) (first | (go_at_call 76; (first | ((with_reducible refine (HD2.out _ ?_).mono ?_); (exact (by (repeat (first | exact Below.refl _ _ | assumption | with_reducible refine Below.drew ?_ | with_reducible refine below_trans ?_ (below_alloc _ _) | with_reducible refine below_trans ?_ (below_drewN _ _) | with_reducible refine Below.setCell ?_ (by simp <;> omega) _ | refine below_trans ?_ (by assumption))))); (rintro e W48 ⟨r48, rfl, hr48, hb48⟩; obtain ⟨A48, n48, c48, rfl, hnn48⟩ := hr48.ex; clear hnn48; have kb48 : Below W6.heap.size W6 W48 := (by (repeat (first | exact Below.refl _ _ | assumption | with_reducible refine Below.drew ?_ | with_reducible refine below_trans ?_ (below_alloc _ _) | with_reducible refine below_trans ?_ (below_drewN _ _) | with_reducible refine Below.setCell ?_ (by simp <;> omega) _ | refine below_trans ?_ (by assumption)))); clear hb48; obtain ⟨hc48, hf48, hz48⟩ := bcells kb48 (W6.heap.size) (by omega); have ne48_0_0 : w.heap.size ≠ W48.heap.size := (by omega); have en48_0_0 : W48.heap.size ≠ w.heap.size := (by omega); have ne48_1_0 : w.heap.size + 1 ≠ W48.heap.size := (by omega); have en48_1_0 : W48.heap.size ≠ w.heap.size + 1 := (by omega); have ne48_2_0 : w.heap.size + 1 + 1 ≠ W48.heap.size := (by omega); have en48_2_0 : W48.heap.size ≠ w.heap.size + 1 + 1 := (by omega); have ne48_3_0 : g5 ≠ W48.heap.size := (by omega); have en48_3_0 : W48.heap.size ≠ g5 := (by omega); have ne48_4_0 : g6 ≠ W48.heap.size := (by omega); have en48_4_0 : W48.heap.size ≠ g6 := (by omega))))) | (go_at_call 81; (first | ((with_reducible refine (HM.out _ _ _ ?_ ?_).mono ?_); (exact hrd.below (below_trans kb48 (by (repeat (first | exact Below.refl _ _ | assumption | with_reducible refine Below.drew ?_ | with_reducible refine below_trans ?_ (below_alloc _ _) | with_reducible refine below_trans ?_ (below_drewN _ _) | with_reducible refine Below.setCell ?_ (by simp <;> omega) _ | refine below_trans ?_ (by assumption)))))); (exact hr48.below (by (repeat (first | exact Below.refl _ _ | assumption | with_reducible refine Below.drew ?_ | with_reducible refine below_trans ?_ (below_alloc _ _) | with_reducible refine below_trans ?_ (below_drewN _ _) | with_reducible refine Below.setCell ?_ (by simp <;> omega) _ | refine below_trans ?_ (by assumption))))); (rintro e W49 ⟨r49, rfl, hr49, hb49⟩; obtain ⟨A49, n49, c49, rfl, hnn49⟩ := hr49.ex; clear hnn49; have kb49 : Below W48.heap.size W48 W49 := (by (repeat (first | exact Below.refl _ _ | assumption | with_reducible refine Below.drew ?_ | with_reducible refine below_trans ?_ (below_alloc _ _) | with_reducible refine below_trans ?_ (below_drewN _ _) | with_reducible refine Below.setCell ?_ (by simp <;> omega) _ | refine below_trans ?_ (by assumption)))); clear hb49; obtain ⟨hc49, hf49, hz49⟩ := bcells kb49 (W6.heap.size) (by omega))))) | (go_at_call 80; (first | ((with_reducible refine (HR.out _ _ _ _ _ ?_ ?_ ?_ ?_ ?_).mono ?_); (exact (by (repeat (first | exact Below.refl _ _ | assumption | with_reducible refine Below.drew ?_ | with_reducible refine below_trans ?_ (below_alloc _ _) | with_reducible refine below_trans ?_ (below_drewN _ _) | with_reducible refine Below.setCell ?_ (by simp <;> omega) _ | refine below_trans ?_ (by assumption))))); (exact hi5.below (below_trans (below_trans kb48 kb49) (by (repeat (first | exact Below.refl _ _ | assumption | with_reducible refine Below.drew ?_ | with_reducible refine below_trans ?_ (below_alloc _ _) | with_reducible refine below_trans ?_ (below_drewN _ _) | with_reducible refine Below.setCell ?_ (by simp <;> omega) _ | refine below_trans ?_ (by assumption)))))); (exact hi6.below (below_trans (below_trans kb48 kb49) (by (repeat (first | exact Below.refl _ _ | assumption | with_reducible refine Below.drew ?_ | with_reducible refine below_trans ?_ (below_alloc _ _) | with_reducible refine below_trans ?_ (below_drewN _ _) | with_reducible refine Below.setCell ?_ (by simp <;> omega) _ | refine below_trans ?_ (by assumption)))))); (exact hr49.below (by (repeat (first | exact Below.refl _ _ | assumption | with_reducible refine Below.drew ?_ | with_reducible refine below_trans ?_ (below_alloc _ _) | with_reducible refine below_trans ?_ (below_drewN _ _) | with_reducible refine Below.setCell ?_ (by simp <;> omega) _ | refine below_trans ?_ (by assumption))))); (exact hrg.below (below_trans (below_trans kb48 kb49) (by (repeat (first | exact Below.refl _ _ | assumption | with_reducible refine Below.drew ?_ | with_reducible refine below_trans ?_ (below_alloc _ _) | with_reducible refine below_trans ?_ (below_drewN _ _) | with_reducible refine Below.setCell ?_ (by simp <;> omega) _ | refine below_trans ?_ (by assumption)))))); (rintro e W50 ⟨r50, rfl, hr50, hb50⟩; obtain ⟨A50, n50, c50, p50, A50', n50', c50', p50', A50'', n50'', c50'', a50, b50, d50, rfl, -⟩ := hr50.parts; have kb50 : Below W49.heap.size W49 W50 := (by (repeat (first | exact Below.refl _ _ | assumption | with_reducible refine Below.drew ?_ | with_reducible refine below_trans ?_ (below_alloc _ _) | with_reducible refine below_trans ?_ (below_drewN _ _) | with_reducible refine Below.setCell ?_ (by simp <;> omega) _ | refine below_trans ?_ (by assumption)))); clear hb50; obtain ⟨hc50, hf50, hz50⟩ := bcells kb50 (W6.heap.size) (by omega))))))
      go_wp2
      have KB := below_trans (below_trans kb48 kb49) kb50
      have B9 := below_trans B6 KB
      obtain ⟨hc9, hf9, hz9⟩ := bcells KB (W6.heap.size) (by omega)
      have NB9 : NumBox W50 (w.heap.size + 1 + 1) := NumBox.of hc9 (by omega) NB6
      refine bodyPost_ret (v := .agg #[.slice A50 n50 c50, .bool p50, .slice A50' n50' c50', .bool p50', .slice A50'' n50'' c50'']) (by simp [results, Tryz.results15]; exact run_load5 NB9 _ _ _ _ _) rfl ?_
      exact RetNum.box B9 (by omega) NB9 (hr50) _ _ _ _ _

theorem addN_any (v u : Value) (x y : Cx) (w : World) (h : IsNum w v x) (h' : IsNum w u y) (m n : Nat) (hx : Sz x m) (hy : Sz y n) (hm : m + n + 1 < 549755813888) (hT : Tab w) :
    Calls Tryz.prog 15 #[v, u] w (RetNum w (x.add y)) := by
  by_cases h1 : x = .zero
  · exact addN_0x v u x y w h h' m n hx hy hm hT h1
  · by_cases h2 : y = .zero
    · exact addN_0y v u x y w h h' m n hx hy hm hT h1 h2
    · by_cases hdx : ∀ a b d, Low x a b d → d = 1
      · by_cases hdy : ∀ a b d, Low y a b d → d = 1
        · exact addN_ww v u x y w h h' m n hx hy hm hT h1 h2 hdx hdy
        · exact addN_v v u x y w h h' m n hx hy hm hT h1 h2 hdx hdy
      · exact addN_w v u x y w h h' m n hx hy hm hT h1 h2 hdx

end Go.Proofs.YtlljeccfhmojnaaGreatDoor
