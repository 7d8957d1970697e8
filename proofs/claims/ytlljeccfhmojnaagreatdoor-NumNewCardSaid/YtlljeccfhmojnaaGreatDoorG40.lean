/- Walks of the reference's half. -/
import Derived.Deep.RegionHeld3
import Derived.Test.YtlljeccfhmojnaaGreatDoorG30
import Derived.Test.YtlljeccfhmojnaaGreatDoorG38
import Derived.Test.YtlljeccfhmojnaaGreatDoorG39
set_option linter.unusedSimpArgs false
set_option linter.unusedVariables false
namespace Go.Proofs.YtlljeccfhmojnaaGreatDoor
open Go.RowKit
set_option maxRecDepth 100000

theorem neg_quot {g : Nat} {a : Int} (hg : 0 < g) (hd : (g : Int) ∣ a) (h : a < 0) : a / (g : Int) < 0 := by
  obtain ⟨k, rfl⟩ := hd
  rw [Int.mul_ediv_cancel_left _ (by omega)]
  rcases Int.lt_or_le k 0 with h4 | h4
  · exact h4
  · have := Int.mul_nonneg (show (0 : Int) ≤ (g : Int) by omega) h4
    omega
/-- The lowest terms of a real number given by any. -/
theorem rat_terms {p : Rat} {a : Int} {d : Nat} (hd : 0 < d) (h : p * (d : Rat) = (a : Rat)) : p.num.natAbs = a.natAbs / Nat.gcd a.natAbs d ∧ p.den = d / Nat.gcd a.natAbs d ∧ (p.num < 0 ↔ a < 0) := by
  have hl := Low.of (x := ⟨p, 0⟩) (b := 0) hd h (by simp)
  have hg : gcd3 a 0 d = Nat.gcd a.natAbs d := by simp [gcd3, Nat.gcd_comm]
  rw [hg] at hl
  obtain ⟨e1, -, e3⟩ := (low_rat p).uniq hl
  have hg0 : 0 < Nat.gcd a.natAbs d := Nat.gcd_pos_of_pos_right _ hd
  have hdv : ((Nat.gcd a.natAbs d : Nat) : Int) ∣ a := Int.ofNat_dvd_left.2 (Nat.gcd_dvd_left _ _)
  have hs := sign_quot hg0 hdv
  refine ⟨by rw [e1]; exact hs.1, e3, ?_⟩
  have h2 := hs.2
  rw [← e1] at h2
  constructor
  · intro h3
    rw [decide_eq_true h3] at h2
    simp at h2
    exact h2.1
  · intro h3
    rw [e1]
    exact neg_quot hg0 hdv h3

set_option maxHeartbeats 1000000 in
theorem rhalf_nw (v u : Value) (a : Int) (d : Nat) (p : Rat) (w : World) (h : IsRI w v a) (hu : IsNat w u d) (hd : 0 < d) (hp : p * (d : Rat) = (a : Rat)) (sa : wl a.natAbs < 549755813888) (sd : wl d < 549755813888) (hq : a < 0) (hm : d / Nat.gcd a.natAbs d = 1) :
    Calls Tryz.prog 97 #[v, u] w fun e w' => e = .returned (.string (strOfNums (rt p))) ∧ Below w.heap.size w w' := by
  obtain ⟨t1, t2, t3⟩ := rat_terms hd hp
  have hres : strOfNums (rt p) = _ := rt_nw (a := p.num) (d := p.den) (by rw [t3]; exact hq) (by rw [t2]; exact hm)
  rw [t1] at hres
  obtain ⟨A1, n1, c1, rfl, hn1, hs1⟩ := h.parts
  obtain ⟨A2, n2, c2, rfl, hn2⟩ := hu.ex
  have hg0 : 0 < Nat.gcd a.natAbs d := Nat.gcd_pos_of_pos_right _ hd
  have sg : wl (Nat.gcd a.natAbs d) < 549755813888 := Nat.lt_of_le_of_lt (wl_mono (Nat.le_of_dvd hd (Nat.gcd_dvd_right _ _))) sd
  have sN : wl (a.natAbs / Nat.gcd a.natAbs d) < 549755813888 := Nat.lt_of_le_of_lt (wl_mono (Nat.div_le_self _ _)) sa
  have sM : wl (d / Nat.gcd a.natAbs d) < 549755813888 := Nat.lt_of_le_of_lt (wl_mono (Nat.div_le_self _ _)) sd
  have G1 := Lib.hid (fun W (hb : Below w.heap.size w W) => rNatGcd_any _ _ _ _ W (hs1.below hb) (hu.below hb) sa sd)
  have D1 := Lib.hid (fun v W (hv : IsNat W v (Nat.gcd a.natAbs d)) (hb : Below w.heap.size w W) => rNatDiv_any _ _ _ _ W (hs1.below hb) hv hg0 sa sg)
  have D2 := Lib.hid (fun v W (hv : IsNat W v (Nat.gcd a.natAbs d)) (hb : Below w.heap.size w W) => rNatDiv_any _ _ _ _ W (hu.below hb) hv hg0 sd sg)
  have T1 := Lib.hid (fun v W (hv : IsNat W v (a.natAbs / Nat.gcd a.natAbs d)) => rNatText_any v _ W hv (by omega))
  have T2 := Lib.hid (fun v W (hv : IsNat W v (d / Nat.gcd a.natAbs d)) => rNatText_any v _ W hv (by omega))
  have z1 := dec_size (a.natAbs / Nat.gcd a.natAbs d)
  have z2 := nd_wl (a.natAbs / Nat.gcd a.natAbs d)
  have z3 := dec_size (d / Nat.gcd a.natAbs d)
  have z4 := nd_wl (d / Nat.gcd a.natAbs d)
  have hdq : decide (a < 0) = true := by simp; omega
  rw [hdq]
  rw [hres]
  have y0 : (strOfNums (dec (a.natAbs / Nat.gcd a.natAbs d))).size ≤ 20000000000000 := by omega
  have y1 : (strOfNums (dec (d / Nat.gcd a.natAbs d))).size ≤ 20000000000000 := by omega
  clear hres t1 t2 t3 hp hdq hq h hu hs1 hd hn1 hn2 sa sd sg sN sM z1 z2 z3 z4 hg0
  generalize Nat.gcd a.natAbs d = g at *
  generalize a.natAbs / g = N at *
  generalize d / g = M at *
  generalize strOfNums (dec N) = S1 at *
  generalize strOfNums (dec M) = S2 at *
  have x1 : ¬ (9223372036854775807 < 1 + S1.size) := by omega
  have x2 : ¬ (9223372036854775807 < 1 + S1.size + 1) := by omega
  have x3 : ¬ (9223372036854775807 < 1 + S1.size + 1 + S2.size) := by omega
  have x4 : ¬ (9223372036854775807 < S1.size + 1) := by omega
  have x5 : ¬ (9223372036854775807 < S1.size + 1 + S2.size) := by omega
  go_enter Tryz.func97, Tryz.ntmps97
  go_wp2_with fail
  refine (G1.out _ (by (repeat (first | exact Below.refl _ _ | assumption | with_reducible refine Below.drew ?_ | with_reducible refine below_trans ?_ (below_alloc _ _) | with_reducible refine below_trans ?_ (below_drewN _ _) | with_reducible refine Below.setCell ?_ (by simp <;> omega) _ | refine below_trans ?_ (by assumption))))).mono ?_
  rintro e W2 ⟨v2, rfl, hv2, hb2⟩
  obtain ⟨hc2, hf2, hz2⟩ := bcells hb2 (w.heap.size + 1) (by simp)
  have B2 : Below w.heap.size w W2 := (by (repeat (first | exact Below.refl _ _ | assumption | with_reducible refine Below.drew ?_ | with_reducible refine below_trans ?_ (below_alloc _ _) | with_reducible refine below_trans ?_ (below_drewN _ _) | with_reducible refine Below.setCell ?_ (by simp <;> omega) _ | refine below_trans ?_ (by assumption))))
  go_wp2_with fail
  refine (D1.out _ _ hv2 B2).mono ?_
  rintro e W3 ⟨v3, u3, rfl, hv3, -, hb3⟩
  obtain ⟨hc3, hf3, hz3⟩ := bcells hb3 (w.heap.size + 1) (by omega)
  have B3 := below_trans B2 hb3
  go_wp2_with fail
  refine (D2.out _ _ (hv2.below hb3) B3).mono ?_
  rintro e W4 ⟨v4, u4, rfl, hv4, -, hb4⟩
  obtain ⟨hc4, hf4, hz4⟩ := bcells hb4 (w.heap.size + 1) (by omega)
  have B4 := below_trans B3 hb4
  go_wp2_with fail
  refine (T1.out _ _ (hv3.below hb4)).mono ?_
  rintro e W5 ⟨rfl, hb5⟩
  obtain ⟨hc5, hf5, hz5⟩ := bcells hb5 (w.heap.size + 1) (by omega)
  have B5 := below_trans B4 hb5
  replace hv4 := hv4.below hb5
  clear hv2 hv3 hb3 hb4 hb5
  subst hm
  obtain ⟨A4, c4, rfl, hc4', hw4⟩ := hv4
  rw [wl_one] at *
  obtain ⟨b4, o4, rfl, hb4, hcell4⟩ := hw4 (by omega)
  have hcy := hcell4 0 (by omega)
  rw [show dg 1 0 = 1 from by simp [dg_zero], Nat.add_zero] at hcy
  clear hcell4 hw4
  go_wp2
  go_ret
  exact ⟨rfl, B5⟩
set_option maxHeartbeats 1000000 in
theorem rhalf_nf (v u : Value) (a : Int) (d : Nat) (p : Rat) (w : World) (h : IsRI w v a) (hu : IsNat w u d) (hd : 0 < d) (hp : p * (d : Rat) = (a : Rat)) (sa : wl a.natAbs < 549755813888) (sd : wl d < 549755813888) (hq : a < 0) (hm : d / Nat.gcd a.natAbs d ≠ 1) :
    Calls Tryz.prog 97 #[v, u] w fun e w' => e = .returned (.string (strOfNums (rt p))) ∧ Below w.heap.size w w' := by
  obtain ⟨t1, t2, t3⟩ := rat_terms hd hp
  have hres : strOfNums (rt p) = _ := rt_nf (a := p.num) (d := p.den) (by rw [t3]; exact hq) (by rw [t2]; exact hm)
  rw [t1, t2] at hres
  obtain ⟨A1, n1, c1, rfl, hn1, hs1⟩ := h.parts
  obtain ⟨A2, n2, c2, rfl, hn2⟩ := hu.ex
  have hg0 : 0 < Nat.gcd a.natAbs d := Nat.gcd_pos_of_pos_right _ hd
  have sg : wl (Nat.gcd a.natAbs d) < 549755813888 := Nat.lt_of_le_of_lt (wl_mono (Nat.le_of_dvd hd (Nat.gcd_dvd_right _ _))) sd
  have sN : wl (a.natAbs / Nat.gcd a.natAbs d) < 549755813888 := Nat.lt_of_le_of_lt (wl_mono (Nat.div_le_self _ _)) sa
  have sM : wl (d / Nat.gcd a.natAbs d) < 549755813888 := Nat.lt_of_le_of_lt (wl_mono (Nat.div_le_self _ _)) sd
  have G1 := Lib.hid (fun W (hb : Below w.heap.size w W) => rNatGcd_any _ _ _ _ W (hs1.below hb) (hu.below hb) sa sd)
  have D1 := Lib.hid (fun v W (hv : IsNat W v (Nat.gcd a.natAbs d)) (hb : Below w.heap.size w W) => rNatDiv_any _ _ _ _ W (hs1.below hb) hv hg0 sa sg)
  have D2 := Lib.hid (fun v W (hv : IsNat W v (Nat.gcd a.natAbs d)) (hb : Below w.heap.size w W) => rNatDiv_any _ _ _ _ W (hu.below hb) hv hg0 sd sg)
  have T1 := Lib.hid (fun v W (hv : IsNat W v (a.natAbs / Nat.gcd a.natAbs d)) => rNatText_any v _ W hv (by omega))
  have T2 := Lib.hid (fun v W (hv : IsNat W v (d / Nat.gcd a.natAbs d)) => rNatText_any v _ W hv (by omega))
  have z1 := dec_size (a.natAbs / Nat.gcd a.natAbs d)
  have z2 := nd_wl (a.natAbs / Nat.gcd a.natAbs d)
  have z3 := dec_size (d / Nat.gcd a.natAbs d)
  have z4 := nd_wl (d / Nat.gcd a.natAbs d)
  have hdq : decide (a < 0) = true := by simp; omega
  rw [hdq]
  rw [hres]
  rw [show ({ data := #[45] } ++ strOfNums (dec (a.natAbs / Nat.gcd a.natAbs d)) ++ ({ data := #[47] } ++ strOfNums (dec (d / Nat.gcd a.natAbs d))) : ByteArray) = { data := #[45] } ++ strOfNums (dec (a.natAbs / Nat.gcd a.natAbs d)) ++ { data := #[47] } ++ strOfNums (dec (d / Nat.gcd a.natAbs d)) from (ByteArray.append_assoc).symm]
  have y0 : (strOfNums (dec (a.natAbs / Nat.gcd a.natAbs d))).size ≤ 20000000000000 := by omega
  have y1 : (strOfNums (dec (d / Nat.gcd a.natAbs d))).size ≤ 20000000000000 := by omega
  clear hres t1 t2 t3 hp hdq hq h hu hs1 hd hn1 hn2 sa sd sg sN sM z1 z2 z3 z4 hg0
  generalize Nat.gcd a.natAbs d = g at *
  generalize a.natAbs / g = N at *
  generalize d / g = M at *
  generalize strOfNums (dec N) = S1 at *
  generalize strOfNums (dec M) = S2 at *
  have x1 : ¬ (9223372036854775807 < 1 + S1.size) := by omega
  have x2 : ¬ (9223372036854775807 < 1 + S1.size + 1) := by omega
  have x3 : ¬ (9223372036854775807 < 1 + S1.size + 1 + S2.size) := by omega
  have x4 : ¬ (9223372036854775807 < S1.size + 1) := by omega
  have x5 : ¬ (9223372036854775807 < S1.size + 1 + S2.size) := by omega
  go_enter Tryz.func97, Tryz.ntmps97
  go_wp2_with fail
  refine (G1.out _ (by (repeat (first | exact Below.refl _ _ | assumption | with_reducible refine Below.drew ?_ | with_reducible refine below_trans ?_ (below_alloc _ _) | with_reducible refine below_trans ?_ (below_drewN _ _) | with_reducible refine Below.setCell ?_ (by simp <;> omega) _ | refine below_trans ?_ (by assumption))))).mono ?_
  rintro e W2 ⟨v2, rfl, hv2, hb2⟩
  obtain ⟨hc2, hf2, hz2⟩ := bcells hb2 (w.heap.size + 1) (by simp)
  have B2 : Below w.heap.size w W2 := (by (repeat (first | exact Below.refl _ _ | assumption | with_reducible refine Below.drew ?_ | with_reducible refine below_trans ?_ (below_alloc _ _) | with_reducible refine below_trans ?_ (below_drewN _ _) | with_reducible refine Below.setCell ?_ (by simp <;> omega) _ | refine below_trans ?_ (by assumption))))
  go_wp2_with fail
  refine (D1.out _ _ hv2 B2).mono ?_
  rintro e W3 ⟨v3, u3, rfl, hv3, -, hb3⟩
  obtain ⟨hc3, hf3, hz3⟩ := bcells hb3 (w.heap.size + 1) (by omega)
  have B3 := below_trans B2 hb3
  go_wp2_with fail
  refine (D2.out _ _ (hv2.below hb3) B3).mono ?_
  rintro e W4 ⟨v4, u4, rfl, hv4, -, hb4⟩
  obtain ⟨hc4, hf4, hz4⟩ := bcells hb4 (w.heap.size + 1) (by omega)
  have B4 := below_trans B3 hb4
  go_wp2_with fail
  refine (T1.out _ _ (hv3.below hb4)).mono ?_
  rintro e W5 ⟨rfl, hb5⟩
  obtain ⟨hc5, hf5, hz5⟩ := bcells hb5 (w.heap.size + 1) (by omega)
  have B5 := below_trans B4 hb5
  replace hv4 := hv4.below hb5
  clear hv2 hv3 hb3 hb4 hb5
  have HV4 := Lib.hid hv4
  obtain ⟨A4, c4, rfl, hc4', hw4⟩ := hv4
  have hq : (wl M = 1 ∧ ∃ b o, A4 = some ⟨b, o, none⟩ ∧ b < W5.heap.size ∧ W5.cell? ⟨b, o, none⟩ = some (.int .u32 (M : Int))) ∨ ((wl M : Int) == 1) = false := by
    by_cases hk1 : wl M = 1
    · refine .inl ⟨hk1, ?_⟩
      obtain ⟨b4, o4, e4, hb4, hcell4⟩ := hw4 (by omega)
      have hcy := hcell4 0 (by omega)
      have hx := vs_dg_wl M
      rw [hk1, vs_one] at hx
      rw [hx, Nat.add_zero] at hcy
      exact ⟨b4, o4, e4, hb4, hcy⟩
    · exact .inr (by simp; omega)
  clear hw4 hc4'
  have hk2 : ((M : Int) == 1) = false := by simp; omega
  clear hm
  rcases hq with ⟨hk1, b4, o4, rfl, hb4, hcy⟩ | hk1
  all_goals
    try rw [hk1] at HV4
    go_wp2_with fail
    refine (T2.out _ _ HV4.out).mono ?_
    rintro e W6 ⟨rfl, hb6⟩
    go_wp2
    go_ret
    exact ⟨rfl, below_trans B5 hb6⟩
set_option maxHeartbeats 1000000 in
theorem rhalf_pw (v u : Value) (a : Int) (d : Nat) (p : Rat) (w : World) (h : IsRI w v a) (hu : IsNat w u d) (hd : 0 < d) (hp : p * (d : Rat) = (a : Rat)) (sa : wl a.natAbs < 549755813888) (sd : wl d < 549755813888) (hq : ¬ a < 0) (hm : d / Nat.gcd a.natAbs d = 1) :
    Calls Tryz.prog 97 #[v, u] w fun e w' => e = .returned (.string (strOfNums (rt p))) ∧ Below w.heap.size w w' := by
  obtain ⟨t1, t2, t3⟩ := rat_terms hd hp
  have hres : strOfNums (rt p) = _ := rt_pw (a := p.num) (d := p.den) (by rw [t3]; exact hq) (by rw [t2]; exact hm)
  rw [t1] at hres
  obtain ⟨A1, n1, c1, rfl, hn1, hs1⟩ := h.parts
  obtain ⟨A2, n2, c2, rfl, hn2⟩ := hu.ex
  have hg0 : 0 < Nat.gcd a.natAbs d := Nat.gcd_pos_of_pos_right _ hd
  have sg : wl (Nat.gcd a.natAbs d) < 549755813888 := Nat.lt_of_le_of_lt (wl_mono (Nat.le_of_dvd hd (Nat.gcd_dvd_right _ _))) sd
  have sN : wl (a.natAbs / Nat.gcd a.natAbs d) < 549755813888 := Nat.lt_of_le_of_lt (wl_mono (Nat.div_le_self _ _)) sa
  have sM : wl (d / Nat.gcd a.natAbs d) < 549755813888 := Nat.lt_of_le_of_lt (wl_mono (Nat.div_le_self _ _)) sd
  have G1 := Lib.hid (fun W (hb : Below w.heap.size w W) => rNatGcd_any _ _ _ _ W (hs1.below hb) (hu.below hb) sa sd)
  have D1 := Lib.hid (fun v W (hv : IsNat W v (Nat.gcd a.natAbs d)) (hb : Below w.heap.size w W) => rNatDiv_any _ _ _ _ W (hs1.below hb) hv hg0 sa sg)
  have D2 := Lib.hid (fun v W (hv : IsNat W v (Nat.gcd a.natAbs d)) (hb : Below w.heap.size w W) => rNatDiv_any _ _ _ _ W (hu.below hb) hv hg0 sd sg)
  have T1 := Lib.hid (fun v W (hv : IsNat W v (a.natAbs / Nat.gcd a.natAbs d)) => rNatText_any v _ W hv (by omega))
  have T2 := Lib.hid (fun v W (hv : IsNat W v (d / Nat.gcd a.natAbs d)) => rNatText_any v _ W hv (by omega))
  have z1 := dec_size (a.natAbs / Nat.gcd a.natAbs d)
  have z2 := nd_wl (a.natAbs / Nat.gcd a.natAbs d)
  have z3 := dec_size (d / Nat.gcd a.natAbs d)
  have z4 := nd_wl (d / Nat.gcd a.natAbs d)
  have hdq : decide (a < 0) = false := by simp; omega
  rw [hdq]
  rw [hres]
  have y0 : (strOfNums (dec (a.natAbs / Nat.gcd a.natAbs d))).size ≤ 20000000000000 := by omega
  have y1 : (strOfNums (dec (d / Nat.gcd a.natAbs d))).size ≤ 20000000000000 := by omega
  clear hres t1 t2 t3 hp hdq hq h hu hs1 hd hn1 hn2 sa sd sg sN sM z1 z2 z3 z4 hg0
  generalize Nat.gcd a.natAbs d = g at *
  generalize a.natAbs / g = N at *
  generalize d / g = M at *
  generalize strOfNums (dec N) = S1 at *
  generalize strOfNums (dec M) = S2 at *
  have x1 : ¬ (9223372036854775807 < 1 + S1.size) := by omega
  have x2 : ¬ (9223372036854775807 < 1 + S1.size + 1) := by omega
  have x3 : ¬ (9223372036854775807 < 1 + S1.size + 1 + S2.size) := by omega
  have x4 : ¬ (9223372036854775807 < S1.size + 1) := by omega
  have x5 : ¬ (9223372036854775807 < S1.size + 1 + S2.size) := by omega
  go_enter Tryz.func97, Tryz.ntmps97
  go_wp2_with fail
  refine (G1.out _ (by (repeat (first | exact Below.refl _ _ | assumption | with_reducible refine Below.drew ?_ | with_reducible refine below_trans ?_ (below_alloc _ _) | with_reducible refine below_trans ?_ (below_drewN _ _) | with_reducible refine Below.setCell ?_ (by simp <;> omega) _ | refine below_trans ?_ (by assumption))))).mono ?_
  rintro e W2 ⟨v2, rfl, hv2, hb2⟩
  obtain ⟨hc2, hf2, hz2⟩ := bcells hb2 (w.heap.size + 1) (by simp)
  have B2 : Below w.heap.size w W2 := (by (repeat (first | exact Below.refl _ _ | assumption | with_reducible refine Below.drew ?_ | with_reducible refine below_trans ?_ (below_alloc _ _) | with_reducible refine below_trans ?_ (below_drewN _ _) | with_reducible refine Below.setCell ?_ (by simp <;> omega) _ | refine below_trans ?_ (by assumption))))
  go_wp2_with fail
  refine (D1.out _ _ hv2 B2).mono ?_
  rintro e W3 ⟨v3, u3, rfl, hv3, -, hb3⟩
  obtain ⟨hc3, hf3, hz3⟩ := bcells hb3 (w.heap.size + 1) (by omega)
  have B3 := below_trans B2 hb3
  go_wp2_with fail
  refine (D2.out _ _ (hv2.below hb3) B3).mono ?_
  rintro e W4 ⟨v4, u4, rfl, hv4, -, hb4⟩
  obtain ⟨hc4, hf4, hz4⟩ := bcells hb4 (w.heap.size + 1) (by omega)
  have B4 := below_trans B3 hb4
  go_wp2_with fail
  refine (T1.out _ _ (hv3.below hb4)).mono ?_
  rintro e W5 ⟨rfl, hb5⟩
  obtain ⟨hc5, hf5, hz5⟩ := bcells hb5 (w.heap.size + 1) (by omega)
  have B5 := below_trans B4 hb5
  replace hv4 := hv4.below hb5
  clear hv2 hv3 hb3 hb4 hb5
  subst hm
  obtain ⟨A4, c4, rfl, hc4', hw4⟩ := hv4
  rw [wl_one] at *
  obtain ⟨b4, o4, rfl, hb4, hcell4⟩ := hw4 (by omega)
  have hcy := hcell4 0 (by omega)
  rw [show dg 1 0 = 1 from by simp [dg_zero], Nat.add_zero] at hcy
  clear hcell4 hw4
  go_wp2
  go_ret
  exact ⟨rfl, B5⟩
set_option maxHeartbeats 1000000 in
theorem rhalf_pf (v u : Value) (a : Int) (d : Nat) (p : Rat) (w : World) (h : IsRI w v a) (hu : IsNat w u d) (hd : 0 < d) (hp : p * (d : Rat) = (a : Rat)) (sa : wl a.natAbs < 549755813888) (sd : wl d < 549755813888) (hq : ¬ a < 0) (hm : d / Nat.gcd a.natAbs d ≠ 1) :
    Calls Tryz.prog 97 #[v, u] w fun e w' => e = .returned (.string (strOfNums (rt p))) ∧ Below w.heap.size w w' := by
  obtain ⟨t1, t2, t3⟩ := rat_terms hd hp
  have hres : strOfNums (rt p) = _ := rt_pf (a := p.num) (d := p.den) (by rw [t3]; exact hq) (by rw [t2]; exact hm)
  rw [t1, t2] at hres
  obtain ⟨A1, n1, c1, rfl, hn1, hs1⟩ := h.parts
  obtain ⟨A2, n2, c2, rfl, hn2⟩ := hu.ex
  have hg0 : 0 < Nat.gcd a.natAbs d := Nat.gcd_pos_of_pos_right _ hd
  have sg : wl (Nat.gcd a.natAbs d) < 549755813888 := Nat.lt_of_le_of_lt (wl_mono (Nat.le_of_dvd hd (Nat.gcd_dvd_right _ _))) sd
  have sN : wl (a.natAbs / Nat.gcd a.natAbs d) < 549755813888 := Nat.lt_of_le_of_lt (wl_mono (Nat.div_le_self _ _)) sa
  have sM : wl (d / Nat.gcd a.natAbs d) < 549755813888 := Nat.lt_of_le_of_lt (wl_mono (Nat.div_le_self _ _)) sd
  have G1 := Lib.hid (fun W (hb : Below w.heap.size w W) => rNatGcd_any _ _ _ _ W (hs1.below hb) (hu.below hb) sa sd)
  have D1 := Lib.hid (fun v W (hv : IsNat W v (Nat.gcd a.natAbs d)) (hb : Below w.heap.size w W) => rNatDiv_any _ _ _ _ W (hs1.below hb) hv hg0 sa sg)
  have D2 := Lib.hid (fun v W (hv : IsNat W v (Nat.gcd a.natAbs d)) (hb : Below w.heap.size w W) => rNatDiv_any _ _ _ _ W (hu.below hb) hv hg0 sd sg)
  have T1 := Lib.hid (fun v W (hv : IsNat W v (a.natAbs / Nat.gcd a.natAbs d)) => rNatText_any v _ W hv (by omega))
  have T2 := Lib.hid (fun v W (hv : IsNat W v (d / Nat.gcd a.natAbs d)) => rNatText_any v _ W hv (by omega))
  have z1 := dec_size (a.natAbs / Nat.gcd a.natAbs d)
  have z2 := nd_wl (a.natAbs / Nat.gcd a.natAbs d)
  have z3 := dec_size (d / Nat.gcd a.natAbs d)
  have z4 := nd_wl (d / Nat.gcd a.natAbs d)
  have hdq : decide (a < 0) = false := by simp; omega
  rw [hdq]
  rw [hres]
  rw [show (strOfNums (dec (a.natAbs / Nat.gcd a.natAbs d)) ++ ({ data := #[47] } ++ strOfNums (dec (d / Nat.gcd a.natAbs d))) : ByteArray) = strOfNums (dec (a.natAbs / Nat.gcd a.natAbs d)) ++ { data := #[47] } ++ strOfNums (dec (d / Nat.gcd a.natAbs d)) from (ByteArray.append_assoc).symm]
  have y0 : (strOfNums (dec (a.natAbs / Nat.gcd a.natAbs d))).size ≤ 20000000000000 := by omega
  have y1 : (strOfNums (dec (d / Nat.gcd a.natAbs d))).size ≤ 20000000000000 := by omega
  clear hres t1 t2 t3 hp hdq hq h hu hs1 hd hn1 hn2 sa sd sg sN sM z1 z2 z3 z4 hg0
  generalize Nat.gcd a.natAbs d = g at *
  generalize a.natAbs / g = N at *
  generalize d / g = M at *
  generalize strOfNums (dec N) = S1 at *
  generalize strOfNums (dec M) = S2 at *
  have x1 : ¬ (9223372036854775807 < 1 + S1.size) := by omega
  have x2 : ¬ (9223372036854775807 < 1 + S1.size + 1) := by omega
  have x3 : ¬ (9223372036854775807 < 1 + S1.size + 1 + S2.size) := by omega
  have x4 : ¬ (9223372036854775807 < S1.size + 1) := by omega
  have x5 : ¬ (9223372036854775807 < S1.size + 1 + S2.size) := by omega
  go_enter Tryz.func97, Tryz.ntmps97
  go_wp2_with fail
  refine (G1.out _ (by (repeat (first | exact Below.refl _ _ | assumption | with_reducible refine Below.drew ?_ | with_reducible refine below_trans ?_ (below_alloc _ _) | with_reducible refine below_trans ?_ (below_drewN _ _) | with_reducible refine Below.setCell ?_ (by simp <;> omega) _ | refine below_trans ?_ (by assumption))))).mono ?_
  rintro e W2 ⟨v2, rfl, hv2, hb2⟩
  obtain ⟨hc2, hf2, hz2⟩ := bcells hb2 (w.heap.size + 1) (by simp)
  have B2 : Below w.heap.size w W2 := (by (repeat (first | exact Below.refl _ _ | assumption | with_reducible refine Below.drew ?_ | with_reducible refine below_trans ?_ (below_alloc _ _) | with_reducible refine below_trans ?_ (below_drewN _ _) | with_reducible refine Below.setCell ?_ (by simp <;> omega) _ | refine below_trans ?_ (by assumption))))
  go_wp2_with fail
  refine (D1.out _ _ hv2 B2).mono ?_
  rintro e W3 ⟨v3, u3, rfl, hv3, -, hb3⟩
  obtain ⟨hc3, hf3, hz3⟩ := bcells hb3 (w.heap.size + 1) (by omega)
  have B3 := below_trans B2 hb3
  go_wp2_with fail
  refine (D2.out _ _ (hv2.below hb3) B3).mono ?_
  rintro e W4 ⟨v4, u4, rfl, hv4, -, hb4⟩
  obtain ⟨hc4, hf4, hz4⟩ := bcells hb4 (w.heap.size + 1) (by omega)
  have B4 := below_trans B3 hb4
  go_wp2_with fail
  refine (T1.out _ _ (hv3.below hb4)).mono ?_
  rintro e W5 ⟨rfl, hb5⟩
  obtain ⟨hc5, hf5, hz5⟩ := bcells hb5 (w.heap.size + 1) (by omega)
  have B5 := below_trans B4 hb5
  replace hv4 := hv4.below hb5
  clear hv2 hv3 hb3 hb4 hb5
  have HV4 := Lib.hid hv4
  obtain ⟨A4, c4, rfl, hc4', hw4⟩ := hv4
  have hq : (wl M = 1 ∧ ∃ b o, A4 = some ⟨b, o, none⟩ ∧ b < W5.heap.size ∧ W5.cell? ⟨b, o, none⟩ = some (.int .u32 (M : Int))) ∨ ((wl M : Int) == 1) = false := by
    by_cases hk1 : wl M = 1
    · refine .inl ⟨hk1, ?_⟩
      obtain ⟨b4, o4, e4, hb4, hcell4⟩ := hw4 (by omega)
      have hcy := hcell4 0 (by omega)
      have hx := vs_dg_wl M
      rw [hk1, vs_one] at hx
      rw [hx, Nat.add_zero] at hcy
      exact ⟨b4, o4, e4, hb4, hcy⟩
    · exact .inr (by simp; omega)
  clear hw4 hc4'
  have hk2 : ((M : Int) == 1) = false := by simp; omega
  clear hm
  rcases hq with ⟨hk1, b4, o4, rfl, hb4, hcy⟩ | hk1
  all_goals
    try rw [hk1] at HV4
    go_wp2_with fail
    refine (T2.out _ _ HV4.out).mono ?_
    rintro e W6 ⟨rfl, hb6⟩
    go_wp2
    go_ret
    exact ⟨rfl, below_trans B5 hb6⟩

theorem rhalf_any (v u : Value) (a : Int) (d : Nat) (p : Rat) (w : World) (h : IsRI w v a) (hu : IsNat w u d) (hd : 0 < d) (hp : p * (d : Rat) = (a : Rat)) (sa : wl a.natAbs < 549755813888) (sd : wl d < 549755813888) :
    Calls Tryz.prog 97 #[v, u] w fun e w' => e = .returned (.string (strOfNums (rt p))) ∧ Below w.heap.size w w' := by
  by_cases hq : a < 0 <;> by_cases hm : d / Nat.gcd a.natAbs d = 1
  · exact rhalf_nw v u a d p w h hu hd hp sa sd hq hm
  · exact rhalf_nf v u a d p w h hu hd hp sa sd hq hm
  · exact rhalf_pw v u a d p w h hu hd hp sa sd hq hm
  · exact rhalf_pf v u a d p w h hu hd hp sa sd hq hm
end Go.Proofs.YtlljeccfhmojnaaGreatDoor
set_option linter.unusedSimpArgs false
set_option linter.unusedVariables false
namespace Go.Proofs.YtlljeccfhmojnaaGreatDoor
open Go.RowKit
set_option maxRecDepth 100000

set_option maxHeartbeats 1000000 in
theorem rText_re (v : Value) (x : Cx) (w : World) (h : IsQ w v x) (m : Nat) (hx : Sz x m) (hm : m < 549755813888) (h0 : x.im = 0) :
    Calls Tryz.prog 43 #[v] w fun e w' => e = .returned (.string (strOfNums (ctext x))) ∧ Below w.heap.size w w' := by
  have hsr := rt_size (p := x.re) hx.real hm
  have hsi := rt_size (p := x.im) hx.imag hm
  rw [show ctext x = rt x.re from if_pos h0]
  obtain ⟨A1, n1, c1, p1, A2, n2, c2, p2, A3, n3, c3, a, b, d, rfl, hl, hr, hi, hs, hn1, hn2, -, hp1, hp2, -, -⟩ := h.parts
  obtain ⟨sa, sb, sd⟩ := hx _ _ _ hl
  have hb0 : b = 0 := (im_zero hl).1 h0
  have hn2' : n2 = 0 := by rw [hn2, hb0]; exact wl_zero
  subst hn2'
  have HA := Lib.hid (fun W (hb : Below w.heap.size w W) => rhalf_any _ _ a d x.re W (hr.below hb) (hs.below hb) hl.pos hl.2.2.1 (by omega) (by omega))
  have HB := Lib.hid (fun W (hb : Below w.heap.size w W) => rhalf_any _ _ b d x.im W (hi.below hb) (hs.below hb) hl.pos hl.2.2.2 (by omega) (by omega))
  clear hb0 hl hr hi hs sa sb sd hx hm h h0 hn1 hn2 hp1 hp2
  generalize strOfNums (rt x.re) = S1 at *
  generalize strOfNums (rt x.im) = S2 at *
  have y1 : ¬ (9223372036854775807 < S1.size + S2.size) := by omega
  have y2 : ¬ (9223372036854775807 < S1.size + S2.size + 1) := by omega
  have y3 : ¬ (9223372036854775807 < S1.size + 1) := by omega
  have y4 : ¬ (9223372036854775807 < S2.size + 1) := by omega
  have y5 : ¬ (9223372036854775807 < S1.size + 1 + S2.size) := by omega
  have y6 : ¬ (9223372036854775807 < S1.size + 1 + S2.size + 1) := by omega
  go_enter Tryz.func43, Tryz.ntmps43
  go_wp2_with fail
  refine (HA.out _ (by (repeat (first | exact Below.refl _ _ | assumption | with_reducible refine Below.drew ?_ | with_reducible refine below_trans ?_ (below_alloc _ _) | with_reducible refine below_trans ?_ (below_drewN _ _) | with_reducible refine Below.setCell ?_ (by simp <;> omega) _ | refine below_trans ?_ (by assumption))))).mono ?_
  rintro e W2 ⟨rfl, hb2⟩
  have B2 : Below w.heap.size w W2 := (by (repeat (first | exact Below.refl _ _ | assumption | with_reducible refine Below.drew ?_ | with_reducible refine below_trans ?_ (below_alloc _ _) | with_reducible refine below_trans ?_ (below_drewN _ _) | with_reducible refine Below.setCell ?_ (by simp <;> omega) _ | refine below_trans ?_ (by assumption))))
  go_wp2
  go_ret
  exact ⟨rfl, B2⟩
set_option maxHeartbeats 1000000 in
theorem rText_im (v : Value) (x : Cx) (w : World) (h : IsQ w v x) (m : Nat) (hx : Sz x m) (hm : m < 549755813888) (h0 : x.im ≠ 0) (h1 : x.re = 0) :
    Calls Tryz.prog 43 #[v] w fun e w' => e = .returned (.string (strOfNums (ctext x))) ∧ Below w.heap.size w w' := by
  have hsr := rt_size (p := x.re) hx.real hm
  have hsi := rt_size (p := x.im) hx.imag hm
  rw [show ctext x = rt x.im ++ [105] from (if_neg h0).trans (if_pos h1), ← strs_append, show strOfNums [105] = { data := #[105] } from by decide +kernel]
  obtain ⟨A1, n1, c1, p1, A2, n2, c2, p2, A3, n3, c3, a, b, d, rfl, hl, hr, hi, hs, hn1, hn2, -, hp1, hp2, -, -⟩ := h.parts
  obtain ⟨sa, sb, sd⟩ := hx _ _ _ hl
  have hb0 : b ≠ 0 := fun e => h0 ((im_zero hl).2 e)
  have ha0 : a = 0 := (re_zero hl).1 h1
  have hb1 : ¬ n2 = 0 := fun e => hb0 (by have := wl_eq_zero.1 (hn2.symm.trans e); omega)
  have hn1' : n1 = 0 := by rw [hn1, ha0]; exact wl_zero
  subst hn1'
  have HA := Lib.hid (fun W (hb : Below w.heap.size w W) => rhalf_any _ _ a d x.re W (hr.below hb) (hs.below hb) hl.pos hl.2.2.1 (by omega) (by omega))
  have HB := Lib.hid (fun W (hb : Below w.heap.size w W) => rhalf_any _ _ b d x.im W (hi.below hb) (hs.below hb) hl.pos hl.2.2.2 (by omega) (by omega))
  clear hb0 ha0 h1 hl hr hi hs sa sb sd hx hm h h0 hn1 hn2 hp1 hp2
  generalize strOfNums (rt x.re) = S1 at *
  generalize strOfNums (rt x.im) = S2 at *
  have y1 : ¬ (9223372036854775807 < S1.size + S2.size) := by omega
  have y2 : ¬ (9223372036854775807 < S1.size + S2.size + 1) := by omega
  have y3 : ¬ (9223372036854775807 < S1.size + 1) := by omega
  have y4 : ¬ (9223372036854775807 < S2.size + 1) := by omega
  have y5 : ¬ (9223372036854775807 < S1.size + 1 + S2.size) := by omega
  have y6 : ¬ (9223372036854775807 < S1.size + 1 + S2.size + 1) := by omega
  go_enter Tryz.func43, Tryz.ntmps43
  go_wp2_with fail
  refine (HB.out _ (by (repeat (first | exact Below.refl _ _ | assumption | with_reducible refine Below.drew ?_ | with_reducible refine below_trans ?_ (below_alloc _ _) | with_reducible refine below_trans ?_ (below_drewN _ _) | with_reducible refine Below.setCell ?_ (by simp <;> omega) _ | refine below_trans ?_ (by assumption))))).mono ?_
  rintro e W2 ⟨rfl, hb2⟩
  have B2 : Below w.heap.size w W2 := (by (repeat (first | exact Below.refl _ _ | assumption | with_reducible refine Below.drew ?_ | with_reducible refine below_trans ?_ (below_alloc _ _) | with_reducible refine below_trans ?_ (below_drewN _ _) | with_reducible refine Below.setCell ?_ (by simp <;> omega) _ | refine below_trans ?_ (by assumption))))
  go_wp2
  go_ret
  exact ⟨rfl, B2⟩
set_option maxHeartbeats 1000000 in
theorem rText_lo (v : Value) (x : Cx) (w : World) (h : IsQ w v x) (m : Nat) (hx : Sz x m) (hm : m < 549755813888) (h0 : x.im ≠ 0) (h1 : x.re ≠ 0) (h2 : x.im < 0) :
    Calls Tryz.prog 43 #[v] w fun e w' => e = .returned (.string (strOfNums (ctext x))) ∧ Below w.heap.size w w' := by
  have hsr := rt_size (p := x.re) hx.real hm
  have hsi := rt_size (p := x.im) hx.imag hm
  rw [show ctext x = rt x.re ++ rt x.im ++ [105] from (if_neg h0).trans ((if_neg h1).trans (if_pos h2)), ← strs_append, ← strs_append, show strOfNums [105] = { data := #[105] } from by decide +kernel]
  obtain ⟨A1, n1, c1, p1, A2, n2, c2, p2, A3, n3, c3, a, b, d, rfl, hl, hr, hi, hs, hn1, hn2, -, hp1, hp2, -, -⟩ := h.parts
  obtain ⟨sa, sb, sd⟩ := hx _ _ _ hl
  have hb0 : b ≠ 0 := fun e => h0 ((im_zero hl).2 e)
  have ha0 : a ≠ 0 := fun e => h1 ((re_zero hl).2 e)
  have hs0 : decide (b < 0) = true := by rw [decide_eq_true_iff]; exact (im_neg hl).1 h2
  have hb1 : ¬ n2 = 0 := fun e => hb0 (by have := wl_eq_zero.1 (hn2.symm.trans e); omega)
  have ha1 : ¬ n1 = 0 := fun e => ha0 (by have := wl_eq_zero.1 (hn1.symm.trans e); omega)
  rw [hs0] at hp2
  subst hp2
  have HA := Lib.hid (fun W (hb : Below w.heap.size w W) => rhalf_any _ _ a d x.re W (hr.below hb) (hs.below hb) hl.pos hl.2.2.1 (by omega) (by omega))
  have HB := Lib.hid (fun W (hb : Below w.heap.size w W) => rhalf_any _ _ b d x.im W (hi.below hb) (hs.below hb) hl.pos hl.2.2.2 (by omega) (by omega))
  clear hb0 ha0 hs0 h1 h2 hl hr hi hs sa sb sd hx hm h h0 hn1 hn2 hp1 
  generalize strOfNums (rt x.re) = S1 at *
  generalize strOfNums (rt x.im) = S2 at *
  have y1 : ¬ (9223372036854775807 < S1.size + S2.size) := by omega
  have y2 : ¬ (9223372036854775807 < S1.size + S2.size + 1) := by omega
  have y3 : ¬ (9223372036854775807 < S1.size + 1) := by omega
  have y4 : ¬ (9223372036854775807 < S2.size + 1) := by omega
  have y5 : ¬ (9223372036854775807 < S1.size + 1 + S2.size) := by omega
  have y6 : ¬ (9223372036854775807 < S1.size + 1 + S2.size + 1) := by omega
  go_enter Tryz.func43, Tryz.ntmps43
  go_wp2_with fail
  go_region_held3 (fun w' => w'.cell? ⟨w.heap.size, 0, none⟩ = some (.bool p1) ∧ w'.cell? ⟨w.heap.size, 1, none⟩ = some (.slice A1 n1 c1) ∧ w'.cell? ⟨w.heap.size, 2, none⟩ = some (.bool true) ∧ w'.cell? ⟨w.heap.size, 3, none⟩ = some (.slice A2 n2 c2) ∧ w'.cell? ⟨w.heap.size, 4, none⟩ = some (.slice A3 n3 c3)) (go_keep) (first | (go_at_call 97; (first | ((with_reducible refine (HA.out _ ?_).mono ?_); (exact (by (repeat (first | exact Below.refl _ _ | assumption | with_reducible refine Below.drew ?_ | with_reducible refine below_trans ?_ (below_alloc _ _) | with_reducible refine below_trans ?_ (below_drewN _ _) | with_reducible refine Below.setCell ?_ (by simp <;> omega) _ | refine below_trans ?_ (by assumption))))); (rintro e W6 ⟨rfl, hb6⟩; obtain ⟨hc6, hf6, hz6⟩ := bcells hb6 (w.heap.size + 1) (by simp <;> omega))) | ((with_reducible refine (HB.out _ ?_).mono ?_); (exact (by (repeat (first | exact Below.refl _ _ | assumption | with_reducible refine Below.drew ?_ | with_reducible refine below_trans ?_ (below_alloc _ _) | with_reducible refine below_trans ?_ (below_drewN _ _) | with_reducible refine Below.setCell ?_ (by simp <;> omega) _ | refine below_trans ?_ (by assumption))))); (rintro e W7 ⟨rfl, hb7⟩; have kb7 : Below W6.heap.size W6 W7 := (by (repeat (first | exact Below.refl _ _ | assumption | with_reducible refine Below.drew ?_ | with_reducible refine below_trans ?_ (below_alloc _ _) | with_reducible refine below_trans ?_ (below_drewN _ _) | with_reducible refine Below.setCell ?_ (by simp <;> omega) _ | refine below_trans ?_ (by assumption)))); clear hb7; obtain ⟨hc7, hf7, hz7⟩ := bcells kb7 (w.heap.size + 1) (by omega))))))
  go_wp2
  have B6 : Below w.heap.size w W6 := (by (repeat (first | exact Below.refl _ _ | assumption | with_reducible refine Below.drew ?_ | with_reducible refine below_trans ?_ (below_alloc _ _) | with_reducible refine below_trans ?_ (below_drewN _ _) | with_reducible refine Below.setCell ?_ (by simp <;> omega) _ | refine below_trans ?_ (by assumption))))
  go_ret
  exact ⟨rfl, below_trans B6 kb7⟩
set_option maxHeartbeats 1000000 in
theorem rText_hi (v : Value) (x : Cx) (w : World) (h : IsQ w v x) (m : Nat) (hx : Sz x m) (hm : m < 549755813888) (h0 : x.im ≠ 0) (h1 : x.re ≠ 0) (h2 : ¬ x.im < 0) :
    Calls Tryz.prog 43 #[v] w fun e w' => e = .returned (.string (strOfNums (ctext x))) ∧ Below w.heap.size w w' := by
  have hsr := rt_size (p := x.re) hx.real hm
  have hsi := rt_size (p := x.im) hx.imag hm
  rw [show ctext x = rt x.re ++ [43] ++ rt x.im ++ [105] from (if_neg h0).trans ((if_neg h1).trans (if_neg h2)), ← strs_append, ← strs_append, ← strs_append, show strOfNums [105] = { data := #[105] } from by decide +kernel, show strOfNums [43] = { data := #[43] } from by decide +kernel]
  obtain ⟨A1, n1, c1, p1, A2, n2, c2, p2, A3, n3, c3, a, b, d, rfl, hl, hr, hi, hs, hn1, hn2, -, hp1, hp2, -, -⟩ := h.parts
  obtain ⟨sa, sb, sd⟩ := hx _ _ _ hl
  have hb0 : b ≠ 0 := fun e => h0 ((im_zero hl).2 e)
  have ha0 : a ≠ 0 := fun e => h1 ((re_zero hl).2 e)
  have hs0 : decide (b < 0) = false := by rw [decide_eq_false_iff_not]; exact fun e => h2 ((im_neg hl).2 e)
  have hb1 : ¬ n2 = 0 := fun e => hb0 (by have := wl_eq_zero.1 (hn2.symm.trans e); omega)
  have ha1 : ¬ n1 = 0 := fun e => ha0 (by have := wl_eq_zero.1 (hn1.symm.trans e); omega)
  rw [hs0] at hp2
  subst hp2
  have HA := Lib.hid (fun W (hb : Below w.heap.size w W) => rhalf_any _ _ a d x.re W (hr.below hb) (hs.below hb) hl.pos hl.2.2.1 (by omega) (by omega))
  have HB := Lib.hid (fun W (hb : Below w.heap.size w W) => rhalf_any _ _ b d x.im W (hi.below hb) (hs.below hb) hl.pos hl.2.2.2 (by omega) (by omega))
  clear hb0 ha0 hs0 h1 h2 hl hr hi hs sa sb sd hx hm h h0 hn1 hn2 hp1 
  generalize strOfNums (rt x.re) = S1 at *
  generalize strOfNums (rt x.im) = S2 at *
  have y1 : ¬ (9223372036854775807 < S1.size + S2.size) := by omega
  have y2 : ¬ (9223372036854775807 < S1.size + S2.size + 1) := by omega
  have y3 : ¬ (9223372036854775807 < S1.size + 1) := by omega
  have y4 : ¬ (9223372036854775807 < S2.size + 1) := by omega
  have y5 : ¬ (9223372036854775807 < S1.size + 1 + S2.size) := by omega
  have y6 : ¬ (9223372036854775807 < S1.size + 1 + S2.size + 1) := by omega
  go_enter Tryz.func43, Tryz.ntmps43
  go_wp2_with fail
  go_region_held3 (fun w' => w'.cell? ⟨w.heap.size, 0, none⟩ = some (.bool p1) ∧ w'.cell? ⟨w.heap.size, 1, none⟩ = some (.slice A1 n1 c1) ∧ w'.cell? ⟨w.heap.size, 2, none⟩ = some (.bool false) ∧ w'.cell? ⟨w.heap.size, 3, none⟩ = some (.slice A2 n2 c2) ∧ w'.cell? ⟨w.heap.size, 4, none⟩ = some (.slice A3 n3 c3)) (go_keep) (first | (go_at_call 97; (first | ((with_reducible refine (HA.out _ ?_).mono ?_); (exact (by (repeat (first | exact Below.refl _ _ | assumption | with_reducible refine Below.drew ?_ | with_reducible refine below_trans ?_ (below_alloc _ _) | with_reducible refine below_trans ?_ (below_drewN _ _) | with_reducible refine Below.setCell ?_ (by simp <;> omega) _ | refine below_trans ?_ (by assumption))))); (rintro e W6 ⟨rfl, hb6⟩; obtain ⟨hc6, hf6, hz6⟩ := bcells hb6 (w.heap.size + 1) (by simp <;> omega))) | ((with_reducible refine (HB.out _ ?_).mono ?_); (exact (by (repeat (first | exact Below.refl _ _ | assumption | with_reducible refine Below.drew ?_ | with_reducible refine below_trans ?_ (below_alloc _ _) | with_reducible refine below_trans ?_ (below_drewN _ _) | with_reducible refine Below.setCell ?_ (by simp <;> omega) _ | refine below_trans ?_ (by assumption))))); (rintro e W7 ⟨rfl, hb7⟩; have kb7 : Below W6.heap.size W6 W7 := (by (repeat (first | exact Below.refl _ _ | assumption | with_reducible refine Below.drew ?_ | with_reducible refine below_trans ?_ (below_alloc _ _) | with_reducible refine below_trans ?_ (below_drewN _ _) | with_reducible refine Below.setCell ?_ (by simp <;> omega) _ | refine below_trans ?_ (by assumption)))); clear hb7; obtain ⟨hc7, hf7, hz7⟩ := bcells kb7 (w.heap.size + 1) (by omega))))))
  go_wp2
  have B6 : Below w.heap.size w W6 := (by (repeat (first | exact Below.refl _ _ | assumption | with_reducible refine Below.drew ?_ | with_reducible refine below_trans ?_ (below_alloc _ _) | with_reducible refine below_trans ?_ (below_drewN _ _) | with_reducible refine Below.setCell ?_ (by simp <;> omega) _ | refine below_trans ?_ (by assumption))))
  go_ret
  exact ⟨rfl, below_trans B6 kb7⟩
theorem rText_any (v : Value) (x : Cx) (w : World) (h : IsQ w v x) (m : Nat) (hx : Sz x m) (hm : m < 549755813888) :
    Calls Tryz.prog 43 #[v] w fun e w' => e = .returned (.string (strOfNums (ctext x))) ∧ Below w.heap.size w w' := by
  by_cases h0 : x.im = 0
  · exact rText_re v x w h m hx hm h0
  · by_cases h1 : x.re = 0
    · exact rText_im v x w h m hx hm h0 h1
    · by_cases h2 : x.im < 0
      · exact rText_lo v x w h m hx hm h0 h1 h2
      · exact rText_hi v x w h m hx hm h0 h1 h2
end Go.Proofs.YtlljeccfhmojnaaGreatDoor
set_option linter.unusedSimpArgs false
set_option linter.unusedVariables false
namespace Go.Proofs.YtlljeccfhmojnaaGreatDoor
open Go.RowKit
set_option maxRecDepth 100000

set_option maxHeartbeats 1000000 in
theorem is_any (v u : Value) (x : Cx) (w : World) (h : IsNum w v x) (h' : IsQ w u x) (hT : Tab w) (m : Nat) (hx : Sz x m) (hm : m < 549755813888) :
    Calls Tryz.prog 9 #[v, u] w fun e w' => e = .returned (.bool true) ∧ Below w.heap.size w w' := by
  have HA := Lib.hid (fun W (hb : Below w.heap.size w W) => text_any v x W (h.below hb) (hT.below hb) m hx hm)
  have HB := Lib.hid (fun W (hb : Below w.heap.size w W) => rText_any u x W (h'.below hb) m hx hm)
  obtain ⟨A1, n1, c1, p1, A2, n2, c2, p2, A3, n3, c3, a, b, d, rfl, -⟩ := h.parts
  obtain ⟨A4, n4, c4, p4, A5, n5, c5, p5, A6, n6, c6, a', b', d', rfl, -⟩ := h'.parts
  clear h h' hT hx hm
  generalize strOfNums (ctext x) = S at *
  go_enter Tryz.func9, Tryz.ntmps9
  go_wp2_with fail
  go_region_held3 (fun w' => w'.cell? ⟨w.heap.size, 0, none⟩ = some (.slice A1 n1 c1) ∧ w'.cell? ⟨w.heap.size, 1, none⟩ = some (.bool p1) ∧ w'.cell? ⟨w.heap.size, 2, none⟩ = some (.slice A2 n2 c2) ∧ w'.cell? ⟨w.heap.size, 3, none⟩ = some (.bool p2) ∧ w'.cell? ⟨w.heap.size, 4, none⟩ = some (.slice A3 n3 c3) ∧ w'.cell? ⟨w.heap.size + 1, 0, none⟩ = some (.bool p4) ∧ w'.cell? ⟨w.heap.size + 1, 1, none⟩ = some (.slice A4 n4 c4) ∧ w'.cell? ⟨w.heap.size + 1, 2, none⟩ = some (.bool p5) ∧ w'.cell? ⟨w.heap.size + 1, 3, none⟩ = some (.slice A5 n5 c5) ∧ w'.cell? ⟨w.heap.size + 1, 4, none⟩ = some (.slice A6 n6 c6)) (go_keep) (first | (go_at_call 70; ((with_reducible refine (HA.out _ ?_).mono ?_); (exact (by (repeat (first | exact Below.refl _ _ | assumption | with_reducible refine Below.drew ?_ | with_reducible refine below_trans ?_ (below_alloc _ _) | with_reducible refine below_trans ?_ (below_drewN _ _) | with_reducible refine Below.setCell ?_ (by simp <;> omega) _ | refine below_trans ?_ (by assumption))))); (rintro e W6 ⟨rfl, hb6⟩; obtain ⟨hc6, hf6, hz6⟩ := bcells hb6 (w.heap.size + 2) (by simp <;> omega)))) | (go_at_call 43; ((with_reducible refine (HB.out _ ?_).mono ?_); (exact (by (repeat (first | exact Below.refl _ _ | assumption | with_reducible refine Below.drew ?_ | with_reducible refine below_trans ?_ (below_alloc _ _) | with_reducible refine below_trans ?_ (below_drewN _ _) | with_reducible refine Below.setCell ?_ (by simp <;> omega) _ | refine below_trans ?_ (by assumption))))); (rintro e W7 ⟨rfl, hb7⟩; have kb7 : Below W6.heap.size W6 W7 := (by (repeat (first | exact Below.refl _ _ | assumption | with_reducible refine Below.drew ?_ | with_reducible refine below_trans ?_ (below_alloc _ _) | with_reducible refine below_trans ?_ (below_drewN _ _) | with_reducible refine Below.setCell ?_ (by simp <;> omega) _ | refine below_trans ?_ (by assumption)))); clear hb7; obtain ⟨hc7, hf7, hz7⟩ := bcells kb7 (w.heap.size + 2) (by omega)))))
  go_wp2
  have B6 : Below w.heap.size w W6 := (by (repeat (first | exact Below.refl _ _ | assumption | with_reducible refine Below.drew ?_ | with_reducible refine below_trans ?_ (below_alloc _ _) | with_reducible refine below_trans ?_ (below_drewN _ _) | with_reducible refine Below.setCell ?_ (by simp <;> omega) _ | refine below_trans ?_ (by assumption))))
  go_ret
  exact ⟨rfl, below_trans B6 kb7⟩
end Go.Proofs.YtlljeccfhmojnaaGreatDoor
