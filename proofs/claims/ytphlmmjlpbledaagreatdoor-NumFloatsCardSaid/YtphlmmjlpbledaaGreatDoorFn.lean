
/- The reference's Complex. -/
import Derived.Test.YtphlmmjlpbledaaGreatDoorK37
import Derived.Test.YtphlmmjlpbledaaGreatDoorFy
import Derived.Test.YtphlmmjlpbledaaGreatDoorFl
set_option linter.unusedSimpArgs false
set_option linter.unusedVariables false
namespace Go.Proofs.YtphlmmjlpbledaaGreatDoor
open Go.RowKit
set_option maxRecDepth 100000

theorem rfinite_any (b : Nat) (w : World) (hb : b < 18446744073709551616) :
    Calls Tryz.prog 82 #[.float .f64 b] w fun e w' => e = .returned (.bool (decide (fx b ≠ 2047))) ∧ w = w' := by
  have hfb := floatbits_run
  have h1 := fx_bits b hb
  have hd : ((fx b : Int) != 2047) = decide (fx b ≠ 2047) := by
    rw [Bool.eq_iff_iff]
    simp
    omega
  generalize decide (fx b ≠ 2047) = o at *
  go_enter Tryz.func82, Tryz.ntmps82
  go_wp2
  go_ret
  exact ⟨rfl, rfl⟩
theorem rcomplex_bad (a b : Nat) (w : World) (ha : a < 18446744073709551616) (hb : b < 18446744073709551616) (h : fx a = 2047 ∨ fx b = 2047) :
    Calls Tryz.prog 22 #[.complex .f64 a b] w (RetQE w .zero 1) := by
  have HA := Lib.hid (fun W => rfinite_any a W ha)
  have HB := Lib.hid (fun W => rfinite_any b W hb)
  obtain ⟨oa, hoa⟩ : ∃ o, decide (fx a ≠ 2047) = o := ⟨_, rfl⟩
  obtain ⟨ob, hob⟩ : ∃ o, decide (fx b ≠ 2047) = o := ⟨_, rfl⟩
  have HO := Lib.hid (show oa = false ∨ ob = false by
    rcases h with h | h
    · left; rw [← hoa, h]; rfl
    · right; rw [← hob, h]; rfl)
  have HOA := Lib.hid hoa
  have HOB := Lib.hid hob
  have HW := Lib.hid (fun W => rWhole_any 0 W (by omega) (by omega))
  clear ha hb h hoa hob
  go_enter Tryz.func22, Tryz.ntmps22
  go_wp2_with fail
  refine (HA.out _).mono ?_
  rintro e w1 ⟨rfl, rfl⟩
  rw [HOA.out]
  cases oa
  · go_wp2_with fail
    refine (HW.out _).mono ?_
    rintro e W2 ⟨r, rfl, hr, hb2⟩
    obtain ⟨hc2, hf2, hz2⟩ := bcells hb2 (w.heap.size + 1) (by simp)
    obtain ⟨A1, n1, c1, p1, A2, n2, c2, p2, A3, n3, c3, a, b, d, rfl, -⟩ := hr.parts
    have hr' : IsQ W2 (.agg #[.bool p1, .slice A1 n1 c1, .bool p2, .slice A2 n2 c2, .slice A3 n3 c3]) .zero := hr
    clear hr
    go_wp2
    have NB : NumBox W2 w.heap.size := NumBox.of hc2 (by omega) (.nilQ (by simp [go_sem]) (by simp [go_sem]) (by simp [go_sem]) (by simp [go_sem]) (by simp [go_sem]))
    refine bodyPost_ret (v := .tuple #[.agg #[.bool p1, .slice A1 n1 c1, .bool p2, .slice A2 n2 c2, .slice A3 n3 c3], .int .i64 1]) (by simp [results, Tryz.results22]; exact run_loadQe NB _ _ _ _ _ _) rfl ?_
    exact RetQE.box (by (repeat (first | exact Below.refl _ _ | assumption | with_reducible refine Below.drew ?_ | with_reducible refine below_trans ?_ (below_alloc _ _) | with_reducible refine below_trans ?_ (below_drewN _ _) | with_reducible refine Below.setCell ?_ (by simp <;> omega) _ | refine below_trans ?_ (by assumption)))) (by omega) NB hr' _ _ _ _ _
  · obtain rfl : ob = false := by rcases HO.out with h | h <;> simp_all
    go_wp2_with fail
    refine (HB.out _).mono ?_
    rintro e w1 ⟨rfl, rfl⟩
    rw [HOB.out]
    go_wp2_with fail
    refine (HW.out _).mono ?_
    rintro e W2 ⟨r, rfl, hr, hb2⟩
    obtain ⟨hc2, hf2, hz2⟩ := bcells hb2 (w.heap.size + 1) (by simp)
    obtain ⟨A1, n1, c1, p1, A2, n2, c2, p2, A3, n3, c3, a, b, d, rfl, -⟩ := hr.parts
    have hr' : IsQ W2 (.agg #[.bool p1, .slice A1 n1 c1, .bool p2, .slice A2 n2 c2, .slice A3 n3 c3]) .zero := hr
    clear hr
    go_wp2
    have NB : NumBox W2 w.heap.size := NumBox.of hc2 (by omega) (.nilQ (by simp [go_sem]) (by simp [go_sem]) (by simp [go_sem]) (by simp [go_sem]) (by simp [go_sem]))
    refine bodyPost_ret (v := .tuple #[.agg #[.bool p1, .slice A1 n1 c1, .bool p2, .slice A2 n2 c2, .slice A3 n3 c3], .int .i64 1]) (by simp [results, Tryz.results22]; exact run_loadQe NB _ _ _ _ _ _) rfl ?_
    exact RetQE.box (by (repeat (first | exact Below.refl _ _ | assumption | with_reducible refine Below.drew ?_ | with_reducible refine below_trans ?_ (below_alloc _ _) | with_reducible refine below_trans ?_ (below_drewN _ _) | with_reducible refine Below.setCell ?_ (by simp <;> omega) _ | refine below_trans ?_ (by assumption)))) (by omega) NB hr' _ _ _ _ _
set_option maxHeartbeats 1000000 in
theorem rcomplex_good (a b : Nat) (w : World) (ha : a < 18446744073709551616) (hb : b < 18446744073709551616) (xa : fx a ≠ 2047) (xb : fx b ≠ 2047) :
    Calls Tryz.prog 22 #[.complex .f64 a b] w (RetQE w (cf a b) 0) := by
  have HA := Lib.hid (fun W => rfinite_any a W ha)
  have HB := Lib.hid (fun W => rfinite_any b W hb)
  have HOA := Lib.hid (show decide (fx a ≠ 2047) = true by simpa using xa)
  have HOB := Lib.hid (show decide (fx b ≠ 2047) = true by simpa using xb)
  have HDA := Lib.hid (fun W => rdyadic_any a W ha xa)
  have HDB := Lib.hid (fun W => rdyadic_any b W hb xb)
  have HI := Lib.hid (fun W => rIntOf_any 1 W (by omega) (by omega))
  have HM := Lib.hid (fun W v u (h : IsQ W v (dy b)) (h' : IsQ W u ci) => rMul_any v u (dy b) ci W h h' 67 1 (dy_sz b) ci_sz (by omega))
  have HAd := Lib.hid (fun W v u (h : IsQ W v (dy a)) (h' : IsQ W u ((dy b).mul ci)) => (show RetQ W ((dy a).add ((dy b).mul ci)) = RetQ W (cf a b) by rw [cf_dy]) ▸ rAdd_any v u (dy a) _ W h h' 67 69 (dy_sz a) ((dy_sz b).mul ci_sz) (by omega))
  clear ha hb xa xb
  go_enter Tryz.func22, Tryz.ntmps22
  go_wp2_with fail
  refine (HA.out _).mono ?_
  rintro e w1 ⟨rfl, rfl⟩
  rw [HOA.out]
  go_wp2_with fail
  refine (HB.out _).mono ?_
  rintro e w1 ⟨rfl, rfl⟩
  rw [HOB.out]
  go_wp2_with fail
  refine (HDA.out _).mono ?_
  rintro e w3 ⟨v3, rfl, hq3, hb3⟩
  have HQ3 := Lib.hid hq3
  have B3 := Lib.hid (below_trans (below_alloc w _) hb3)
  clear hq3
  obtain ⟨hc3, hf3, hz3⟩ := bcells hb3 (w.heap.size + 1) (by simp)
  have f0 : w3.cell? ⟨w.heap.size, 0, none⟩ = some (.bool false) := (hc3 _ 0 (by omega)).trans (by simp [go_sem])
  have y0 : w3.frozen? ⟨w.heap.size, 0, none⟩ = false := (hf3 _ 0 (by omega)).trans (by simp [go_sem])
  have f1 : w3.cell? ⟨w.heap.size, 1, none⟩ = some (.slice none 0 0) := (hc3 _ 1 (by omega)).trans (by simp [go_sem])
  have y1 : w3.frozen? ⟨w.heap.size, 1, none⟩ = false := (hf3 _ 1 (by omega)).trans (by simp [go_sem])
  have f2 : w3.cell? ⟨w.heap.size, 2, none⟩ = some (.bool false) := (hc3 _ 2 (by omega)).trans (by simp [go_sem])
  have y2 : w3.frozen? ⟨w.heap.size, 2, none⟩ = false := (hf3 _ 2 (by omega)).trans (by simp [go_sem])
  have f3 : w3.cell? ⟨w.heap.size, 3, none⟩ = some (.slice none 0 0) := (hc3 _ 3 (by omega)).trans (by simp [go_sem])
  have y3 : w3.frozen? ⟨w.heap.size, 3, none⟩ = false := (hf3 _ 3 (by omega)).trans (by simp [go_sem])
  have f4 : w3.cell? ⟨w.heap.size, 4, none⟩ = some (.slice none 0 0) := (hc3 _ 4 (by omega)).trans (by simp [go_sem])
  have y4 : w3.frozen? ⟨w.heap.size, 4, none⟩ = false := (hf3 _ 4 (by omega)).trans (by simp [go_sem])
  clear hc3 hf3 hb3
  go_wp2_with fail
  refine (HDB.out _).mono ?_
  rintro e w4 ⟨v4, rfl, hq4, hb4⟩
  have HQ4 := Lib.hid hq4
  have HB4 := Lib.hid hb4
  clear hq4 hb4
  go_wp2_with fail
  refine (HI.out _).mono ?_
  rintro e w5 ⟨v5, rfl, hr5, hb5⟩
  obtain ⟨A5, n5, c5, rfl, hn, -⟩ := hr5.parts
  clear hn
  have HR5 := Lib.hid hr5
  have HB5 := Lib.hid hb5
  clear hr5 hb5
  generalize decide ((1 : Int) < 0) = p5 at *
  go_wp2_with fail
  refine (HM.out _ _ _ ((HQ4.out.below HB5.out).below (below_alloc _ _)) (IsQ.mk ci_low (IsRI.zero _ _ _) (HR5.out.below (below_alloc _ _)) (oneNat _))).mono ?_
  rintro e w6 ⟨v6, rfl, hq6, hb6⟩
  have HQ6 := Lib.hid hq6
  have B46 := Lib.hid (below_trans (below_trans HB4.out HB5.out) (below_trans (below_alloc _ _) hb6))
  clear hq6 hb6
  go_wp2_with fail
  refine (HAd.out _ _ _ (HQ3.out.below B46.out) HQ6.out).mono ?_
  rintro e w7 ⟨v7, rfl, hq7, hb7⟩
  have B37 := Lib.hid (below_trans B46.out hb7)
  clear hb7
  obtain ⟨A1, n1, c1, p1, A2, n2, c2, p2, A3, n3, c3, qa, qb, qd, rfl, -⟩ := hq7.parts
  have HQ7 := Lib.hid (show IsQ w7 (.agg #[.bool p1, .slice A1 n1 c1, .bool p2, .slice A2 n2 c2, .slice A3 n3 c3]) (cf a b) from hq7)
  clear hq7
  obtain ⟨hc7, hf7, hz7⟩ := bcells B37.out (w.heap.size + 1) (by omega)
  replace f0 := (hc7 _ 0 (by omega)).trans f0
  replace y0 := (hf7 _ 0 (by omega)).trans y0
  replace f1 := (hc7 _ 1 (by omega)).trans f1
  replace y1 := (hf7 _ 1 (by omega)).trans y1
  replace f2 := (hc7 _ 2 (by omega)).trans f2
  replace y2 := (hf7 _ 2 (by omega)).trans y2
  replace f3 := (hc7 _ 3 (by omega)).trans f3
  replace y3 := (hf7 _ 3 (by omega)).trans y3
  replace f4 := (hc7 _ 4 (by omega)).trans f4
  replace y4 := (hf7 _ 4 (by omega)).trans y4
  clear hc7 hf7
  have NB : NumBox w7 w.heap.size := .nilQ f0 f1 f2 f3 f4
  go_wp2
  refine bodyPost_ret (v := .tuple #[.agg #[.bool p1, .slice A1 n1 c1, .bool p2, .slice A2 n2 c2, .slice A3 n3 c3], .int .i64 0]) (by simp [results, Tryz.results22]; exact run_loadQe NB _ _ _ _ _ _) rfl ?_
  exact RetQE.box (below_trans B3.out B37.out) (Nat.le_refl _) NB HQ7.out _ _ _ _ _
end Go.Proofs.YtphlmmjlpbledaaGreatDoor
