
/- Walk of the law NumFloats. -/
import Derived.Test.YtphlmmjlpbledaaGreatDoorK28
import Derived.Test.YtphlmmjlpbledaaGreatDoorK35
import Derived.Test.YtphlmmjlpbledaaGreatDoorK37
import Derived.Test.YtphlmmjlpbledaaGreatDoorFx
import Derived.Test.YtphlmmjlpbledaaGreatDoorFy
import Derived.Test.YtphlmmjlpbledaaGreatDoorFj
import Derived.Test.YtphlmmjlpbledaaGreatDoorFj
import Derived.Test.YtphlmmjlpbledaaGreatDoorFn
import Derived.Test.YtphlmmjlpbledaaGreatDoorFh
set_option linter.unusedSimpArgs false
set_option linter.unusedVariables false
namespace Go.Proofs.YtphlmmjlpbledaaGreatDoor
open Go.RowKit
set_option maxRecDepth 100000

theorem signbit_any (b : Nat) (w : World) (hb : b < 18446744073709551616) :
    Calls Tryz.prog 24 #[.float .f64 b] w fun e w' => e = .returned (.bool (fneg b)) ∧ w = w' := by
  have hfb := floatbits_run
  have h1 : decide (wrap64 (b : Int) < 0) = fneg b := by
    unfold fneg wrap64
    rw [decide_eq_decide]
    omega
  generalize fneg b = o at *
  go_enter Tryz.func24, Tryz.ntmps24
  go_wp2
  go_ret
  exact ⟨rfl, rfl⟩
theorem nearF_any (v : Value) (a b : Nat) (w : World) (ha : a < 18446744073709551616) (hb : b < 18446744073709551616) (xa : fx a ≠ 2047) (xb : fx b ≠ 2047) (h : IsNum w v (cf a b)) :
    Calls Tryz.prog 23 #[v] w fun e w' => e = .returned (.complex .f64 (fz a) (fz b)) ∧ Below w.heap.size w w' := by
  obtain ⟨p, q, d, hl⟩ := Low.ex (cf a b)
  obtain ⟨hd, h1, h2⟩ := cf_isF hl
  obtain ⟨s1, s2, s3⟩ := cf_sz a b _ _ _ hl
  have := near_any v (cf a b) p q d w h hl (by omega) (by omega) (by omega)
  rw [nearB_fz ha xa hd h1, nearB_fz hb xb hd h2] at this
  exact this
/- WALK -/
set_option maxHeartbeats 1000000 in
theorem numFloats_bad (w : World) (re im : Nat) (hr : re < 18446744073709551616) (hi : im < 18446744073709551616) (hx : fx re = 2047 ∨ fx im = 2047) (hT : Tab w) (hT6 : Tab64 w) :
    Calls Tryz.prog 5 #[.int .u64 (re : Int), .int .u64 (im : Int)] w fun e w' => e = .returned (.bool true) ∧ Below w.heap.size w w' := by
  have hfr := frombits_run
  have HT := Lib.hid hT
  have HN := Lib.hid (show ∀ W, Below w.heap.size w W → Calls Tryz.prog 21 #[.complex .f64 re im] W (RetNumE W .zero 1) from fun W hb => complex_bad re im W hr hi (hT6.below hb) hx)
  have HR := Lib.hid (fun W => rcomplex_bad re im W hr hi hx)
  have HX := Lib.hid (Sz.low (n := 67) Low.zero (by simp [wl_zero]) (by simp [wl_zero]) (by rw [wl_one]; omega))
  clear hT hT6 hr hi hx
  go_enter Tryz.func5, Tryz.ntmps5
  go_wp2_with fail
  refine (HN.out _ (Below.refl _ _)).mono ?_
  rintro e W2 ⟨v, rfl, hn2, hb2⟩
  obtain ⟨A1, n1, c1, p1, A2, n2, c2, p2, A3, n3, c3, a, b, d, rfl, -⟩ := hn2.parts
  have HN2 := Lib.hid hn2
  clear hn2
  go_wp2_with fail
  refine (HR.out _).mono ?_
  rintro e W3 ⟨v, rfl, hq3, hb3⟩
  obtain ⟨hc3, hf3, hz3⟩ := bcells hb3 (W2.heap.size + 1) (by simp)
  obtain ⟨A4, n4, c4, p4, A5, n5, c5, p5, A6, n6, c6, a', b', d', rfl, -⟩ := hq3.parts
  have HQ3 := Lib.hid hq3
  clear hq3
  have B3 : Below w.heap.size w W3 := below_trans (below_trans hb2 (below_alloc _ _)) hb3
  have C3 := below_trans (below_alloc W2 _) hb3
  go_upto_region 4 with fail
  obtain ⟨W4, hW4⟩ : ∃ W4 : World, W4 = W3.alloc (.cells #[.bool p4, .slice A4 n4 c4, .bool p5, .slice A5 n5 c5, .slice A6 n6 c6] 35) := ⟨_, rfl⟩
  rw [← hW4]
  have D4 : Below W3.heap.size W3 W4 := by rw [hW4]; exact below_alloc _ _
  have q4 := bcells D4 W3.heap.size (Nat.le_refl _)
  have b0 : W4.cell? ⟨W2.heap.size, 0, none⟩ = some (.slice A1 n1 c1) := (q4.1 _ 0 (by omega)).trans ((hc3 _ 0 (by omega)).trans (by simp [go_sem]))
  have b1 : W4.cell? ⟨W2.heap.size, 1, none⟩ = some (.bool p1) := (q4.1 _ 1 (by omega)).trans ((hc3 _ 1 (by omega)).trans (by simp [go_sem]))
  have b2 : W4.cell? ⟨W2.heap.size, 2, none⟩ = some (.slice A2 n2 c2) := (q4.1 _ 2 (by omega)).trans ((hc3 _ 2 (by omega)).trans (by simp [go_sem]))
  have b3 : W4.cell? ⟨W2.heap.size, 3, none⟩ = some (.bool p2) := (q4.1 _ 3 (by omega)).trans ((hc3 _ 3 (by omega)).trans (by simp [go_sem]))
  have b4 : W4.cell? ⟨W2.heap.size, 4, none⟩ = some (.slice A3 n3 c3) := (q4.1 _ 4 (by omega)).trans ((hc3 _ 4 (by omega)).trans (by simp [go_sem]))
  have e0 : W4.cell? ⟨W3.heap.size, 0, none⟩ = some (.bool p4) := by rw [hW4]; simp [go_sem]
  have e1 : W4.cell? ⟨W3.heap.size, 1, none⟩ = some (.slice A4 n4 c4) := by rw [hW4]; simp [go_sem]
  have e2 : W4.cell? ⟨W3.heap.size, 2, none⟩ = some (.bool p5) := by rw [hW4]; simp [go_sem]
  have e3 : W4.cell? ⟨W3.heap.size, 3, none⟩ = some (.slice A5 n5 c5) := by rw [hW4]; simp [go_sem]
  have e4 : W4.cell? ⟨W3.heap.size, 4, none⟩ = some (.slice A6 n6 c6) := by rw [hW4]; simp [go_sem]
  have z42 : W2.heap.size < W4.heap.size := by rw [hW4]; simp; omega
  have B4 := below_trans B3 D4
  have HIs := Lib.hid (is_any _ _ .zero W4 ((HN2.out.below C3).below D4) (HQ3.out.below D4) (HT.out.below B4) 67 HX.out (by omega))
  clear hW4 q4 hc3 hf3 hz3 C3 D4 B3 hb2 hb3
  go_wp2_with fail
  refine HIs.out.mono ?_
  rintro e W5 ⟨rfl, hb5⟩
  have B5 := below_trans B4 hb5
  clear b0 b1 b2 b3 b4 e0 e1 e2 e3 e4 z42
  go_wp2_with fail
  refine (awake_any W5 (HT.out.below B5)).mono ?_
  rintro e W9 ⟨rfl, hb9⟩
  go_wp2
  go_ret
  exact ⟨rfl, below_trans B5 hb9⟩
set_option maxHeartbeats 1000000 in
theorem numFloats_good (w : World) (re im : Nat) (hr : re < 18446744073709551616) (hi : im < 18446744073709551616) (xr : fx re ≠ 2047) (xi : fx im ≠ 2047) (hT : Tab w) (hT6 : Tab64 w) :
    Calls Tryz.prog 5 #[.int .u64 (re : Int), .int .u64 (im : Int)] w fun e w' => e = .returned (.bool true) ∧ Below w.heap.size w w' := by
  have hfr := frombits_run
  have HT := Lib.hid hT
  have HN := Lib.hid (show ∀ W, Below w.heap.size w W → Calls Tryz.prog 21 #[.complex .f64 re im] W (RetNumE W (cf re im) 0) from fun W hb => complex_good re im W hr hi (hT6.below hb) xr xi)
  have HR := Lib.hid (fun W => rcomplex_good re im W hr hi xr xi)
  have HX := Lib.hid (cf_sz re im)
  have HNr := Lib.hid (fun W v (h : IsNum W v (cf re im)) => nearF_any v re im W hr hi xr xi h)
  have HSr := Lib.hid (fun W => signbit_any (fz re) W (fz_lt hr))
  have HSi := Lib.hid (fun W => signbit_any (fz im) W (fz_lt hi))
  have q1 : (FloatKind.f64.format.order (fz re) re == some Ordering.eq) = true := fz_same hr xr
  have q2 : (FloatKind.f64.format.order (fz im) im == some Ordering.eq) = true := fz_same hi xi
  have g1 : (FloatKind.f64.format.order re 0 == some Ordering.gt || FloatKind.f64.format.order re 0 == some Ordering.eq) = !fneg (fz re) := (order_ge hr xr).trans (fz_sign re).symm
  have g2 : (FloatKind.f64.format.order im 0 == some Ordering.gt || FloatKind.f64.format.order im 0 == some Ordering.eq) = !fneg (fz im) := (order_ge hi xi).trans (fz_sign im).symm
  generalize fneg (fz re) = sr at *
  generalize fneg (fz im) = si at *
  generalize fz re = zr at *
  generalize fz im = zi at *
  clear hT hT6 hr hi xr xi
  go_enter Tryz.func5, Tryz.ntmps5
  go_wp2_with fail
  refine (HN.out _ (Below.refl _ _)).mono ?_
  rintro e W2 ⟨v, rfl, hn2, hb2⟩
  obtain ⟨A1, n1, c1, p1, A2, n2, c2, p2, A3, n3, c3, a, b, d, rfl, -⟩ := hn2.parts
  have HN2 := Lib.hid hn2
  clear hn2
  go_wp2_with fail
  refine (HR.out _).mono ?_
  rintro e W3 ⟨v, rfl, hq3, hb3⟩
  obtain ⟨hc3, hf3, hz3⟩ := bcells hb3 (W2.heap.size + 1) (by simp)
  obtain ⟨A4, n4, c4, p4, A5, n5, c5, p5, A6, n6, c6, a', b', d', rfl, -⟩ := hq3.parts
  have HQ3 := Lib.hid hq3
  clear hq3
  have B3 : Below w.heap.size w W3 := below_trans (below_trans hb2 (below_alloc _ _)) hb3
  have C3 := below_trans (below_alloc W2 _) hb3
  go_upto_region 4 with fail
  obtain ⟨W4, hW4⟩ : ∃ W4 : World, W4 = W3.alloc (.cells #[.bool p4, .slice A4 n4 c4, .bool p5, .slice A5 n5 c5, .slice A6 n6 c6] 35) := ⟨_, rfl⟩
  rw [← hW4]
  have D4 : Below W3.heap.size W3 W4 := by rw [hW4]; exact below_alloc _ _
  have q4 := bcells D4 W3.heap.size (Nat.le_refl _)
  have b0 : W4.cell? ⟨W2.heap.size, 0, none⟩ = some (.slice A1 n1 c1) := (q4.1 _ 0 (by omega)).trans ((hc3 _ 0 (by omega)).trans (by simp [go_sem]))
  have b1 : W4.cell? ⟨W2.heap.size, 1, none⟩ = some (.bool p1) := (q4.1 _ 1 (by omega)).trans ((hc3 _ 1 (by omega)).trans (by simp [go_sem]))
  have b2 : W4.cell? ⟨W2.heap.size, 2, none⟩ = some (.slice A2 n2 c2) := (q4.1 _ 2 (by omega)).trans ((hc3 _ 2 (by omega)).trans (by simp [go_sem]))
  have b3 : W4.cell? ⟨W2.heap.size, 3, none⟩ = some (.bool p2) := (q4.1 _ 3 (by omega)).trans ((hc3 _ 3 (by omega)).trans (by simp [go_sem]))
  have b4 : W4.cell? ⟨W2.heap.size, 4, none⟩ = some (.slice A3 n3 c3) := (q4.1 _ 4 (by omega)).trans ((hc3 _ 4 (by omega)).trans (by simp [go_sem]))
  have e0 : W4.cell? ⟨W3.heap.size, 0, none⟩ = some (.bool p4) := by rw [hW4]; simp [go_sem]
  have e1 : W4.cell? ⟨W3.heap.size, 1, none⟩ = some (.slice A4 n4 c4) := by rw [hW4]; simp [go_sem]
  have e2 : W4.cell? ⟨W3.heap.size, 2, none⟩ = some (.bool p5) := by rw [hW4]; simp [go_sem]
  have e3 : W4.cell? ⟨W3.heap.size, 3, none⟩ = some (.slice A5 n5 c5) := by rw [hW4]; simp [go_sem]
  have e4 : W4.cell? ⟨W3.heap.size, 4, none⟩ = some (.slice A6 n6 c6) := by rw [hW4]; simp [go_sem]
  have z42 : W2.heap.size < W4.heap.size := by rw [hW4]; simp; omega
  have B4 := below_trans B3 D4
  have HIs := Lib.hid (is_any _ _ (cf re im) W4 ((HN2.out.below C3).below D4) (HQ3.out.below D4) (HT.out.below B4) 67 HX.out (by omega))
  have HN4 := Lib.hid ((HN2.out.below C3).below D4)
  clear hW4 q4 hc3 hf3 hz3 C3 D4 B3 hb2 hb3
  go_wp2_with fail
  refine HIs.out.mono ?_
  rintro e W5 ⟨rfl, hb5⟩
  have B5 := below_trans B4 hb5
  have q5 := bcells hb5 (W2.heap.size + 1) (by omega)
  replace b0 := (q5.1 _ 0 (by omega)).trans b0
  replace b1 := (q5.1 _ 1 (by omega)).trans b1
  replace b2 := (q5.1 _ 2 (by omega)).trans b2
  replace b3 := (q5.1 _ 3 (by omega)).trans b3
  replace b4 := (q5.1 _ 4 (by omega)).trans b4
  have HN5 := Lib.hid (HN4.out.below hb5)
  clear e0 e1 e2 e3 e4 z42 q5 hb5
  go_wp2_with fail
  refine (HNr.out _ _ HN5.out).mono ?_
  rintro e W6 ⟨rfl, hb6⟩
  have B6 := Lib.hid (below_trans B5 hb6)
  clear b0 b1 b2 b3 b4 hb6 B5 B4
  go_wp2_with fail
  refine (HSr.out _).mono ?_
  rintro e W7 ⟨rfl, rfl⟩
  go_wp2_with fail
  refine (HSi.out _).mono ?_
  rintro e W7 ⟨rfl, rfl⟩
  go_wp2_with fail
  refine (awake_any W6 (HT.out.below B6.out)).mono ?_
  rintro e W9 ⟨rfl, hb9⟩
  go_wp2
  go_ret
  exact ⟨rfl, below_trans B6.out hb9⟩
theorem numFloats_walk (w : World) (re im : Nat) (hr : re < 18446744073709551616) (hi : im < 18446744073709551616) (hT : Tab w) (hT6 : Tab64 w) :
    Calls Tryz.prog 5 #[.int .u64 (re : Int), .int .u64 (im : Int)] w fun e w' => e = .returned (.bool true) ∧ Below w.heap.size w w' := by
  by_cases xr : fx re = 2047
  · exact numFloats_bad w re im hr hi (.inl xr) hT hT6
  by_cases xi : fx im = 2047
  · exact numFloats_bad w re im hr hi (.inr xi) hT hT6
  exact numFloats_good w re im hr hi xr xi hT hT6
end Go.Proofs.YtphlmmjlpbledaaGreatDoor
