/- Walk of the law NumNew. -/
import Derived.Test.YtlljeccfhmojnaaGreatDoorG33
import Derived.Test.YtlljeccfhmojnaaGreatDoorG40
set_option linter.unusedSimpArgs false
set_option linter.unusedVariables false
namespace Go.Proofs.YtlljeccfhmojnaaGreatDoor
open Go.RowKit
set_option maxRecDepth 100000

set_option maxHeartbeats 1000000 in
theorem numNew_walk (w : World) (a1 a2 a3 : Int) (hT : Tab w) (a10 : -9223372036854775808 ≤ a1) (a11 : a1 < 9223372036854775808) (a20 : -9223372036854775808 ≤ a2) (a21 : a2 < 9223372036854775808) (a30 : -9223372036854775808 ≤ a3) (a31 : a3 < 9223372036854775808) :
    Calls Tryz.prog 3 #[.int .i64 a1, .int .i64 a2, .int .i64 a3] w fun e w' => e = .returned (.bool true) ∧ Below w.heap.size w w' := by
  obtain ⟨x, k, hx, hN, hR⟩ : ∃ x k, Sz x 10 ∧ (∀ W, Below w.heap.size w W → Calls Tryz.prog 7 #[.int .i64 a1, .int .i64 a2, .int .i64 a3] W (RetNumE W x k)) ∧ ∀ W, Calls Tryz.prog 8 #[.int .i64 a1, .int .i64 a2, .int .i64 a3] W (RetQE W x k) := by
    by_cases h0 : a3 = 0
    · subst h0
      exact ⟨.zero, 3, (Sz.low Low.zero (by simp [wl_zero]) (by simp [wl_zero]) (by rw [wl_one]; omega)), fun W _ => new_zero a1 a2 W, fun W => rNew_zero a1 a2 W⟩
    · have s1 := wl_i64 a10 a11
      have s2 := wl_i64 a20 a21
      have s3 := wl_i64 a30 a31
      exact ⟨.ratio a1 a2 a3, 0, Sz.of (d := a3.natAbs) (by omega) (ratio_terms h0) (ratio_terms h0) (by split <;> (try rw [Int.natAbs_neg]) <;> omega) (by split <;> (try rw [Int.natAbs_neg]) <;> omega) (by omega),
        fun W hb => new_any a1 a2 a3 W a10 a11 a20 a21 a30 a31 h0 (hT.below hb), fun W => rNew_any a1 a2 a3 W a10 a11 a20 a21 a30 a31 h0⟩
  have HN := Lib.hid hN
  have HR := Lib.hid hR
  have HT := Lib.hid hT
  have HX := Lib.hid hx
  have HI := Lib.hid (fun W => int_any a1 W a10 a11)
  have HW := Lib.hid (fun W => rWhole_any a1 W a10 a11)
  have s1 := wl_i64 a10 a11
  have HXI := Lib.hid (show Sz (.int a1) 10 from Sz.int (by omega) (by omega))
  clear hN hR hT hx a10 a11 a20 a21 a30 a31 s1
  go_enter Tryz.func3, Tryz.ntmps3
  go_wp2_with fail
  refine (HN.out _ (Below.refl _ _)).mono ?_
  rintro e W2 ⟨v, rfl, hn2, hb2⟩
  obtain ⟨A1, n1, c1, p1, A2, n2, c2, p2, A3, n3, c3, a, b, d, rfl, -⟩ := hn2.parts
  have HN2 := Lib.hid hn2
  clear hn2
  go_wp2_with fail
  refine (HR.out _).mono ?_
  rintro e W3 ⟨v, rfl, hq3, hb3⟩
  obtain ⟨hc3, hf3, hz3⟩ := bcells hb3 (W2.heap.size + 1) (by simp)
  obtain ⟨A4, n4, c4, p4, A5, n5, c5, p5, A6, n6, c6, a', b', d', rfl, -⟩ := hq3.parts
  have HQ3 := Lib.hid hq3
  clear hq3
  have B3 : Below w.heap.size w W3 := below_trans (below_trans hb2 (below_alloc _ _)) hb3
  have C3 := below_trans (below_alloc W2 _) hb3
  go_upto_region 3 with fail
  obtain ⟨W4, hW4⟩ : ∃ W4 : World, W4 = W3.alloc (.cells #[.bool p4, .slice A4 n4 c4, .bool p5, .slice A5 n5 c5, .slice A6 n6 c6] 34) := ⟨_, rfl⟩
  rw [← hW4]
  have D4 : Below W3.heap.size W3 W4 := by rw [hW4]; exact below_alloc _ _
  have q4 := bcells D4 W3.heap.size (Nat.le_refl _)
  have b0 : W4.cell? ⟨W2.heap.size, 0, none⟩ = some (.slice A1 n1 c1) := (q4.1 _ 0 (by omega)).trans ((hc3 _ 0 (by omega)).trans (by simp [go_sem]))
  have b1 : W4.cell? ⟨W2.heap.size, 1, none⟩ = some (.bool p1) := (q4.1 _ 1 (by omega)).trans ((hc3 _ 1 (by omega)).trans (by simp [go_sem]))
  have b2 : W4.cell? ⟨W2.heap.size, 2, none⟩ = some (.slice A2 n2 c2) := (q4.1 _ 2 (by omega)).trans ((hc3 _ 2 (by omega)).trans (by simp [go_sem]))
  have b3 : W4.cell? ⟨W2.heap.size, 3, none⟩ = some (.bool p2) := (q4.1 _ 3 (by omega)).trans ((hc3 _ 3 (by omega)).trans (by simp [go_sem]))
  have b4 : W4.cell? ⟨W2.heap.size, 4, none⟩ = some (.slice A3 n3 c3) := (q4.1 _ 4 (by omega)).trans ((hc3 _ 4 (by omega)).trans (by simp [go_sem]))
  have e0 : W4.cell? ⟨W3.heap.size, 0, none⟩ = some (.bool p4) := by rw [hW4]; simp [go_sem]
  have e1 : W4.cell? ⟨W3.heap.size, 1, none⟩ = some (.slice A4 n4 c4) := by rw [hW4]; simp [go_sem]
  have e2 : W4.cell? ⟨W3.heap.size, 2, none⟩ = some (.bool p5) := by rw [hW4]; simp [go_sem]
  have e3 : W4.cell? ⟨W3.heap.size, 3, none⟩ = some (.slice A5 n5 c5) := by rw [hW4]; simp [go_sem]
  have e4 : W4.cell? ⟨W3.heap.size, 4, none⟩ = some (.slice A6 n6 c6) := by rw [hW4]; simp [go_sem]
  have B4 := below_trans B3 D4
  have HIs := Lib.hid (is_any _ _ x W4 ((HN2.out.below C3).below D4) (HQ3.out.below D4) (HT.out.below B4) 10 HX.out (by omega))
  clear hW4 q4 hc3 hf3 hz3 C3 D4 B3 hb2 hb3
  go_wp2_with fail
  refine HIs.out.mono ?_
  rintro e W5 ⟨rfl, hb5⟩
  have B5 := below_trans B4 hb5
  clear b0 b1 b2 b3 b4 e0 e1 e2 e3 e4
  go_wp2_with fail
  refine (HI.out _).mono ?_
  rintro e W6 ⟨v6, rfl, hn6, hb6⟩
  go_wp2_with fail
  refine (HW.out _).mono ?_
  rintro e W7 ⟨v7, rfl, hq7, hb7⟩
  have B7 := below_trans (below_trans B5 hb6) hb7
  go_wp2_with fail
  refine (is_any _ _ _ W7 (hn6.below hb7) hq7 (HT.out.below B7) 10 HXI.out (by omega)).mono ?_
  rintro e W8 ⟨rfl, hb8⟩
  have B8 := below_trans B7 hb8
  go_wp2_with fail
  refine (awake_any W8 (HT.out.below B8)).mono ?_
  rintro e W9 ⟨rfl, hb9⟩
  go_wp2
  go_ret
  exact ⟨rfl, below_trans B8 hb9⟩
end Go.Proofs.YtlljeccfhmojnaaGreatDoor
