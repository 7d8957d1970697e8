/- The reference's Complex. -/
import Derived.Test.YtphlmmjlpbledaaGreatDoorK37
import Derived.Test.YtphlmmjlpbledaaGreatDoorK36
import Derived.Test.YtphlmmjlpbledaaGreatDoorFQ2
import Derived.Test.YtphlmmjlpbledaaGreatDoorFQ1
import Derived.Test.YtphlmmjlpbledaaGreatDoorK30
import Derived.Test.YtphlmmjlpbledaaGreatDoorK33
set_option linter.unusedSimpArgs false
set_option linter.unusedVariables false
namespace Go.Proofs.YtphlmmjlpbledaaGreatDoor
open Go.RowKit
set_option maxRecDepth 100000
theorem rIntNeg_any (v : Value) (z : Int) (w : World) (h : IsRI w v z) :
    Calls Tryz.prog 190 #[v] w (RetRI w (-z)) := by
  obtain ⟨A, n, c, rfl, hn, hs⟩ := h.parts
  have HS := Lib.hid (fun W (hb : Below w.heap.size w W) => rsigned_any (!decide (z < 0)) _ z.natAbs (-z) W (hs.below hb) (by rw [Int.natAbs_neg]) (by
    rw [Bool.eq_iff_iff]
    simp
    omega))
  clear hn hs h
  generalize decide (z < 0) = q at *
  go_enter Tryz.func190, Tryz.ntmps190
  go_wp2_with fail
  refine (HS.out _ (by (repeat (first | exact Below.refl _ _ | assumption | with_reducible refine Below.drew ?_ | with_reducible refine below_trans ?_ (below_alloc _ _) | with_reducible refine below_trans ?_ (below_drewN _ _) | with_reducible refine Below.setCell ?_ (by simp <;> omega) _ | refine below_trans ?_ (by assumption))))).mono ?_
  rintro e W2 ⟨r, rfl, hr, hb2⟩
  obtain ⟨hc2, hf2, hz2⟩ := bcells hb2 (w.heap.size + 2) (by simp)
  obtain ⟨A2, n2, c2, rfl, hn2, hs2⟩ := hr.parts
  clear hn2
  generalize decide (-z < 0) = q2 at *
  go_wp2
  have IB : IntBox W2 (w.heap.size + 1) := IntBox.of hc2 (by omega) (IntBox.mk' (A := none) (n := 0) (c := 0) (p := false) (by simp [go_sem]) (by simp [go_sem]))
  refine bodyPost_ret (v := .agg #[.bool q2, .slice A2 n2 c2]) (by simp [results, Tryz.results190]; exact run_loadRI IB _ _) rfl ?_
  exact RetRI.box (by (repeat (first | exact Below.refl _ _ | assumption | with_reducible refine Below.drew ?_ | with_reducible refine below_trans ?_ (below_alloc _ _) | with_reducible refine below_trans ?_ (below_drewN _ _) | with_reducible refine Below.setCell ?_ (by simp <;> omega) _ | refine below_trans ?_ (by assumption)))) (by omega) IB hr _ _
set_option maxHeartbeats 1000000 in
theorem rIntSub_any (v u : Value) (a b : Int) (w : World) (h : IsRI w v a) (h' : IsRI w u b) (sa : wl a.natAbs < 549755813888) (sb : wl b.natAbs < 549755813888) :
    Calls Tryz.prog 149 #[v, u] w (RetRI w (a - b)) := by
  obtain ⟨A1, n1, c1, rfl, hn1, hs1⟩ := h.parts
  obtain ⟨A2, n2, c2, rfl, hn2, hs2⟩ := h'.parts
  have HA := Lib.hid (fun W (hb : Below w.heap.size w W) => rIntNeg_any _ b W (h'.below hb))
  have HS := Lib.hid (fun v W (hb : Below w.heap.size w W) (hv : IsRI W v (-b)) => rIntAdd_any _ v a (-b) W (h.below hb) hv sa (by rw [Int.natAbs_neg]; exact sb))
  rw [show a + -b = a - b by omega] at HS
  clear h h' hs1 hs2 hn1 hn2 sa sb
  have hne1 : ¬ (w.heap.size + 1 + 1 = w.heap.size) := by omega
  have hne2 : ¬ (w.heap.size = w.heap.size + 1 + 1) := by omega
  generalize decide (a < 0) = p1 at *
  generalize decide (b < 0) = p2 at *
  go_enter Tryz.func149, Tryz.ntmps149
  go_wp2_with fail
  go_region_held3 (fun w' => w'.cell? ⟨w.heap.size, 0, none⟩ = some (.bool p1) ∧ w'.cell? ⟨w.heap.size, 1, none⟩ = some (.slice A1 n1 c1) ∧ w'.cell? ⟨w.heap.size + 1, 0, none⟩ = some (.bool p2) ∧ w'.cell? ⟨w.heap.size + 1, 1, none⟩ = some (.slice A2 n2 c2)) (go_keep) (first | (go_at_call 190; ((with_reducible refine (HA.out _ ?_).mono ?_); (exact (by (repeat (first | exact Below.refl _ _ | assumption | with_reducible refine Below.drew ?_ | with_reducible refine below_trans ?_ (below_alloc _ _) | with_reducible refine below_trans ?_ (below_drewN _ _) | with_reducible refine Below.setCell ?_ (by simp <;> omega) _ | refine below_trans ?_ (by assumption))))); (rintro e W6 ⟨r6, rfl, hr6, hb6⟩; obtain ⟨A6, n6, c6, rfl, hn6, -⟩ := hr6.parts; clear hn6; generalize hq6 : decide (-b < 0) = q6 at *; clear hq6; obtain ⟨hc6, hf6, hz6⟩ := bcells hb6 (w.heap.size + 3) (by simp <;> omega)))) | (go_at_call 125; ((with_reducible refine (HS.out _ _ ?_ (hr6.below (by (repeat (first | exact Below.refl _ _ | assumption | with_reducible refine Below.drew ?_ | with_reducible refine below_trans ?_ (below_alloc _ _) | with_reducible refine below_trans ?_ (below_drewN _ _) | with_reducible refine Below.setCell ?_ (by simp <;> omega) _ | refine below_trans ?_ (by assumption)))))).mono ?_); (exact (by (repeat (first | exact Below.refl _ _ | assumption | with_reducible refine Below.drew ?_ | with_reducible refine below_trans ?_ (below_alloc _ _) | with_reducible refine below_trans ?_ (below_drewN _ _) | with_reducible refine Below.setCell ?_ (by simp <;> omega) _ | refine below_trans ?_ (by assumption))))); (rintro e W7 ⟨r7, rfl, hr7, hb7⟩; obtain ⟨A7, n7, c7, rfl, hn7, -⟩ := hr7.parts; clear hn7; generalize hq7 : decide (a - b < 0) = q7 at *; clear hq7; have kb7 : Below W6.heap.size W6 W7 := (by (repeat (first | exact Below.refl _ _ | assumption | with_reducible refine Below.drew ?_ | with_reducible refine below_trans ?_ (below_alloc _ _) | with_reducible refine below_trans ?_ (below_drewN _ _) | with_reducible refine Below.setCell ?_ (by simp <;> omega) _ | refine below_trans ?_ (by assumption)))); clear hb7; obtain ⟨hc7, hf7, hz7⟩ := bcells kb7 (w.heap.size + 3) (by omega)))))
  go_wp2
  have B6 : Below w.heap.size w W6 := (by (repeat (first | exact Below.refl _ _ | assumption | with_reducible refine Below.drew ?_ | with_reducible refine below_trans ?_ (below_alloc _ _) | with_reducible refine below_trans ?_ (below_drewN _ _) | with_reducible refine Below.setCell ?_ (by simp <;> omega) _ | refine below_trans ?_ (by assumption))))
  have B7 := below_trans B6 kb7
  have IB : IntBox W7 (w.heap.size + 2) := IntBox.of hc7 (by omega) (IntBox.of hc6 (g := w.heap.size + 2) (by omega) (IntBox.mk' (A := none) (n := 0) (c := 0) (p := false) (by simp [go_sem]) (by simp [go_sem])))
  refine bodyPost_ret (v := .agg #[.bool q7, .slice A7 n7 c7]) (by simp [results, Tryz.results149]; exact run_loadRI IB _ _) rfl ?_
  exact RetRI.box B7 (by omega) IB hr7 _ _

set_option maxHeartbeats 2000000 in
theorem rMul_any (v u : Value) (x y : Cx) (w : World) (h : IsQ w v x) (h' : IsQ w u y) (m n : Nat) (hx : Sz x m) (hy : Sz y n) (hm : m + n + 1 < 549755813888) :
    Calls Tryz.prog 84 #[v, u] w (RetQ w (x.mul y)) := by
  obtain ⟨A1, n1, c1, p1, A1b, n1b, c1b, p1b, A1c, n1c, c1c, a1, b1, d1, rfl, hl1, hr1, hi1, hs1, hn1, hm1, hd1, hp1, hq1, -, -⟩ := h.parts
  obtain ⟨A2, n2, c2, p2, A2b, n2b, c2b, p2b, A2c, n2c, c2c, a2, b2, d2, rfl, hl2, hr2, hi2, hs2, hn2, hm2, hd2, hp2, hq2, -, -⟩ := h'.parts
  obtain ⟨s1, s3, s9⟩ := hx _ _ _ hl1
  obtain ⟨s2, s4, s10⟩ := hy _ _ _ hl2
  have e1 := wl_imul a1 a2
  have e2 := wl_imul b1 b2
  have e3 := wl_imul a1 b2
  have e4 := wl_imul b1 a2
  have e5 := wl_isub (a1 * a2) (b1 * b2)
  have e6 := wl_iadd (a1 * b2) (b1 * a2)
  have e7 : wl (d1 * d2) ≤ wl d1 + wl d2 := wl_mul _ _
  have g1 : wl a1.natAbs < 549755813888 := by omega
  have g2 : wl a2.natAbs < 549755813888 := by omega
  have g3 : wl b1.natAbs < 549755813888 := by omega
  have g4 : wl b2.natAbs < 549755813888 := by omega
  have g5 : wl (a1 * a2).natAbs < 549755813888 := by omega
  have g6 : wl (b1 * b2).natAbs < 549755813888 := by omega
  have g7 : wl (a1 * b2).natAbs < 549755813888 := by omega
  have g8 : wl (b1 * a2).natAbs < 549755813888 := by omega
  have g9 : wl d1 < 549755813888 := by omega
  have g10 : wl d2 < 549755813888 := by omega
  have ht := mul_terms hl1 hl2
  have HM := Lib.hid (fun v1 v2 v3 W (q1 : IsRI W v1 (a1 * a2 - b1 * b2)) (q2 : IsRI W v2 (a1 * b2 + b1 * a2)) (q3 : IsNat W v3 (d1 * d2)) => rMake_any v1 v2 v3 _ _ _ (x.mul y) W q1 q2 q3 (Nat.mul_pos hl1.pos hl2.pos) ht.1 ht.2 (by omega) (by omega) (by omega))
  have HR1 := Lib.hid hr1
  have HI1 := Lib.hid hi1
  have HD1 := Lib.hid hs1
  have HR2 := Lib.hid hr2
  have HI2 := Lib.hid hi2
  have HD2 := Lib.hid hs2
  clear hr1 hi1 hs1 hr2 hi2 hs2 hn1 hm1 hd1 hp1 hq1 hn2 hm2 hd2 hp2 hq2 e1 e2 e3 e4 e5 e6 e7 ht h h' hx hy hm s1 s2 s3 s4 s9 s10 hl1 hl2
  go_enter Tryz.func84, Tryz.ntmps84
  go_upto_region 1 with fail
  obtain ⟨W1, hW1⟩ : ∃ W1 : World, W1 = ((w.alloc (.cells #[.bool p1, .slice A1 n1 c1, .bool p1b, .slice A1b n1b c1b, .slice A1c n1c c1c] 35)).alloc (.cells #[.bool p2, .slice A2 n2 c2, .bool p2b, .slice A2b n2b c2b, .slice A2c n2c c2c] 35)).alloc (.cells #[.bool false, .slice none 0 0, .bool false, .slice none 0 0, .slice none 0 0] 35) := ⟨_, rfl⟩
  rw [← hW1]
  have B1 : Below w.heap.size w W1 := by rw [hW1]; exact (by (repeat (first | exact Below.refl _ _ | assumption | with_reducible refine Below.drew ?_ | with_reducible refine below_trans ?_ (below_alloc _ _) | with_reducible refine below_trans ?_ (below_drewN _ _) | with_reducible refine Below.setCell ?_ (by simp <;> omega) _ | refine below_trans ?_ (by assumption))))
  have X := boxes3 w (.cells #[.bool p1, .slice A1 n1 c1, .bool p1b, .slice A1b n1b c1b, .slice A1c n1c c1c] 35) (.cells #[.bool p2, .slice A2 n2 c2, .bool p2b, .slice A2b n2b c2b, .slice A2c n2c c2c] 35) (.cells #[.bool false, .slice none 0 0, .bool false, .slice none 0 0, .slice none 0 0] 35)
  rw [← hW1] at X
  obtain ⟨X0, z0, X1, z1, X2, z2⟩ := X
  clear hW1
  refine region_last [.val (kIs (.pointer (some ⟨w.heap.size, 0, none⟩))), .val (kIs (.agg #[.bool p1, .slice A1 n1 c1])), .val (kIs (.pointer (some ⟨w.heap.size + 1, 0, none⟩))), .val (kIs (.agg #[.bool p2, .slice A2 n2 c2])), .val (kRI (a1 * a2)), .val (kIs (.pointer (some ⟨w.heap.size, 2, none⟩))), .val (kIs (.agg #[.bool p1b, .slice A1b n1b c1b])), .val (kIs (.pointer (some ⟨w.heap.size + 1, 2, none⟩))), .val (kIs (.agg #[.bool p2b, .slice A2b n2b c2b])), .val (kRI (b1 * b2)), .val (kRI (a1 * a2 - b1 * b2)), .val (kIs (.pointer (some ⟨w.heap.size, 0, none⟩))), .val (kIs (.agg #[.bool p1, .slice A1 n1 c1])), .val (kIs (.pointer (some ⟨w.heap.size + 1, 2, none⟩))), .val (kIs (.agg #[.bool p2b, .slice A2b n2b c2b])), .val (kRI (a1 * b2)), .val (kIs (.pointer (some ⟨w.heap.size, 2, none⟩))), .val (kIs (.agg #[.bool p1b, .slice A1b n1b c1b])), .val (kIs (.pointer (some ⟨w.heap.size + 1, 0, none⟩))), .val (kIs (.agg #[.bool p2, .slice A2 n2 c2])), .val (kRI (b1 * a2)), .val (kRI (a1 * b2 + b1 * a2)), .val (kIs (.pointer (some ⟨w.heap.size, 4, none⟩))), .val (kIs (.slice A1c n1c c1c)), .val (kIs (.pointer (some ⟨w.heap.size + 1, 4, none⟩))), .val (kIs (.slice A2c n2c c2c)), .val (kNat (d1 * d2)), .val (kQ (x.mul y))]
    (by kernel_rfl) (by kernel_rfl) (by kernel_rfl) (by kernel_rfl) (by kernel_rfl) ⟨Stab.b (stab_is _), Stab.b (stab_is _), Stab.b (stab_is _), Stab.b (stab_is _), stabB_ri _, Stab.b (stab_is _), Stab.b (stab_is _), Stab.b (stab_is _), Stab.b (stab_is _), stabB_ri _, stabB_ri _, Stab.b (stab_is _), Stab.b (stab_is _), Stab.b (stab_is _), Stab.b (stab_is _), stabB_ri _, Stab.b (stab_is _), Stab.b (stab_is _), Stab.b (stab_is _), Stab.b (stab_is _), stabB_ri _, stabB_ri _, Stab.b (stab_is _), Stab.b (stab_is _), Stab.b (stab_is _), Stab.b (stab_is _), stabB_nat _, stabB_q _, trivial⟩ (by simp) (ol := _) rfl (by kernel_rfl) ⟨?_, ?_, ?_, ?_, ?_, ?_, ?_, ?_, ?_, ?_, ?_, ?_, ?_, ?_, ?_, ?_, ?_, ?_, ?_, ?_, ?_, ?_, ?_, ?_, ?_, ?_, ?_, ?_, trivial⟩ ?_
  · intro ts W hb hB hp; intro K hK; simp only [fillT, Nat.zero_add, Nat.reduceAdd, List.setIfInBounds_toArray, List.set_cons_zero, List.set_cons_succ] at hK ⊢; have HK := Lib.hid hK; clear hK hp; refine ⟨?_⟩; go_simp; exact HK.out _ _ rfl (Below.refl _ _)
  · intro ts W hb hB hp; have h0 : ts 0 = _ := hp 0 (by kernel_rfl); intro K hK; simp only [fillT, Nat.zero_add, Nat.reduceAdd, List.setIfInBounds_toArray, List.set_cons_zero, List.set_cons_succ, h0] at hK ⊢; have HK := Lib.hid hK; clear hK hp; obtain ⟨f0, f1, f2, f3, f4, -, -, -, -, -⟩ := bx5 ((hb.block _ z0).trans X0); refine ⟨?_⟩; go_simp; exact HK.out _ _ rfl (Below.refl _ _)
  · intro ts W hb hB hp; intro K hK; simp only [fillT, Nat.zero_add, Nat.reduceAdd, List.setIfInBounds_toArray, List.set_cons_zero, List.set_cons_succ] at hK ⊢; have HK := Lib.hid hK; clear hK hp; refine ⟨?_⟩; go_simp; exact HK.out _ _ rfl (Below.refl _ _)
  · intro ts W hb hB hp; have h2 : ts 2 = _ := hp 2 (by kernel_rfl); intro K hK; simp only [fillT, Nat.zero_add, Nat.reduceAdd, List.setIfInBounds_toArray, List.set_cons_zero, List.set_cons_succ, h2] at hK ⊢; have HK := Lib.hid hK; clear hK hp; obtain ⟨f0, f1, f2, f3, f4, -, -, -, -, -⟩ := bx5 ((hb.block _ z1).trans X1); refine ⟨?_⟩; go_simp; exact HK.out _ _ rfl (Below.refl _ _)
  · intro ts W hb hB hp; have h1 : ts 1 = _ := hp 1 (by kernel_rfl); have h3 : ts 3 = _ := hp 3 (by kernel_rfl); intro K hK; simp only [fillT, Nat.zero_add, Nat.reduceAdd, List.setIfInBounds_toArray, List.set_cons_zero, List.set_cons_succ, h1, h3] at hK ⊢; have HK := Lib.hid hK; clear hK hp; refine ⟨?_⟩; go_simp; refine (rIntMul_any _ _ _ _ W (HR1.out.below (below_trans B1 hb)) (HR2.out.below (below_trans B1 hb)) g1 g2).mono ?_; rintro e W9 ⟨r9, rfl, hr9, hb9⟩; exact HK.out _ _ hr9 hb9
  · intro ts W hb hB hp; intro K hK; simp only [fillT, Nat.zero_add, Nat.reduceAdd, List.setIfInBounds_toArray, List.set_cons_zero, List.set_cons_succ] at hK ⊢; have HK := Lib.hid hK; clear hK hp; refine ⟨?_⟩; go_simp; exact HK.out _ _ rfl (Below.refl _ _)
  · intro ts W hb hB hp; have h5 : ts 5 = _ := hp 5 (by kernel_rfl); intro K hK; simp only [fillT, Nat.zero_add, Nat.reduceAdd, List.setIfInBounds_toArray, List.set_cons_zero, List.set_cons_succ, h5] at hK ⊢; have HK := Lib.hid hK; clear hK hp; obtain ⟨f0, f1, f2, f3, f4, -, -, -, -, -⟩ := bx5 ((hb.block _ z0).trans X0); refine ⟨?_⟩; go_simp; exact HK.out _ _ rfl (Below.refl _ _)
  · intro ts W hb hB hp; intro K hK; simp only [fillT, Nat.zero_add, Nat.reduceAdd, List.setIfInBounds_toArray, List.set_cons_zero, List.set_cons_succ] at hK ⊢; have HK := Lib.hid hK; clear hK hp; refine ⟨?_⟩; go_simp; exact HK.out _ _ rfl (Below.refl _ _)
  · intro ts W hb hB hp; have h7 : ts 7 = _ := hp 7 (by kernel_rfl); intro K hK; simp only [fillT, Nat.zero_add, Nat.reduceAdd, List.setIfInBounds_toArray, List.set_cons_zero, List.set_cons_succ, h7] at hK ⊢; have HK := Lib.hid hK; clear hK hp; obtain ⟨f0, f1, f2, f3, f4, -, -, -, -, -⟩ := bx5 ((hb.block _ z1).trans X1); refine ⟨?_⟩; go_simp; exact HK.out _ _ rfl (Below.refl _ _)
  · intro ts W hb hB hp; have h6 : ts 6 = _ := hp 6 (by kernel_rfl); have h8 : ts 8 = _ := hp 8 (by kernel_rfl); intro K hK; simp only [fillT, Nat.zero_add, Nat.reduceAdd, List.setIfInBounds_toArray, List.set_cons_zero, List.set_cons_succ, h6, h8] at hK ⊢; have HK := Lib.hid hK; clear hK hp; refine ⟨?_⟩; go_simp; refine (rIntMul_any _ _ _ _ W (HI1.out.below (below_trans B1 hb)) (HI2.out.below (below_trans B1 hb)) g3 g4).mono ?_; rintro e W9 ⟨r9, rfl, hr9, hb9⟩; exact HK.out _ _ hr9 hb9
  · intro ts W hb hB hp; have h4 := hp 4 (by kernel_rfl); have h9 := hp 9 (by kernel_rfl); intro K hK; simp only [fillT, Nat.zero_add, Nat.reduceAdd, List.setIfInBounds_toArray, List.set_cons_zero, List.set_cons_succ] at hK ⊢; have HK := Lib.hid hK; clear hK hp; refine ⟨?_⟩; go_simp; refine (rIntSub_any _ _ _ _ W h4 h9 g5 g6).mono ?_; rintro e W9 ⟨r9, rfl, hr9, hb9⟩; exact HK.out _ _ hr9 hb9
  · intro ts W hb hB hp; intro K hK; simp only [fillT, Nat.zero_add, Nat.reduceAdd, List.setIfInBounds_toArray, List.set_cons_zero, List.set_cons_succ] at hK ⊢; have HK := Lib.hid hK; clear hK hp; refine ⟨?_⟩; go_simp; exact HK.out _ _ rfl (Below.refl _ _)
  · intro ts W hb hB hp; have h11 : ts 11 = _ := hp 11 (by kernel_rfl); intro K hK; simp only [fillT, Nat.zero_add, Nat.reduceAdd, List.setIfInBounds_toArray, List.set_cons_zero, List.set_cons_succ, h11] at hK ⊢; have HK := Lib.hid hK; clear hK hp; obtain ⟨f0, f1, f2, f3, f4, -, -, -, -, -⟩ := bx5 ((hb.block _ z0).trans X0); refine ⟨?_⟩; go_simp; exact HK.out _ _ rfl (Below.refl _ _)
  · intro ts W hb hB hp; intro K hK; simp only [fillT, Nat.zero_add, Nat.reduceAdd, List.setIfInBounds_toArray, List.set_cons_zero, List.set_cons_succ] at hK ⊢; have HK := Lib.hid hK; clear hK hp; refine ⟨?_⟩; go_simp; exact HK.out _ _ rfl (Below.refl _ _)
  · intro ts W hb hB hp; have h13 : ts 13 = _ := hp 13 (by kernel_rfl); intro K hK; simp only [fillT, Nat.zero_add, Nat.reduceAdd, List.setIfInBounds_toArray, List.set_cons_zero, List.set_cons_succ, h13] at hK ⊢; have HK := Lib.hid hK; clear hK hp; obtain ⟨f0, f1, f2, f3, f4, -, -, -, -, -⟩ := bx5 ((hb.block _ z1).trans X1); refine ⟨?_⟩; go_simp; exact HK.out _ _ rfl (Below.refl _ _)
  · intro ts W hb hB hp; have h12 : ts 12 = _ := hp 12 (by kernel_rfl); have h14 : ts 14 = _ := hp 14 (by kernel_rfl); intro K hK; simp only [fillT, Nat.zero_add, Nat.reduceAdd, List.setIfInBounds_toArray, List.set_cons_zero, List.set_cons_succ, h12, h14] at hK ⊢; have HK := Lib.hid hK; clear hK hp; refine ⟨?_⟩; go_simp; refine (rIntMul_any _ _ _ _ W (HR1.out.below (below_trans B1 hb)) (HI2.out.below (below_trans B1 hb)) g1 g4).mono ?_; rintro e W9 ⟨r9, rfl, hr9, hb9⟩; exact HK.out _ _ hr9 hb9
  · intro ts W hb hB hp; intro K hK; simp only [fillT, Nat.zero_add, Nat.reduceAdd, List.setIfInBounds_toArray, List.set_cons_zero, List.set_cons_succ] at hK ⊢; have HK := Lib.hid hK; clear hK hp; refine ⟨?_⟩; go_simp; exact HK.out _ _ rfl (Below.refl _ _)
  · intro ts W hb hB hp; have h16 : ts 16 = _ := hp 16 (by kernel_rfl); intro K hK; simp only [fillT, Nat.zero_add, Nat.reduceAdd, List.setIfInBounds_toArray, List.set_cons_zero, List.set_cons_succ, h16] at hK ⊢; have HK := Lib.hid hK; clear hK hp; obtain ⟨f0, f1, f2, f3, f4, -, -, -, -, -⟩ := bx5 ((hb.block _ z0).trans X0); refine ⟨?_⟩; go_simp; exact HK.out _ _ rfl (Below.refl _ _)
  · intro ts W hb hB hp; intro K hK; simp only [fillT, Nat.zero_add, Nat.reduceAdd, List.setIfInBounds_toArray, List.set_cons_zero, List.set_cons_succ] at hK ⊢; have HK := Lib.hid hK; clear hK hp; refine ⟨?_⟩; go_simp; exact HK.out _ _ rfl (Below.refl _ _)
  · intro ts W hb hB hp; have h18 : ts 18 = _ := hp 18 (by kernel_rfl); intro K hK; simp only [fillT, Nat.zero_add, Nat.reduceAdd, List.setIfInBounds_toArray, List.set_cons_zero, List.set_cons_succ, h18] at hK ⊢; have HK := Lib.hid hK; clear hK hp; obtain ⟨f0, f1, f2, f3, f4, -, -, -, -, -⟩ := bx5 ((hb.block _ z1).trans X1); refine ⟨?_⟩; go_simp; exact HK.out _ _ rfl (Below.refl _ _)
  · intro ts W hb hB hp; have h17 : ts 17 = _ := hp 17 (by kernel_rfl); have h19 : ts 19 = _ := hp 19 (by kernel_rfl); intro K hK; simp only [fillT, Nat.zero_add, Nat.reduceAdd, List.setIfInBounds_toArray, List.set_cons_zero, List.set_cons_succ, h17, h19] at hK ⊢; have HK := Lib.hid hK; clear hK hp; refine ⟨?_⟩; go_simp; refine (rIntMul_any _ _ _ _ W (HI1.out.below (below_trans B1 hb)) (HR2.out.below (below_trans B1 hb)) g3 g2).mono ?_; rintro e W9 ⟨r9, rfl, hr9, hb9⟩; exact HK.out _ _ hr9 hb9
  · intro ts W hb hB hp; have h15 := hp 15 (by kernel_rfl); have h20 := hp 20 (by kernel_rfl); intro K hK; simp only [fillT, Nat.zero_add, Nat.reduceAdd, List.setIfInBounds_toArray, List.set_cons_zero, List.set_cons_succ] at hK ⊢; have HK := Lib.hid hK; clear hK hp; refine ⟨?_⟩; go_simp; refine (rIntAdd_any _ _ _ _ W h15 h20 g7 g8).mono ?_; rintro e W9 ⟨r9, rfl, hr9, hb9⟩; exact HK.out _ _ hr9 hb9
  · intro ts W hb hB hp; intro K hK; simp only [fillT, Nat.zero_add, Nat.reduceAdd, List.setIfInBounds_toArray, List.set_cons_zero, List.set_cons_succ] at hK ⊢; have HK := Lib.hid hK; clear hK hp; refine ⟨?_⟩; go_simp; exact HK.out _ _ rfl (Below.refl _ _)
  · intro ts W hb hB hp; have h22 : ts 22 = _ := hp 22 (by kernel_rfl); intro K hK; simp only [fillT, Nat.zero_add, Nat.reduceAdd, List.setIfInBounds_toArray, List.set_cons_zero, List.set_cons_succ, h22] at hK ⊢; have HK := Lib.hid hK; clear hK hp; obtain ⟨f0, f1, f2, f3, f4, -, -, -, -, -⟩ := bx5 ((hb.block _ z0).trans X0); refine ⟨?_⟩; go_simp; exact HK.out _ _ rfl (Below.refl _ _)
  · intro ts W hb hB hp; intro K hK; simp only [fillT, Nat.zero_add, Nat.reduceAdd, List.setIfInBounds_toArray, List.set_cons_zero, List.set_cons_succ] at hK ⊢; have HK := Lib.hid hK; clear hK hp; refine ⟨?_⟩; go_simp; exact HK.out _ _ rfl (Below.refl _ _)
  · intro ts W hb hB hp; have h24 : ts 24 = _ := hp 24 (by kernel_rfl); intro K hK; simp only [fillT, Nat.zero_add, Nat.reduceAdd, List.setIfInBounds_toArray, List.set_cons_zero, List.set_cons_succ, h24] at hK ⊢; have HK := Lib.hid hK; clear hK hp; obtain ⟨f0, f1, f2, f3, f4, -, -, -, -, -⟩ := bx5 ((hb.block _ z1).trans X1); refine ⟨?_⟩; go_simp; exact HK.out _ _ rfl (Below.refl _ _)
  · intro ts W hb hB hp; have h23 : ts 23 = _ := hp 23 (by kernel_rfl); have h25 : ts 25 = _ := hp 25 (by kernel_rfl); intro K hK; simp only [fillT, Nat.zero_add, Nat.reduceAdd, List.setIfInBounds_toArray, List.set_cons_zero, List.set_cons_succ, h23, h25] at hK ⊢; have HK := Lib.hid hK; clear hK hp; refine ⟨?_⟩; go_simp; refine (rNatMul_any _ _ _ _ W (HD1.out.below (below_trans B1 hb)) (HD2.out.below (below_trans B1 hb)) g9 g10).mono ?_; rintro e W9 ⟨r9, rfl, hr9, hb9⟩; exact HK.out _ _ hr9 hb9
  · intro ts W hb hB hp; have h10 := hp 10 (by kernel_rfl); have h21 := hp 21 (by kernel_rfl); have h26 := hp 26 (by kernel_rfl); intro K hK; simp only [fillT, Nat.zero_add, Nat.reduceAdd, List.setIfInBounds_toArray, List.set_cons_zero, List.set_cons_succ] at hK ⊢; have HK := Lib.hid hK; clear hK hp; refine ⟨?_⟩; go_simp; refine (HM.out _ _ _ W h10 h21 h26).mono ?_; rintro e W9 ⟨r9, rfl, hr9, hb9⟩; exact HK.out _ _ hr9 hb9
  intro ts W2 hb2 hh hap K hK
  have hq : IsQ W2 (ts 27) (x.mul y) := hh 27 (by simp)
  obtain ⟨A9, n9, c9, p9, A9b, n9b, c9b, p9b, A9c, n9c, c9c, qa, qb, qd, hqe, -⟩ := hq.parts
  have Y0 := (hb2.block (w.heap.size + 2) (by omega)).trans X2
  have HK := Lib.hid hK
  clear hK
  simp only [fillT, Nat.zero_add, Nat.reduceAdd, List.setIfInBounds_toArray, List.set_cons_zero, List.set_cons_succ, hqe]
  rw [hqe] at hq
  clear hh hap hqe
  refine ⟨?_⟩
  refine wp_store_row _ _ _ rfl (w.heap.size + 2) _ rfl rfl _ _ Y0 (by kernel_rfl) rfl (by simp [Value.oneCell']) (HK.out _ _ ?_)
  have hput := putAt_setRow (cs := #[.bool p9, .slice A9 n9 c9, .bool p9b, .slice A9b n9b c9b, .slice A9c n9c c9c]) Y0
  have hext := hput.ext Y0 (by decide)
  have B2 := hput.below (below_trans B1 hb2) (by omega)
  generalize W2.setRow (w.heap.size + 2) #[.bool p9, .slice A9 n9 c9, .bool p9b, .slice A9b n9b c9b, .slice A9c n9c c9c] = W3 at *
  have h5 := hq.ext hext
  obtain ⟨f0, f1, f2, f3, f4, y0, y1, y2, y3, y4⟩ := bx5 hput.here
  clear hput hext hq Y0 HK
  go_wp2
  refine bodyPost_ret (v := .agg #[.bool p9, .slice A9 n9 c9, .bool p9b, .slice A9b n9b c9b, .slice A9c n9c c9c]) (by simp [results, Tryz.results84, go_sem, f0, f1, f2, f3, f4]) rfl ?_
  exact ⟨_, rfl, h5, B2⟩
end Go.Proofs.YtphlmmjlpbledaaGreatDoor
set_option linter.unusedSimpArgs false
set_option linter.unusedVariables false
namespace Go.Proofs.YtphlmmjlpbledaaGreatDoor
open Go.RowKit
set_option maxRecDepth 100000

theorem one_run (W : World) : (Instr.buildSlice 23 1 #[(0, .int .u32 1)]).run Tryz.prog W =
    .ok (.slice (some ⟨W.heap.size, 0, none⟩) 1 1) (W.alloc (.cells #[.int .u32 1] 56)) := by simp [go_sem]
theorem oneNat (W : World) : IsNat (W.alloc (.cells #[.int .u32 1] 56)) (.slice (some ⟨W.heap.size, 0, none⟩) 1 1) 1 := IsNat.one _ _ (by simp) (by simp [go_sem]) 1 (Nat.le_refl _)
theorem top_bit {b : Nat} (hb : b < 18446744073709551616) : ((b : Int) / 9223372036854775808 == 1) = fneg b := by
  unfold fneg
  rw [Bool.eq_iff_iff]
  simp
  omega
theorem fS_neg' (b : Nat) : (fneg b && decide (0 < fmag b)) = decide (fS b < 0) := by
  rw [fS_neg]
  congr 1
  rw [decide_eq_decide]
  omega
theorem fS_up (b k : Nat) : (fS b * ((2 ^ k : Nat) : Int)).natAbs = fmag b * 2 ^ k ∧ (decide (fS b < 0) && decide (0 < fmag b * 2 ^ k)) = decide (fS b * ((2 ^ k : Nat) : Int) < 0) := by
  have hk := Nat.pow_pos (a := 2) (n := k) (by omega)
  refine ⟨by rw [Int.natAbs_mul, fS_abs, Int.natAbs_natCast], ?_⟩
  have ha := fS_abs b
  generalize fS b = z at *
  generalize fmag b = m at *
  generalize 2 ^ k = c at *
  rcases Int.lt_or_le z 0 with h | h
  · have h1 : z * (c : Int) < 0 := Int.mul_neg_of_neg_of_pos h (by omega)
    have h2 : 0 < m * c := Nat.mul_pos (by omega) hk
    simp [h, h1, h2]
  · have h1 : 0 ≤ z * (c : Int) := Int.mul_nonneg h (by omega)
    have h3 : ¬ z * (c : Int) < 0 := by omega
    have h4 : ¬ z < 0 := by omega
    simp [h4, h3]
set_option maxHeartbeats 1000000 in
theorem dyadic_sub (b k : Nat) (w : World) (hb : b < 18446744073709551616) (hx : fx b ≠ 2047) (h0 : fx b = 0) (hk : fup b + k = 1074) :
    Calls Tryz.prog 83 #[.float .f64 b] w (RetQ w (dy b)) := by
  have hfb := floatbits_run
  have h1 := fx_bits b hb
  have h2 := fm_bits b hb
  have hml := fmag_lt b
  have hul : fup b ≤ 2045 := by have := fx_lt b; unfold fup; omega
  have hsg := top_bit hb
  have hmag : fmag b = fm b := by unfold fmag; rw [if_pos h0]
  have hE : fup b = 0 := by unfold fup; rw [h0]
  rw [h0] at h1
  rw [← hmag] at h2
  have h3 : IntKind.i64.wrap ((0 : Nat) : Int) = 0 := by decide
  have HN := Lib.hid (fun W => rNatOf_any (fmag b) W (by omega))
  have HG := Lib.hid (fun W v (h : IsNat W v (fmag b)) => rsigned_any (fneg b) v (fmag b) (fS b) W h (fS_abs b) (fS_neg' b))
  have hwl : wl (fmag b) ≤ 2 := wl_le_of (by omega)
  have HS := Lib.hid (show (1074 : Int) = (k : Int) by omega)
  have HD1 : decide ((1075 : Int) ≤ 1) = false := decide_eq_false (by omega)
  have hkl : k ≤ 1074 := by omega
  have HSH := Lib.hid (fun W v (h : IsNat W v 1) => rNatShl_any v 1 k W h (by rw [wl_one]; omega) (by omega))
  have HMK := Lib.hid (fun W v u (h : IsRI W u (fS b)) (h3 : IsNat W v (1 * 2 ^ k)) => rMake_any u (.agg #[.bool false, .slice none 0 0]) v (fS b) 0 (1 * 2 ^ k) (dy b) W h (IsRI.zero _ _ _) h3 (by rw [Nat.one_mul]; exact Nat.pow_pos (by omega)) (by rw [Nat.one_mul]; exact dy_small hk) (by rw [Nat.one_mul]; exact dy_im b k) (by rw [fS_abs]; omega) (by simp [wl_zero]) (Nat.lt_of_le_of_lt (wl_of_two (k := k + 1) (n := 34) (by rw [Nat.one_mul]; exact Nat.pow_lt_pow_right (by omega) (Nat.lt_succ_self _)) (by omega)) (by omega)))
  have hmz : (fmag b : Int) = (fmag b : Int) := rfl
  clear hml hul hb hx hk hwl hkl hE hmag
  generalize hmg : fmag b = m at *
  have HMG := Lib.hid hmg
  clear hmg
  go_enter Tryz.func83, Tryz.ntmps83
  go_wp2_with fail
  refine (HN.out _).mono ?_
  rintro e w1 ⟨v1, rfl, hn1, hb1⟩
  have X0 := (hb1.block w.heap.size (by simp)).trans (heap_alloc_new w _)
  have z0 : w.heap.size < w1.heap.size := Nat.lt_of_lt_of_le (by simp) hb1.size
  have B0 := Lib.hid (below_trans (below_alloc w _) hb1)
  have HN1 := Lib.hid hn1
  clear hn1 hb1
  go_wp2_with fail
  refine (HG.out _ _ HN1.out).mono ?_
  rintro e w2 ⟨v2, rfl, hr2, hb2⟩
  obtain ⟨A1, n1, c1, rfl, -, hs2⟩ := hr2.parts
  rw [fS_abs, HMG.out] at hs2
  generalize decide (fS b < 0) = p1 at *
  replace X0 := (hb2.block w.heap.size z0).trans X0
  replace z0 := Nat.lt_of_lt_of_le z0 hb2.size
  have B2 := Lib.hid (below_trans B0.out hb2)
  have HR2 := Lib.hid hr2
  have HS2 := Lib.hid hs2
  clear hr2 hs2 hb2 B0 HN1
  go_upto_region 10 with fail
  obtain ⟨W1, hW1⟩ : ∃ W, W = w2.alloc (.cells #[.bool p1, .slice A1 n1 c1] 33) := ⟨_, rfl⟩
  rw [← hW1]
  have X10 : W1.heap[w2.heap.size]? = some (.cells #[.bool p1, .slice A1 n1 c1] 33 (0, 0)) := by rw [hW1]; exact heap_alloc_new w2 _
  have z10 : w2.heap.size < W1.heap.size := by rw [hW1]; simp
  replace X0 := (heap_alloc_old w2 (.cells #[.bool p1, .slice A1 n1 c1] 33) z0).trans X0
  rw [← hW1] at X0
  replace z0 := Nat.lt_trans z0 z10
  have H2 : IsRI W1 (.agg #[.bool p1, .slice A1 n1 c1]) (fS b) := by rw [hW1]; exact HR2.out.below (below_alloc _ _)
  have H1 : IsNat W1 (.slice A1 n1 c1) m := by rw [hW1]; exact HS2.out.below (below_alloc _ _)
  have B1 : Below w.heap.size w W1 := by rw [hW1]; exact below_trans B2.out (below_alloc _ _)
  clear hW1 B2 HR2 HS2
  refine region_last [.val (kIs (.agg #[.bool p1, .slice A1 n1 c1])), .val (kIs (.agg #[.bool false, .slice none 0 0])), .val (kNat 1), .val (kIs (.int .i64 1)), .val (kIs (.int .i64 (k : Int))), .val (kNat (1 * 2 ^ k)), .val (kQ (dy b))]
    (by kernel_rfl) (by kernel_rfl) (by kernel_rfl) (by kernel_rfl) (by kernel_rfl) ⟨Stab.b (stab_is _), Stab.b (stab_is _), stabB_nat _, Stab.b (stab_is _), Stab.b (stab_is _), stabB_nat _, stabB_q _, trivial⟩ (by simp) (ol := _) rfl (by kernel_rfl) ⟨?_, ?_, ?_, ?_, ?_, ?_, ?_, trivial⟩ ?_
  · intro ts W hb hB hp; intro K hK; simp only [fillT, Nat.zero_add, Nat.reduceAdd, List.setIfInBounds_toArray, List.set_cons_zero, List.set_cons_succ] at hK ⊢; have HK := Lib.hid hK; clear hK hp; obtain ⟨f0, f1, -, -⟩ := bx2 ((hb.block _ z10).trans X10); refine ⟨?_⟩; go_simp; exact HK.out _ _ rfl (Below.refl _ _)
  · intro ts W hb hB hp; intro K hK; simp only [fillT, Nat.zero_add, Nat.reduceAdd, List.setIfInBounds_toArray, List.set_cons_zero, List.set_cons_succ] at hK ⊢; have HK := Lib.hid hK; clear hK hp; refine ⟨?_⟩; go_simp; exact HK.out _ _ rfl (Below.refl _ _)
  · intro ts W hb hB hp; intro K hK; simp only [fillT, Nat.zero_add, Nat.reduceAdd, List.setIfInBounds_toArray, List.set_cons_zero, List.set_cons_succ] at hK ⊢; have HK := Lib.hid hK; clear hK hp; refine ⟨?_⟩; exact wp_buildSlice rfl (by simp [Act.eval]) (one_run W) (HK.out _ _ (oneNat W) (below_alloc _ _))
  · intro ts W hb hB hp; intro K hK; simp only [fillT, Nat.zero_add, Nat.reduceAdd, List.setIfInBounds_toArray, List.set_cons_zero, List.set_cons_succ] at hK ⊢; have HK := Lib.hid hK; clear hK hp; refine ⟨?_⟩; go_simp; exact HK.out _ _ rfl (Below.refl _ _)
  · intro ts W hb hB hp; have h3 : ts 3 = _ := hp 3 (by kernel_rfl); intro K hK; simp only [fillT, Nat.zero_add, Nat.reduceAdd, List.setIfInBounds_toArray, List.set_cons_zero, List.set_cons_succ, h3] at hK ⊢; have HK := Lib.hid hK; clear hK hp; refine ⟨?_⟩; go_simp; exact HK.out _ _ (by have h := HS.out; simp [kIs]; rw [show IntKind.i64.wrap 1074 = 1074 by decide]; exact h) (Below.refl _ _)
  · intro ts W hb hB hp; have h2 := hp 2 (by kernel_rfl); have h4 : ts 4 = _ := hp 4 (by kernel_rfl); intro K hK; simp only [fillT, Nat.zero_add, Nat.reduceAdd, List.setIfInBounds_toArray, List.set_cons_zero, List.set_cons_succ, h4] at hK ⊢; have HK := Lib.hid hK; clear hK hp; refine ⟨?_⟩; go_simp; refine (HSH.out W _ h2).mono ?_; rintro e W9 ⟨r9, rfl, hr9, hb9⟩; exact HK.out _ _ hr9 hb9
  · intro ts W hb hB hp; have h0 : ts 0 = _ := hp 0 (by kernel_rfl); have h1 : ts 1 = _ := hp 1 (by kernel_rfl); have h5 := hp 5 (by kernel_rfl); intro K hK; simp only [fillT, Nat.zero_add, Nat.reduceAdd, List.setIfInBounds_toArray, List.set_cons_zero, List.set_cons_succ, h0, h1] at hK ⊢; have HK := Lib.hid hK; clear hK hp; refine ⟨?_⟩; go_simp; refine (HMK.out W _ _ (IsRI.below H2 hb) h5).mono ?_; rintro e W9 ⟨r9, rfl, hr9, hb9⟩; exact HK.out _ _ hr9 hb9
  intro ts W2 hb2 hh hap K hK
  have hq : IsQ W2 (ts 6) (dy b) := hh 6 (by simp)
  obtain ⟨A9, n9, c9, p9, A9b, n9b, c9b, p9b, A9c, n9c, c9c, qa, qb, qd, hqe, -⟩ := hq.parts
  have Y0 := (hb2.block (w.heap.size) (by omega)).trans X0
  have HK := Lib.hid hK
  clear hK
  simp only [fillT, Nat.zero_add, Nat.reduceAdd, List.setIfInBounds_toArray, List.set_cons_zero, List.set_cons_succ, hqe]
  rw [hqe] at hq
  clear hh hap hqe
  refine ⟨?_⟩
  refine wp_store_row _ _ _ rfl (w.heap.size) _ rfl rfl _ _ Y0 (by kernel_rfl) rfl (by simp [Value.oneCell']) (HK.out _ _ ?_)
  have hput := putAt_setRow (cs := #[.bool p9, .slice A9 n9 c9, .bool p9b, .slice A9b n9b c9b, .slice A9c n9c c9c]) Y0
  have hext := hput.ext Y0 (by decide)
  have B2 := hput.below (below_trans B1 hb2) (by omega)
  generalize W2.setRow (w.heap.size) #[.bool p9, .slice A9 n9 c9, .bool p9b, .slice A9b n9b c9b, .slice A9c n9c c9c] = W3 at *
  have h5 := hq.ext hext
  obtain ⟨f0, f1, f2, f3, f4, y0, y1, y2, y3, y4⟩ := bx5 hput.here
  clear hput hext hq Y0 HK
  go_wp2
  refine bodyPost_ret (v := .agg #[.bool p9, .slice A9 n9 c9, .bool p9b, .slice A9b n9b c9b, .slice A9c n9c c9c]) (by simp [results, Tryz.results83, go_sem, f0, f1, f2, f3, f4]) rfl ?_
  exact ⟨_, rfl, h5, B2⟩
set_option maxHeartbeats 1000000 in
theorem dyadic_small (b k : Nat) (w : World) (hb : b < 18446744073709551616) (hx : fx b ≠ 2047) (h0 : 0 < fx b) (hk : fup b + k = 1074 ∧ 0 < k) :
    Calls Tryz.prog 83 #[.float .f64 b] w (RetQ w (dy b)) := by
  have hfb := floatbits_run
  have h1 := fx_bits b hb
  have h2 := fm_bits b hb
  have hml := fmag_lt b
  have hul : fup b ≤ 2045 := by have := fx_lt b; unfold fup; omega
  have hsg := top_bit hb
  obtain ⟨hk, hk0⟩ := hk
  have hor := or_52 (fm_lt b)
  have hmag : fmag b = fm b + 4503599627370496 := by unfold fmag; rw [if_neg (by omega)]
  rw [← hmag] at hor
  obtain ⟨X, hX⟩ : ∃ X, fx b = X := ⟨_, rfl⟩
  have hE : fup b + 1 = X := by unfold fup; omega
  have hXl := fx_lt b
  rw [hX] at h1 h0 hXl
  have hX0 : ((X : Int) == 0) = false := by simp; omega
  have hwX : IntKind.i64.wrap (X : Int) = (X : Int) := IntWalk.i64_in _ (by omega)
  have HN := Lib.hid (fun W => rNatOf_any (fmag b) W (by omega))
  have HG := Lib.hid (fun W v (h : IsNat W v (fmag b)) => rsigned_any (fneg b) v (fmag b) (fS b) W h (fS_abs b) (fS_neg' b))
  have hwl : wl (fmag b) ≤ 2 := wl_le_of (by omega)
  have HS := Lib.hid (show IntKind.i64.wrap (1075 - (X : Int)) = (k : Int) by rw [IntWalk.i64_in _ (by omega)]; omega)
  have HD1 : decide ((1075 : Int) ≤ (X : Int)) = false := decide_eq_false (by omega)
  have hkl : k ≤ 1074 := by omega
  have HSH := Lib.hid (fun W v (h : IsNat W v 1) => rNatShl_any v 1 k W h (by rw [wl_one]; omega) (by omega))
  have HMK := Lib.hid (fun W v u (h : IsRI W u (fS b)) (h3 : IsNat W v (1 * 2 ^ k)) => rMake_any u (.agg #[.bool false, .slice none 0 0]) v (fS b) 0 (1 * 2 ^ k) (dy b) W h (IsRI.zero _ _ _) h3 (by rw [Nat.one_mul]; exact Nat.pow_pos (by omega)) (by rw [Nat.one_mul]; exact dy_small hk) (by rw [Nat.one_mul]; exact dy_im b k) (by rw [fS_abs]; omega) (by simp [wl_zero]) (Nat.lt_of_le_of_lt (wl_of_two (k := k + 1) (n := 34) (by rw [Nat.one_mul]; exact Nat.pow_lt_pow_right (by omega) (Nat.lt_succ_self _)) (by omega)) (by omega)))
  have hmz : (fmag b : Int) = (fmag b : Int) := rfl
  clear hml hul hb hx hk hwl hkl hE hmag hXl hX h0 hk0
  generalize hmg : fmag b = m at *
  have HMG := Lib.hid hmg
  clear hmg
  go_enter Tryz.func83, Tryz.ntmps83
  go_wp2_with fail
  refine (HN.out _).mono ?_
  rintro e w1 ⟨v1, rfl, hn1, hb1⟩
  have X0 := (hb1.block w.heap.size (by simp)).trans (heap_alloc_new w _)
  have z0 : w.heap.size < w1.heap.size := Nat.lt_of_lt_of_le (by simp) hb1.size
  have B0 := Lib.hid (below_trans (below_alloc w _) hb1)
  have HN1 := Lib.hid hn1
  clear hn1 hb1
  go_wp2_with fail
  refine (HG.out _ _ HN1.out).mono ?_
  rintro e w2 ⟨v2, rfl, hr2, hb2⟩
  obtain ⟨A1, n1, c1, rfl, -, hs2⟩ := hr2.parts
  rw [fS_abs, HMG.out] at hs2
  generalize decide (fS b < 0) = p1 at *
  replace X0 := (hb2.block w.heap.size z0).trans X0
  replace z0 := Nat.lt_of_lt_of_le z0 hb2.size
  have B2 := Lib.hid (below_trans B0.out hb2)
  have HR2 := Lib.hid hr2
  have HS2 := Lib.hid hs2
  clear hr2 hs2 hb2 B0 HN1
  go_upto_region 10 with fail
  obtain ⟨W1, hW1⟩ : ∃ W, W = w2.alloc (.cells #[.bool p1, .slice A1 n1 c1] 33) := ⟨_, rfl⟩
  rw [← hW1]
  have X10 : W1.heap[w2.heap.size]? = some (.cells #[.bool p1, .slice A1 n1 c1] 33 (0, 0)) := by rw [hW1]; exact heap_alloc_new w2 _
  have z10 : w2.heap.size < W1.heap.size := by rw [hW1]; simp
  replace X0 := (heap_alloc_old w2 (.cells #[.bool p1, .slice A1 n1 c1] 33) z0).trans X0
  rw [← hW1] at X0
  replace z0 := Nat.lt_trans z0 z10
  have H2 : IsRI W1 (.agg #[.bool p1, .slice A1 n1 c1]) (fS b) := by rw [hW1]; exact HR2.out.below (below_alloc _ _)
  have H1 : IsNat W1 (.slice A1 n1 c1) m := by rw [hW1]; exact HS2.out.below (below_alloc _ _)
  have B1 : Below w.heap.size w W1 := by rw [hW1]; exact below_trans B2.out (below_alloc _ _)
  clear hW1 B2 HR2 HS2
  refine region_last [.val (kIs (.agg #[.bool p1, .slice A1 n1 c1])), .val (kIs (.agg #[.bool false, .slice none 0 0])), .val (kNat 1), .val (kIs (.int .i64 (X : Int))), .val (kIs (.int .i64 (k : Int))), .val (kNat (1 * 2 ^ k)), .val (kQ (dy b))]
    (by kernel_rfl) (by kernel_rfl) (by kernel_rfl) (by kernel_rfl) (by kernel_rfl) ⟨Stab.b (stab_is _), Stab.b (stab_is _), stabB_nat _, Stab.b (stab_is _), Stab.b (stab_is _), stabB_nat _, stabB_q _, trivial⟩ (by simp) (ol := _) rfl (by kernel_rfl) ⟨?_, ?_, ?_, ?_, ?_, ?_, ?_, trivial⟩ ?_
  · intro ts W hb hB hp; intro K hK; simp only [fillT, Nat.zero_add, Nat.reduceAdd, List.setIfInBounds_toArray, List.set_cons_zero, List.set_cons_succ] at hK ⊢; have HK := Lib.hid hK; clear hK hp; obtain ⟨f0, f1, -, -⟩ := bx2 ((hb.block _ z10).trans X10); refine ⟨?_⟩; go_simp; exact HK.out _ _ rfl (Below.refl _ _)
  · intro ts W hb hB hp; intro K hK; simp only [fillT, Nat.zero_add, Nat.reduceAdd, List.setIfInBounds_toArray, List.set_cons_zero, List.set_cons_succ] at hK ⊢; have HK := Lib.hid hK; clear hK hp; refine ⟨?_⟩; go_simp; exact HK.out _ _ rfl (Below.refl _ _)
  · intro ts W hb hB hp; intro K hK; simp only [fillT, Nat.zero_add, Nat.reduceAdd, List.setIfInBounds_toArray, List.set_cons_zero, List.set_cons_succ] at hK ⊢; have HK := Lib.hid hK; clear hK hp; refine ⟨?_⟩; exact wp_buildSlice rfl (by simp [Act.eval]) (one_run W) (HK.out _ _ (oneNat W) (below_alloc _ _))
  · intro ts W hb hB hp; intro K hK; simp only [fillT, Nat.zero_add, Nat.reduceAdd, List.setIfInBounds_toArray, List.set_cons_zero, List.set_cons_succ] at hK ⊢; have HK := Lib.hid hK; clear hK hp; refine ⟨?_⟩; go_simp; exact HK.out _ _ rfl (Below.refl _ _)
  · intro ts W hb hB hp; have h3 : ts 3 = _ := hp 3 (by kernel_rfl); intro K hK; simp only [fillT, Nat.zero_add, Nat.reduceAdd, List.setIfInBounds_toArray, List.set_cons_zero, List.set_cons_succ, h3] at hK ⊢; have HK := Lib.hid hK; clear hK hp; refine ⟨?_⟩; go_simp; exact HK.out _ _ (by simp [kIs, HS.out]) (Below.refl _ _)
  · intro ts W hb hB hp; have h2 := hp 2 (by kernel_rfl); have h4 : ts 4 = _ := hp 4 (by kernel_rfl); intro K hK; simp only [fillT, Nat.zero_add, Nat.reduceAdd, List.setIfInBounds_toArray, List.set_cons_zero, List.set_cons_succ, h4] at hK ⊢; have HK := Lib.hid hK; clear hK hp; refine ⟨?_⟩; go_simp; refine (HSH.out W _ h2).mono ?_; rintro e W9 ⟨r9, rfl, hr9, hb9⟩; exact HK.out _ _ hr9 hb9
  · intro ts W hb hB hp; have h0 : ts 0 = _ := hp 0 (by kernel_rfl); have h1 : ts 1 = _ := hp 1 (by kernel_rfl); have h5 := hp 5 (by kernel_rfl); intro K hK; simp only [fillT, Nat.zero_add, Nat.reduceAdd, List.setIfInBounds_toArray, List.set_cons_zero, List.set_cons_succ, h0, h1] at hK ⊢; have HK := Lib.hid hK; clear hK hp; refine ⟨?_⟩; go_simp; refine (HMK.out W _ _ (IsRI.below H2 hb) h5).mono ?_; rintro e W9 ⟨r9, rfl, hr9, hb9⟩; exact HK.out _ _ hr9 hb9
  intro ts W2 hb2 hh hap K hK
  have hq : IsQ W2 (ts 6) (dy b) := hh 6 (by simp)
  obtain ⟨A9, n9, c9, p9, A9b, n9b, c9b, p9b, A9c, n9c, c9c, qa, qb, qd, hqe, -⟩ := hq.parts
  have Y0 := (hb2.block (w.heap.size) (by omega)).trans X0
  have HK := Lib.hid hK
  clear hK
  simp only [fillT, Nat.zero_add, Nat.reduceAdd, List.setIfInBounds_toArray, List.set_cons_zero, List.set_cons_succ, hqe]
  rw [hqe] at hq
  clear hh hap hqe
  refine ⟨?_⟩
  refine wp_store_row _ _ _ rfl (w.heap.size) _ rfl rfl _ _ Y0 (by kernel_rfl) rfl (by simp [Value.oneCell']) (HK.out _ _ ?_)
  have hput := putAt_setRow (cs := #[.bool p9, .slice A9 n9 c9, .bool p9b, .slice A9b n9b c9b, .slice A9c n9c c9c]) Y0
  have hext := hput.ext Y0 (by decide)
  have B2 := hput.below (below_trans B1 hb2) (by omega)
  generalize W2.setRow (w.heap.size) #[.bool p9, .slice A9 n9 c9, .bool p9b, .slice A9b n9b c9b, .slice A9c n9c c9c] = W3 at *
  have h5 := hq.ext hext
  obtain ⟨f0, f1, f2, f3, f4, y0, y1, y2, y3, y4⟩ := bx5 hput.here
  clear hput hext hq Y0 HK
  go_wp2
  refine bodyPost_ret (v := .agg #[.bool p9, .slice A9 n9 c9, .bool p9b, .slice A9b n9b c9b, .slice A9c n9c c9c]) (by simp [results, Tryz.results83, go_sem, f0, f1, f2, f3, f4]) rfl ?_
  exact ⟨_, rfl, h5, B2⟩
set_option maxHeartbeats 1000000 in
theorem dyadic_big (b k : Nat) (w : World) (hb : b < 18446744073709551616) (hx : fx b ≠ 2047) (h0 : 0 < fx b) (hk : fup b = 1074 + k) :
    Calls Tryz.prog 83 #[.float .f64 b] w (RetQ w (dy b)) := by
  have hfb := floatbits_run
  have h1 := fx_bits b hb
  have h2 := fm_bits b hb
  have hml := fmag_lt b
  have hul : fup b ≤ 2045 := by have := fx_lt b; unfold fup; omega
  have hsg := top_bit hb
  have hor := or_52 (fm_lt b)
  have hmag : fmag b = fm b + 4503599627370496 := by unfold fmag; rw [if_neg (by omega)]
  rw [← hmag] at hor
  obtain ⟨X, hX⟩ : ∃ X, fx b = X := ⟨_, rfl⟩
  have hE : fup b + 1 = X := by unfold fup; omega
  have hXl := fx_lt b
  rw [hX] at h1 h0 hXl
  have hX0 : ((X : Int) == 0) = false := by simp; omega
  have hwX : IntKind.i64.wrap (X : Int) = (X : Int) := IntWalk.i64_in _ (by omega)
  have HN := Lib.hid (fun W => rNatOf_any (fmag b) W (by omega))
  have HG := Lib.hid (fun W v (h : IsNat W v (fmag b)) => rsigned_any (fneg b) v (fmag b) (fS b) W h (fS_abs b) (fS_neg' b))
  have hwl : wl (fmag b) ≤ 2 := wl_le_of (by omega)
  have HS := Lib.hid (show IntKind.i64.wrap ((X : Int) - 1075) = (k : Int) by rw [IntWalk.i64_in _ (by omega)]; omega)
  have HD1 : decide ((1075 : Int) ≤ (X : Int)) = true := decide_eq_true (by omega)
  have HL := Lib.hid (dy_big hk)
  have hkl : k ≤ 2045 := by omega
  have HSH := Lib.hid (fun W v (h : IsNat W v (fmag b)) => rNatShl_any v (fmag b) k W h (by omega) (by omega))
  have HSG := Lib.hid (fun W v (h : IsNat W v (fmag b * 2 ^ k)) => rsigned_any (decide (fS b < 0)) v _ _ W h (fS_up b k).1 (fS_up b k).2)
  have hmz : (fmag b : Int) = (fmag b : Int) := rfl
  clear hml hul hb hx hk hwl hkl hE hmag hXl hX h0
  generalize hmg : fmag b = m at *
  have HMG := Lib.hid hmg
  clear hmg
  go_enter Tryz.func83, Tryz.ntmps83
  go_wp2_with fail
  refine (HN.out _).mono ?_
  rintro e w1 ⟨v1, rfl, hn1, hb1⟩
  have X0 := (hb1.block w.heap.size (by simp)).trans (heap_alloc_new w _)
  have z0 : w.heap.size < w1.heap.size := Nat.lt_of_lt_of_le (by simp) hb1.size
  have B0 := Lib.hid (below_trans (below_alloc w _) hb1)
  have HN1 := Lib.hid hn1
  clear hn1 hb1
  go_wp2_with fail
  refine (HG.out _ _ HN1.out).mono ?_
  rintro e w2 ⟨v2, rfl, hr2, hb2⟩
  obtain ⟨A1, n1, c1, rfl, -, hs2⟩ := hr2.parts
  rw [fS_abs, HMG.out] at hs2
  generalize decide (fS b < 0) = p1 at *
  replace X0 := (hb2.block w.heap.size z0).trans X0
  replace z0 := Nat.lt_of_lt_of_le z0 hb2.size
  have B2 := Lib.hid (below_trans B0.out hb2)
  have HR2 := Lib.hid hr2
  have HS2 := Lib.hid hs2
  clear hr2 hs2 hb2 B0 HN1
  go_upto_region 9 with fail
  obtain ⟨W1, hW1⟩ : ∃ W, W = w2.alloc (.cells #[.bool p1, .slice A1 n1 c1] 33) := ⟨_, rfl⟩
  rw [← hW1]
  have X10 : W1.heap[w2.heap.size]? = some (.cells #[.bool p1, .slice A1 n1 c1] 33 (0, 0)) := by rw [hW1]; exact heap_alloc_new w2 _
  have z10 : w2.heap.size < W1.heap.size := by rw [hW1]; simp
  replace X0 := (heap_alloc_old w2 (.cells #[.bool p1, .slice A1 n1 c1] 33) z0).trans X0
  rw [← hW1] at X0
  replace z0 := Nat.lt_trans z0 z10
  have H2 : IsRI W1 (.agg #[.bool p1, .slice A1 n1 c1]) (fS b) := by rw [hW1]; exact HR2.out.below (below_alloc _ _)
  have H1 : IsNat W1 (.slice A1 n1 c1) m := by rw [hW1]; exact HS2.out.below (below_alloc _ _)
  have B1 : Below w.heap.size w W1 := by rw [hW1]; exact below_trans B2.out (below_alloc _ _)
  clear hW1 B2 HR2 HS2
  refine region_last [.val (kIs (.pointer (some ⟨w2.heap.size, 0, none⟩))), .val (kIs (.bool p1)), .val (kIs (.pointer (some ⟨w2.heap.size, 1, none⟩))), .val (kIs (.slice A1 n1 c1)), .val (kIs (.int .i64 (X : Int))), .val (kIs (.int .i64 (k : Int))), .val (kNat (m * 2 ^ k)), .val (kRI (fS b * ((2 ^ k : Nat) : Int))), .val (kIs (.agg #[.bool false, .slice none 0 0])), .val (kNat 1), .val (kQ (dy b))]
    (by kernel_rfl) (by kernel_rfl) (by kernel_rfl) (by kernel_rfl) (by kernel_rfl) ⟨Stab.b (stab_is _), Stab.b (stab_is _), Stab.b (stab_is _), Stab.b (stab_is _), Stab.b (stab_is _), Stab.b (stab_is _), stabB_nat _, stabB_ri _, Stab.b (stab_is _), stabB_nat _, stabB_q _, trivial⟩ (by simp) (ol := _) rfl (by kernel_rfl) ⟨?_, ?_, ?_, ?_, ?_, ?_, ?_, ?_, ?_, ?_, ?_, trivial⟩ ?_
  · intro ts W hb hB hp; intro K hK; simp only [fillT, Nat.zero_add, Nat.reduceAdd, List.setIfInBounds_toArray, List.set_cons_zero, List.set_cons_succ] at hK ⊢; have HK := Lib.hid hK; clear hK hp; refine ⟨?_⟩; go_simp; exact HK.out _ _ rfl (Below.refl _ _)
  · intro ts W hb hB hp; have h0 : ts 0 = _ := hp 0 (by kernel_rfl); intro K hK; simp only [fillT, Nat.zero_add, Nat.reduceAdd, List.setIfInBounds_toArray, List.set_cons_zero, List.set_cons_succ, h0] at hK ⊢; have HK := Lib.hid hK; clear hK hp; obtain ⟨f0, f1, -, -⟩ := bx2 ((hb.block _ z10).trans X10); refine ⟨?_⟩; go_simp; exact HK.out _ _ rfl (Below.refl _ _)
  · intro ts W hb hB hp; intro K hK; simp only [fillT, Nat.zero_add, Nat.reduceAdd, List.setIfInBounds_toArray, List.set_cons_zero, List.set_cons_succ] at hK ⊢; have HK := Lib.hid hK; clear hK hp; refine ⟨?_⟩; go_simp; exact HK.out _ _ rfl (Below.refl _ _)
  · intro ts W hb hB hp; have h2 : ts 2 = _ := hp 2 (by kernel_rfl); intro K hK; simp only [fillT, Nat.zero_add, Nat.reduceAdd, List.setIfInBounds_toArray, List.set_cons_zero, List.set_cons_succ, h2] at hK ⊢; have HK := Lib.hid hK; clear hK hp; obtain ⟨f0, f1, -, -⟩ := bx2 ((hb.block _ z10).trans X10); refine ⟨?_⟩; go_simp; exact HK.out _ _ rfl (Below.refl _ _)
  · intro ts W hb hB hp; intro K hK; simp only [fillT, Nat.zero_add, Nat.reduceAdd, List.setIfInBounds_toArray, List.set_cons_zero, List.set_cons_succ] at hK ⊢; have HK := Lib.hid hK; clear hK hp; refine ⟨?_⟩; go_simp; exact HK.out _ _ rfl (Below.refl _ _)
  · intro ts W hb hB hp; have h4 : ts 4 = _ := hp 4 (by kernel_rfl); intro K hK; simp only [fillT, Nat.zero_add, Nat.reduceAdd, List.setIfInBounds_toArray, List.set_cons_zero, List.set_cons_succ, h4] at hK ⊢; have HK := Lib.hid hK; clear hK hp; refine ⟨?_⟩; go_simp; exact HK.out _ _ (by simp [kIs, HS.out]) (Below.refl _ _)
  · intro ts W hb hB hp; have h3 : ts 3 = _ := hp 3 (by kernel_rfl); have h5 : ts 5 = _ := hp 5 (by kernel_rfl); intro K hK; simp only [fillT, Nat.zero_add, Nat.reduceAdd, List.setIfInBounds_toArray, List.set_cons_zero, List.set_cons_succ, h3, h5] at hK ⊢; have HK := Lib.hid hK; clear hK hp; refine ⟨?_⟩; go_simp; refine (HSH.out W _ (IsNat.below H1 hb)).mono ?_; rintro e W9 ⟨r9, rfl, hr9, hb9⟩; exact HK.out _ _ hr9 hb9
  · intro ts W hb hB hp; have h1 : ts 1 = _ := hp 1 (by kernel_rfl); have h6 := hp 6 (by kernel_rfl); intro K hK; simp only [fillT, Nat.zero_add, Nat.reduceAdd, List.setIfInBounds_toArray, List.set_cons_zero, List.set_cons_succ, h1] at hK ⊢; have HK := Lib.hid hK; clear hK hp; refine ⟨?_⟩; go_simp; refine (HSG.out W _ h6).mono ?_; rintro e W9 ⟨r9, rfl, hr9, hb9⟩; exact HK.out _ _ hr9 hb9
  · intro ts W hb hB hp; intro K hK; simp only [fillT, Nat.zero_add, Nat.reduceAdd, List.setIfInBounds_toArray, List.set_cons_zero, List.set_cons_succ] at hK ⊢; have HK := Lib.hid hK; clear hK hp; refine ⟨?_⟩; go_simp; exact HK.out _ _ rfl (Below.refl _ _)
  · intro ts W hb hB hp; intro K hK; simp only [fillT, Nat.zero_add, Nat.reduceAdd, List.setIfInBounds_toArray, List.set_cons_zero, List.set_cons_succ] at hK ⊢; have HK := Lib.hid hK; clear hK hp; refine ⟨?_⟩; exact wp_buildSlice rfl (by simp [Act.eval]) (one_run W) (HK.out _ _ (oneNat W) (below_alloc _ _))
  · intro ts W hb hB hp; have h7 := hp 7 (by kernel_rfl); have h8 : ts 8 = _ := hp 8 (by kernel_rfl); have h9 := hp 9 (by kernel_rfl); intro K hK; have i7 := h7; have i9 := h9; obtain ⟨A7, m7, c7, e7, -⟩ := IsRI.parts i7; obtain ⟨A8, m8, c8, e8, -⟩ := IsNat.ex i9; rw [e7] at i7; rw [e8] at i9; simp only [fillT, Nat.zero_add, Nat.reduceAdd, List.setIfInBounds_toArray, List.set_cons_zero, List.set_cons_succ, h8, e7, e8] at hK ⊢; have HK := Lib.hid hK; clear hK hp; refine ⟨?_⟩; go_simp; exact HK.out _ _ (IsQ.mk HL.out i7 (IsRI.zero _ _ _) i9) (Below.refl _ _)
  intro ts W2 hb2 hh hap K hK
  have hq : IsQ W2 (ts 10) (dy b) := hh 10 (by simp)
  obtain ⟨A9, n9, c9, p9, A9b, n9b, c9b, p9b, A9c, n9c, c9c, qa, qb, qd, hqe, -⟩ := hq.parts
  have Y0 := (hb2.block (w.heap.size) (by omega)).trans X0
  have HK := Lib.hid hK
  clear hK
  simp only [fillT, Nat.zero_add, Nat.reduceAdd, List.setIfInBounds_toArray, List.set_cons_zero, List.set_cons_succ, hqe]
  rw [hqe] at hq
  clear hh hap hqe
  refine ⟨?_⟩
  refine wp_store_row _ _ _ rfl (w.heap.size) _ rfl rfl _ _ Y0 (by kernel_rfl) rfl (by simp [Value.oneCell']) (HK.out _ _ ?_)
  have hput := putAt_setRow (cs := #[.bool p9, .slice A9 n9 c9, .bool p9b, .slice A9b n9b c9b, .slice A9c n9c c9c]) Y0
  have hext := hput.ext Y0 (by decide)
  have B2 := hput.below (below_trans B1 hb2) (by omega)
  generalize W2.setRow (w.heap.size) #[.bool p9, .slice A9 n9 c9, .bool p9b, .slice A9b n9b c9b, .slice A9c n9c c9c] = W3 at *
  have h5 := hq.ext hext
  obtain ⟨f0, f1, f2, f3, f4, y0, y1, y2, y3, y4⟩ := bx5 hput.here
  clear hput hext hq Y0 HK
  go_wp2
  refine bodyPost_ret (v := .agg #[.bool p9, .slice A9 n9 c9, .bool p9b, .slice A9b n9b c9b, .slice A9c n9c c9c]) (by simp [results, Tryz.results83, go_sem, f0, f1, f2, f3, f4]) rfl ?_
  exact ⟨_, rfl, h5, B2⟩
theorem rdyadic_any (b : Nat) (w : World) (hb : b < 18446744073709551616) (hx : fx b ≠ 2047) : Calls Tryz.prog 83 #[.float .f64 b] w (RetQ w (dy b)) := by
  have hul : fup b ≤ 2045 := by have := fx_lt b; unfold fup; omega
  rcases Nat.eq_zero_or_pos (fx b) with h0 | h0
  · exact dyadic_sub b 1074 w hb hx h0 (by unfold fup; omega)
  · rcases Nat.lt_or_ge (fup b) 1074 with h1 | h1
    · exact dyadic_small b (1074 - fup b) w hb hx h0 ⟨by omega, by omega⟩
    · exact dyadic_big b (fup b - 1074) w hb hx h0 (by omega)
end Go.Proofs.YtphlmmjlpbledaaGreatDoor
set_option linter.unusedSimpArgs false
set_option linter.unusedVariables false
namespace Go.Proofs.YtphlmmjlpbledaaGreatDoor
open Go.RowKit
set_option maxRecDepth 100000

theorem rfinite_any (b : Nat) (w : World) (hb : b < 18446744073709551616) :
    Calls Tryz.prog 82 #[.float .f64 b] w fun e w' => e = .returned (.bool (decide (fx b ≠ 2047))) ∧ w = w' := by
  have hfb := floatbits_run
  have h1 := fx_bits b hb
  have hd : ((fx b : Int) != 2047) = decide (fx b ≠ 2047) := by
    rw [Bool.eq_iff_iff]
    simp
    omega
  generalize decide (fx b ≠ 2047) = o at *
  go_enter Tryz.func82, Tryz.ntmps82
  go_wp2
  go_ret
  exact ⟨rfl, rfl⟩
theorem rcomplex_bad (a b : Nat) (w : World) (ha : a < 18446744073709551616) (hb : b < 18446744073709551616) (h : fx a = 2047 ∨ fx b = 2047) :
    Calls Tryz.prog 22 #[.complex .f64 a b] w (RetQE w .zero 1) := by
  have HA := Lib.hid (fun W => rfinite_any a W ha)
  have HB := Lib.hid (fun W => rfinite_any b W hb)
  obtain ⟨oa, hoa⟩ : ∃ o, decide (fx a ≠ 2047) = o := ⟨_, rfl⟩
  obtain ⟨ob, hob⟩ : ∃ o, decide (fx b ≠ 2047) = o := ⟨_, rfl⟩
  have HO := Lib.hid (show oa = false ∨ ob = false by
    rcases h with h | h
    · left; rw [← hoa, h]; rfl
    · right; rw [← hob, h]; rfl)
  have HOA := Lib.hid hoa
  have HOB := Lib.hid hob
  have HW := Lib.hid (fun W => rWhole_any 0 W (by omega) (by omega))
  clear ha hb h hoa hob
  go_enter Tryz.func22, Tryz.ntmps22
  go_wp2_with fail
  refine (HA.out _).mono ?_
  rintro e w1 ⟨rfl, rfl⟩
  rw [HOA.out]
  cases oa
  · go_wp2_with fail
    refine (HW.out _).mono ?_
    rintro e W2 ⟨r, rfl, hr, hb2⟩
    obtain ⟨hc2, hf2, hz2⟩ := bcells hb2 (w.heap.size + 1) (by simp)
    obtain ⟨A1, n1, c1, p1, A2, n2, c2, p2, A3, n3, c3, a, b, d, rfl, -⟩ := hr.parts
    have hr' : IsQ W2 (.agg #[.bool p1, .slice A1 n1 c1, .bool p2, .slice A2 n2 c2, .slice A3 n3 c3]) .zero := hr
    clear hr
    go_wp2
    have NB : NumBox W2 w.heap.size := NumBox.of hc2 (by omega) (.nilQ (by simp [go_sem]) (by simp [go_sem]) (by simp [go_sem]) (by simp [go_sem]) (by simp [go_sem]))
    refine bodyPost_ret (v := .tuple #[.agg #[.bool p1, .slice A1 n1 c1, .bool p2, .slice A2 n2 c2, .slice A3 n3 c3], .int .i64 1]) (by simp [results, Tryz.results22]; exact run_loadQe NB _ _ _ _ _ _) rfl ?_
    exact RetQE.box (by (repeat (first | exact Below.refl _ _ | assumption | with_reducible refine Below.drew ?_ | with_reducible refine below_trans ?_ (below_alloc _ _) | with_reducible refine below_trans ?_ (below_drewN _ _) | with_reducible refine Below.setCell ?_ (by simp <;> omega) _ | refine below_trans ?_ (by assumption)))) (by omega) NB hr' _ _ _ _ _
  · obtain rfl : ob = false := by rcases HO.out with h | h <;> simp_all
    go_wp2_with fail
    refine (HB.out _).mono ?_
    rintro e w1 ⟨rfl, rfl⟩
    rw [HOB.out]
    go_wp2_with fail
    refine (HW.out _).mono ?_
    rintro e W2 ⟨r, rfl, hr, hb2⟩
    obtain ⟨hc2, hf2, hz2⟩ := bcells hb2 (w.heap.size + 1) (by simp)
    obtain ⟨A1, n1, c1, p1, A2, n2, c2, p2, A3, n3, c3, a, b, d, rfl, -⟩ := hr.parts
    have hr' : IsQ W2 (.agg #[.bool p1, .slice A1 n1 c1, .bool p2, .slice A2 n2 c2, .slice A3 n3 c3]) .zero := hr
    clear hr
    go_wp2
    have NB : NumBox W2 w.heap.size := NumBox.of hc2 (by omega) (.nilQ (by simp [go_sem]) (by simp [go_sem]) (by simp [go_sem]) (by simp [go_sem]) (by simp [go_sem]))
    refine bodyPost_ret (v := .tuple #[.agg #[.bool p1, .slice A1 n1 c1, .bool p2, .slice A2 n2 c2, .slice A3 n3 c3], .int .i64 1]) (by simp [results, Tryz.results22]; exact run_loadQe NB _ _ _ _ _ _) rfl ?_
    exact RetQE.box (by (repeat (first | exact Below.refl _ _ | assumption | with_reducible refine Below.drew ?_ | with_reducible refine below_trans ?_ (below_alloc _ _) | with_reducible refine below_trans ?_ (below_drewN _ _) | with_reducible refine Below.setCell ?_ (by simp <;> omega) _ | refine below_trans ?_ (by assumption)))) (by omega) NB hr' _ _ _ _ _
set_option maxHeartbeats 1000000 in
theorem rcomplex_good (a b : Nat) (w : World) (ha : a < 18446744073709551616) (hb : b < 18446744073709551616) (xa : fx a ≠ 2047) (xb : fx b ≠ 2047) :
    Calls Tryz.prog 22 #[.complex .f64 a b] w (RetQE w (cf a b) 0) := by
  have HA := Lib.hid (fun W => rfinite_any a W ha)
  have HB := Lib.hid (fun W => rfinite_any b W hb)
  have HOA := Lib.hid (show decide (fx a ≠ 2047) = true by simpa using xa)
  have HOB := Lib.hid (show decide (fx b ≠ 2047) = true by simpa using xb)
  have HDA := Lib.hid (fun W => rdyadic_any a W ha xa)
  have HDB := Lib.hid (fun W => rdyadic_any b W hb xb)
  have HI := Lib.hid (fun W => rIntOf_any 1 W (by omega) (by omega))
  have HM := Lib.hid (fun W v u (h : IsQ W v (dy b)) (h' : IsQ W u ci) => rMul_any v u (dy b) ci W h h' 67 1 (dy_sz b) ci_sz (by omega))
  have HAd := Lib.hid (fun W v u (h : IsQ W v (dy a)) (h' : IsQ W u ((dy b).mul ci)) => (show RetQ W ((dy a).add ((dy b).mul ci)) = RetQ W (cf a b) by rw [cf_dy]) ▸ rAdd_any v u (dy a) _ W h h' 67 69 (dy_sz a) ((dy_sz b).mul ci_sz) (by omega))
  clear ha hb xa xb
  go_enter Tryz.func22, Tryz.ntmps22
  go_wp2_with fail
  refine (HA.out _).mono ?_
  rintro e w1 ⟨rfl, rfl⟩
  rw [HOA.out]
  go_wp2_with fail
  refine (HB.out _).mono ?_
  rintro e w1 ⟨rfl, rfl⟩
  rw [HOB.out]
  go_wp2_with fail
  refine (HDA.out _).mono ?_
  rintro e w3 ⟨v3, rfl, hq3, hb3⟩
  have HQ3 := Lib.hid hq3
  have B3 := Lib.hid (below_trans (below_alloc w _) hb3)
  clear hq3
  obtain ⟨hc3, hf3, hz3⟩ := bcells hb3 (w.heap.size + 1) (by simp)
  have f0 : w3.cell? ⟨w.heap.size, 0, none⟩ = some (.bool false) := (hc3 _ 0 (by omega)).trans (by simp [go_sem])
  have y0 : w3.frozen? ⟨w.heap.size, 0, none⟩ = false := (hf3 _ 0 (by omega)).trans (by simp [go_sem])
  have f1 : w3.cell? ⟨w.heap.size, 1, none⟩ = some (.slice none 0 0) := (hc3 _ 1 (by omega)).trans (by simp [go_sem])
  have y1 : w3.frozen? ⟨w.heap.size, 1, none⟩ = false := (hf3 _ 1 (by omega)).trans (by simp [go_sem])
  have f2 : w3.cell? ⟨w.heap.size, 2, none⟩ = some (.bool false) := (hc3 _ 2 (by omega)).trans (by simp [go_sem])
  have y2 : w3.frozen? ⟨w.heap.size, 2, none⟩ = false := (hf3 _ 2 (by omega)).trans (by simp [go_sem])
  have f3 : w3.cell? ⟨w.heap.size, 3, none⟩ = some (.slice none 0 0) := (hc3 _ 3 (by omega)).trans (by simp [go_sem])
  have y3 : w3.frozen? ⟨w.heap.size, 3, none⟩ = false := (hf3 _ 3 (by omega)).trans (by simp [go_sem])
  have f4 : w3.cell? ⟨w.heap.size, 4, none⟩ = some (.slice none 0 0) := (hc3 _ 4 (by omega)).trans (by simp [go_sem])
  have y4 : w3.frozen? ⟨w.heap.size, 4, none⟩ = false := (hf3 _ 4 (by omega)).trans (by simp [go_sem])
  clear hc3 hf3 hb3
  go_wp2_with fail
  refine (HDB.out _).mono ?_
  rintro e w4 ⟨v4, rfl, hq4, hb4⟩
  have HQ4 := Lib.hid hq4
  have HB4 := Lib.hid hb4
  clear hq4 hb4
  go_wp2_with fail
  refine (HI.out _).mono ?_
  rintro e w5 ⟨v5, rfl, hr5, hb5⟩
  obtain ⟨A5, n5, c5, rfl, hn, -⟩ := hr5.parts
  clear hn
  have HR5 := Lib.hid hr5
  have HB5 := Lib.hid hb5
  clear hr5 hb5
  generalize decide ((1 : Int) < 0) = p5 at *
  go_wp2_with fail
  refine (HM.out _ _ _ ((HQ4.out.below HB5.out).below (below_alloc _ _)) (IsQ.mk ci_low (IsRI.zero _ _ _) (HR5.out.below (below_alloc _ _)) (oneNat _))).mono ?_
  rintro e w6 ⟨v6, rfl, hq6, hb6⟩
  have HQ6 := Lib.hid hq6
  have B46 := Lib.hid (below_trans (below_trans HB4.out HB5.out) (below_trans (below_alloc _ _) hb6))
  clear hq6 hb6
  go_wp2_with fail
  refine (HAd.out _ _ _ (HQ3.out.below B46.out) HQ6.out).mono ?_
  rintro e w7 ⟨v7, rfl, hq7, hb7⟩
  have B37 := Lib.hid (below_trans B46.out hb7)
  clear hb7
  obtain ⟨A1, n1, c1, p1, A2, n2, c2, p2, A3, n3, c3, qa, qb, qd, rfl, -⟩ := hq7.parts
  have HQ7 := Lib.hid (show IsQ w7 (.agg #[.bool p1, .slice A1 n1 c1, .bool p2, .slice A2 n2 c2, .slice A3 n3 c3]) (cf a b) from hq7)
  clear hq7
  obtain ⟨hc7, hf7, hz7⟩ := bcells B37.out (w.heap.size + 1) (by omega)
  replace f0 := (hc7 _ 0 (by omega)).trans f0
  replace y0 := (hf7 _ 0 (by omega)).trans y0
  replace f1 := (hc7 _ 1 (by omega)).trans f1
  replace y1 := (hf7 _ 1 (by omega)).trans y1
  replace f2 := (hc7 _ 2 (by omega)).trans f2
  replace y2 := (hf7 _ 2 (by omega)).trans y2
  replace f3 := (hc7 _ 3 (by omega)).trans f3
  replace y3 := (hf7 _ 3 (by omega)).trans y3
  replace f4 := (hc7 _ 4 (by omega)).trans f4
  replace y4 := (hf7 _ 4 (by omega)).trans y4
  clear hc7 hf7
  have NB : NumBox w7 w.heap.size := .nilQ f0 f1 f2 f3 f4
  go_wp2
  refine bodyPost_ret (v := .tuple #[.agg #[.bool p1, .slice A1 n1 c1, .bool p2, .slice A2 n2 c2, .slice A3 n3 c3], .int .i64 0]) (by simp [results, Tryz.results22]; exact run_loadQe NB _ _ _ _ _ _) rfl ?_
  exact RetQE.box (below_trans B3.out B37.out) (Nat.le_refl _) NB HQ7.out _ _ _ _ _
end Go.Proofs.YtphlmmjlpbledaaGreatDoor
