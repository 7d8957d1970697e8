
/- Words that the joined texts left out. -/
import Derived.Test.YtphlmmjlpbledaaGreatDoorK37
import Derived.Test.YtphlmmjlpbledaaGreatDoorK37
import Derived.Test.YtphlmmjlpbledaaGreatDoorK36
set_option linter.unusedSimpArgs false
set_option linter.unusedVariables false
namespace Go.Proofs.YtphlmmjlpbledaaGreatDoor
open Go.RowKit
set_option maxRecDepth 100000
theorem rIntNeg_any (v : Value) (z : Int) (w : World) (h : IsRI w v z) :
    Calls Tryz.prog 190 #[v] w (RetRI w (-z)) := by
  obtain ⟨A, n, c, rfl, hn, hs⟩ := h.parts
  have HS := Lib.hid (fun W (hb : Below w.heap.size w W) => rsigned_any (!decide (z < 0)) _ z.natAbs (-z) W (hs.below hb) (by rw [Int.natAbs_neg]) (by
    rw [Bool.eq_iff_iff]
    simp
    omega))
  clear hn hs h
  generalize decide (z < 0) = q at *
  go_enter Tryz.func190, Tryz.ntmps190
  go_wp2_with fail
  refine (HS.out _ (by (repeat (first | exact Below.refl _ _ | assumption | with_reducible refine Below.drew ?_ | with_reducible refine below_trans ?_ (below_alloc _ _) | with_reducible refine below_trans ?_ (below_drewN _ _) | with_reducible refine Below.setCell ?_ (by simp <;> omega) _ | refine below_trans ?_ (by assumption))))).mono ?_
  rintro e W2 ⟨r, rfl, hr, hb2⟩
  obtain ⟨hc2, hf2, hz2⟩ := bcells hb2 (w.heap.size + 2) (by simp)
  obtain ⟨A2, n2, c2, rfl, hn2, hs2⟩ := hr.parts
  clear hn2
  generalize decide (-z < 0) = q2 at *
  go_wp2
  have IB : IntBox W2 (w.heap.size + 1) := IntBox.of hc2 (by omega) (IntBox.mk' (A := none) (n := 0) (c := 0) (p := false) (by simp [go_sem]) (by simp [go_sem]))
  refine bodyPost_ret (v := .agg #[.bool q2, .slice A2 n2 c2]) (by simp [results, Tryz.results190]; exact run_loadRI IB _ _) rfl ?_
  exact RetRI.box (by (repeat (first | exact Below.refl _ _ | assumption | with_reducible refine Below.drew ?_ | with_reducible refine below_trans ?_ (below_alloc _ _) | with_reducible refine below_trans ?_ (below_drewN _ _) | with_reducible refine Below.setCell ?_ (by simp <;> omega) _ | refine below_trans ?_ (by assumption)))) (by omega) IB hr _ _
set_option maxHeartbeats 1000000 in
theorem rIntSub_any (v u : Value) (a b : Int) (w : World) (h : IsRI w v a) (h' : IsRI w u b) (sa : wl a.natAbs < 549755813888) (sb : wl b.natAbs < 549755813888) :
    Calls Tryz.prog 149 #[v, u] w (RetRI w (a - b)) := by
  obtain ⟨A1, n1, c1, rfl, hn1, hs1⟩ := h.parts
  obtain ⟨A2, n2, c2, rfl, hn2, hs2⟩ := h'.parts
  have HA := Lib.hid (fun W (hb : Below w.heap.size w W) => rIntNeg_any _ b W (h'.below hb))
  have HS := Lib.hid (fun v W (hb : Below w.heap.size w W) (hv : IsRI W v (-b)) => rIntAdd_any _ v a (-b) W (h.below hb) hv sa (by rw [Int.natAbs_neg]; exact sb))
  rw [show a + -b = a - b by omega] at HS
  clear h h' hs1 hs2 hn1 hn2 sa sb
  have hne1 : ¬ (w.heap.size + 1 + 1 = w.heap.size) := by omega
  have hne2 : ¬ (w.heap.size = w.heap.size + 1 + 1) := by omega
  generalize decide (a < 0) = p1 at *
  generalize decide (b < 0) = p2 at *
  go_enter Tryz.func149, Tryz.ntmps149
  go_wp2_with fail
  go_region_held3 (fun w' => w'.cell? ⟨w.heap.size, 0, none⟩ = some (.bool p1) ∧ w'.cell? ⟨w.heap.size, 1, none⟩ = some (.slice A1 n1 c1) ∧ w'.cell? ⟨w.heap.size + 1, 0, none⟩ = some (.bool p2) ∧ w'.cell? ⟨w.heap.size + 1, 1, none⟩ = some (.slice A2 n2 c2)) (go_keep) (first | (go_at_call 190; ((with_reducible refine (HA.out _ ?_).mono ?_); (exact (by (repeat (first | exact Below.refl _ _ | assumption | with_reducible refine Below.drew ?_ | with_reducible refine below_trans ?_ (below_alloc _ _) | with_reducible refine below_trans ?_ (below_drewN _ _) | with_reducible refine Below.setCell ?_ (by simp <;> omega) _ | refine below_trans ?_ (by assumption))))); (rintro e W6 ⟨r6, rfl, hr6, hb6⟩; obtain ⟨A6, n6, c6, rfl, hn6, -⟩ := hr6.parts; clear hn6; generalize hq6 : decide (-b < 0) = q6 at *; clear hq6; obtain ⟨hc6, hf6, hz6⟩ := bcells hb6 (w.heap.size + 3) (by simp <;> omega)))) | (go_at_call 125; ((with_reducible refine (HS.out _ _ ?_ (hr6.below (by (repeat (first | exact Below.refl _ _ | assumption | with_reducible refine Below.drew ?_ | with_reducible refine below_trans ?_ (below_alloc _ _) | with_reducible refine below_trans ?_ (below_drewN _ _) | with_reducible refine Below.setCell ?_ (by simp <;> omega) _ | refine below_trans ?_ (by assumption)))))).mono ?_); (exact (by (repeat (first | exact Below.refl _ _ | assumption | with_reducible refine Below.drew ?_ | with_reducible refine below_trans ?_ (below_alloc _ _) | with_reducible refine below_trans ?_ (below_drewN _ _) | with_reducible refine Below.setCell ?_ (by simp <;> omega) _ | refine below_trans ?_ (by assumption))))); (rintro e W7 ⟨r7, rfl, hr7, hb7⟩; obtain ⟨A7, n7, c7, rfl, hn7, -⟩ := hr7.parts; clear hn7; generalize hq7 : decide (a - b < 0) = q7 at *; clear hq7; have kb7 : Below W6.heap.size W6 W7 := (by (repeat (first | exact Below.refl _ _ | assumption | with_reducible refine Below.drew ?_ | with_reducible refine below_trans ?_ (below_alloc _ _) | with_reducible refine below_trans ?_ (below_drewN _ _) | with_reducible refine Below.setCell ?_ (by simp <;> omega) _ | refine below_trans ?_ (by assumption)))); clear hb7; obtain ⟨hc7, hf7, hz7⟩ := bcells kb7 (w.heap.size + 3) (by omega)))))
  go_wp2
  have B6 : Below w.heap.size w W6 := (by (repeat (first | exact Below.refl _ _ | assumption | with_reducible refine Below.drew ?_ | with_reducible refine below_trans ?_ (below_alloc _ _) | with_reducible refine below_trans ?_ (below_drewN _ _) | with_reducible refine Below.setCell ?_ (by simp <;> omega) _ | refine below_trans ?_ (by assumption))))
  have B7 := below_trans B6 kb7
  have IB : IntBox W7 (w.heap.size + 2) := IntBox.of hc7 (by omega) (IntBox.of hc6 (g := w.heap.size + 2) (by omega) (IntBox.mk' (A := none) (n := 0) (c := 0) (p := false) (by simp [go_sem]) (by simp [go_sem])))
  refine bodyPost_ret (v := .agg #[.bool q7, .slice A7 n7 c7]) (by simp [results, Tryz.results149]; exact run_loadRI IB _ _) rfl ?_
  exact RetRI.box B7 (by omega) IB hr7 _ _

set_option maxHeartbeats 2000000 in
theorem rMul_any (v u : Value) (x y : Cx) (w : World) (h : IsQ w v x) (h' : IsQ w u y) (m n : Nat) (hx : Sz x m) (hy : Sz y n) (hm : m + n + 1 < 549755813888) :
    Calls Tryz.prog 84 #[v, u] w (RetQ w (x.mul y)) := by
  obtain ⟨A1, n1, c1, p1, A1b, n1b, c1b, p1b, A1c, n1c, c1c, a1, b1, d1, rfl, hl1, hr1, hi1, hs1, hn1, hm1, hd1, hp1, hq1, -, -⟩ := h.parts
  obtain ⟨A2, n2, c2, p2, A2b, n2b, c2b, p2b, A2c, n2c, c2c, a2, b2, d2, rfl, hl2, hr2, hi2, hs2, hn2, hm2, hd2, hp2, hq2, -, -⟩ := h'.parts
  obtain ⟨s1, s3, s9⟩ := hx _ _ _ hl1
  obtain ⟨s2, s4, s10⟩ := hy _ _ _ hl2
  have e1 := wl_imul a1 a2
  have e2 := wl_imul b1 b2
  have e3 := wl_imul a1 b2
  have e4 := wl_imul b1 a2
  have e5 := wl_isub (a1 * a2) (b1 * b2)
  have e6 := wl_iadd (a1 * b2) (b1 * a2)
  have e7 : wl (d1 * d2) ≤ wl d1 + wl d2 := wl_mul _ _
  have g1 : wl a1.natAbs < 549755813888 := by omega
  have g2 : wl a2.natAbs < 549755813888 := by omega
  have g3 : wl b1.natAbs < 549755813888 := by omega
  have g4 : wl b2.natAbs < 549755813888 := by omega
  have g5 : wl (a1 * a2).natAbs < 549755813888 := by omega
  have g6 : wl (b1 * b2).natAbs < 549755813888 := by omega
  have g7 : wl (a1 * b2).natAbs < 549755813888 := by omega
  have g8 : wl (b1 * a2).natAbs < 549755813888 := by omega
  have g9 : wl d1 < 549755813888 := by omega
  have g10 : wl d2 < 549755813888 := by omega
  have ht := mul_terms hl1 hl2
  have HM := Lib.hid (fun v1 v2 v3 W (q1 : IsRI W v1 (a1 * a2 - b1 * b2)) (q2 : IsRI W v2 (a1 * b2 + b1 * a2)) (q3 : IsNat W v3 (d1 * d2)) => rMake_any v1 v2 v3 _ _ _ (x.mul y) W q1 q2 q3 (Nat.mul_pos hl1.pos hl2.pos) ht.1 ht.2 (by omega) (by omega) (by omega))
  have HR1 := Lib.hid hr1
  have HI1 := Lib.hid hi1
  have HD1 := Lib.hid hs1
  have HR2 := Lib.hid hr2
  have HI2 := Lib.hid hi2
  have HD2 := Lib.hid hs2
  clear hr1 hi1 hs1 hr2 hi2 hs2 hn1 hm1 hd1 hp1 hq1 hn2 hm2 hd2 hp2 hq2 e1 e2 e3 e4 e5 e6 e7 ht h h' hx hy hm s1 s2 s3 s4 s9 s10 hl1 hl2
  go_enter Tryz.func84, Tryz.ntmps84
  go_upto_region 1 with fail
  obtain ⟨W1, hW1⟩ : ∃ W1 : World, W1 = ((w.alloc (.cells #[.bool p1, .slice A1 n1 c1, .bool p1b, .slice A1b n1b c1b, .slice A1c n1c c1c] 35)).alloc (.cells #[.bool p2, .slice A2 n2 c2, .bool p2b, .slice A2b n2b c2b, .slice A2c n2c c2c] 35)).alloc (.cells #[.bool false, .slice none 0 0, .bool false, .slice none 0 0, .slice none 0 0] 35) := ⟨_, rfl⟩
  rw [← hW1]
  have B1 : Below w.heap.size w W1 := by rw [hW1]; exact (by (repeat (first | exact Below.refl _ _ | assumption | with_reducible refine Below.drew ?_ | with_reducible refine below_trans ?_ (below_alloc _ _) | with_reducible refine below_trans ?_ (below_drewN _ _) | with_reducible refine Below.setCell ?_ (by simp <;> omega) _ | refine below_trans ?_ (by assumption))))
  have X := boxes3 w (.cells #[.bool p1, .slice A1 n1 c1, .bool p1b, .slice A1b n1b c1b, .slice A1c n1c c1c] 35) (.cells #[.bool p2, .slice A2 n2 c2, .bool p2b, .slice A2b n2b c2b, .slice A2c n2c c2c] 35) (.cells #[.bool false, .slice none 0 0, .bool false, .slice none 0 0, .slice none 0 0] 35)
  rw [← hW1] at X
  obtain ⟨X0, z0, X1, z1, X2, z2⟩ := X
  clear hW1
  refine region_last [.val (kIs (.pointer (some ⟨w.heap.size, 0, none⟩))), .val (kIs (.agg #[.bool p1, .slice A1 n1 c1])), .val (kIs (.pointer (some ⟨w.heap.size + 1, 0, none⟩))), .val (kIs (.agg #[.bool p2, .slice A2 n2 c2])), .val (kRI (a1 * a2)), .val (kIs (.pointer (some ⟨w.heap.size, 2, none⟩))), .val (kIs (.agg #[.bool p1b, .slice A1b n1b c1b])), .val (kIs (.pointer (some ⟨w.heap.size + 1, 2, none⟩))), .val (kIs (.agg #[.bool p2b, .slice A2b n2b c2b])), .val (kRI (b1 * b2)), .val (kRI (a1 * a2 - b1 * b2)), .val (kIs (.pointer (some ⟨w.heap.size, 0, none⟩))), .val (kIs (.agg #[.bool p1, .slice A1 n1 c1])), .val (kIs (.pointer (some ⟨w.heap.size + 1, 2, none⟩))), .val (kIs (.agg #[.bool p2b, .slice A2b n2b c2b])), .val (kRI (a1 * b2)), .val (kIs (.pointer (some ⟨w.heap.size, 2, none⟩))), .val (kIs (.agg #[.bool p1b, .slice A1b n1b c1b])), .val (kIs (.pointer (some ⟨w.heap.size + 1, 0, none⟩))), .val (kIs (.agg #[.bool p2, .slice A2 n2 c2])), .val (kRI (b1 * a2)), .val (kRI (a1 * b2 + b1 * a2)), .val (kIs (.pointer (some ⟨w.heap.size, 4, none⟩))), .val (kIs (.slice A1c n1c c1c)), .val (kIs (.pointer (some ⟨w.heap.size + 1, 4, none⟩))), .val (kIs (.slice A2c n2c c2c)), .val (kNat (d1 * d2)), .val (kQ (x.mul y))]
    (by kernel_rfl) (by kernel_rfl) (by kernel_rfl) (by kernel_rfl) (by kernel_rfl) ⟨Stab.b (stab_is _), Stab.b (stab_is _), Stab.b (stab_is _), Stab.b (stab_is _), stabB_ri _, Stab.b (stab_is _), Stab.b (stab_is _), Stab.b (stab_is _), Stab.b (stab_is _), stabB_ri _, stabB_ri _, Stab.b (stab_is _), Stab.b (stab_is _), Stab.b (stab_is _), Stab.b (stab_is _), stabB_ri _, Stab.b (stab_is _), Stab.b (stab_is _), Stab.b (stab_is _), Stab.b (stab_is _), stabB_ri _, stabB_ri _, Stab.b (stab_is _), Stab.b (stab_is _), Stab.b (stab_is _), Stab.b (stab_is _), stabB_nat _, stabB_q _, trivial⟩ (by simp) (ol := _) rfl (by kernel_rfl) ⟨?_, ?_, ?_, ?_, ?_, ?_, ?_, ?_, ?_, ?_, ?_, ?_, ?_, ?_, ?_, ?_, ?_, ?_, ?_, ?_, ?_, ?_, ?_, ?_, ?_, ?_, ?_, ?_, trivial⟩ ?_
  · intro ts W hb hB hp; intro K hK; simp only [fillT, Nat.zero_add, Nat.reduceAdd, List.setIfInBounds_toArray, List.set_cons_zero, List.set_cons_succ] at hK ⊢; have HK := Lib.hid hK; clear hK hp; refine ⟨?_⟩; go_simp; exact HK.out _ _ rfl (Below.refl _ _)
  · intro ts W hb hB hp; have h0 : ts 0 = _ := hp 0 (by kernel_rfl); intro K hK; simp only [fillT, Nat.zero_add, Nat.reduceAdd, List.setIfInBounds_toArray, List.set_cons_zero, List.set_cons_succ, h0] at hK ⊢; have HK := Lib.hid hK; clear hK hp; obtain ⟨f0, f1, f2, f3, f4, -, -, -, -, -⟩ := bx5 ((hb.block _ z0).trans X0); refine ⟨?_⟩; go_simp; exact HK.out _ _ rfl (Below.refl _ _)
  · intro ts W hb hB hp; intro K hK; simp only [fillT, Nat.zero_add, Nat.reduceAdd, List.setIfInBounds_toArray, List.set_cons_zero, List.set_cons_succ] at hK ⊢; have HK := Lib.hid hK; clear hK hp; refine ⟨?_⟩; go_simp; exact HK.out _ _ rfl (Below.refl _ _)
  · intro ts W hb hB hp; have h2 : ts 2 = _ := hp 2 (by kernel_rfl); intro K hK; simp only [fillT, Nat.zero_add, Nat.reduceAdd, List.setIfInBounds_toArray, List.set_cons_zero, List.set_cons_succ, h2] at hK ⊢; have HK := Lib.hid hK; clear hK hp; obtain ⟨f0, f1, f2, f3, f4, -, -, -, -, -⟩ := bx5 ((hb.block _ z1).trans X1); refine ⟨?_⟩; go_simp; exact HK.out _ _ rfl (Below.refl _ _)
  · intro ts W hb hB hp; have h1 : ts 1 = _ := hp 1 (by kernel_rfl); have h3 : ts 3 = _ := hp 3 (by kernel_rfl); intro K hK; simp only [fillT, Nat.zero_add, Nat.reduceAdd, List.setIfInBounds_toArray, List.set_cons_zero, List.set_cons_succ, h1, h3] at hK ⊢; have HK := Lib.hid hK; clear hK hp; refine ⟨?_⟩; go_simp; refine (rIntMul_any _ _ _ _ W (HR1.out.below (below_trans B1 hb)) (HR2.out.below (below_trans B1 hb)) g1 g2).mono ?_; rintro e W9 ⟨r9, rfl, hr9, hb9⟩; exact HK.out _ _ hr9 hb9
  · intro ts W hb hB hp; intro K hK; simp only [fillT, Nat.zero_add, Nat.reduceAdd, List.setIfInBounds_toArray, List.set_cons_zero, List.set_cons_succ] at hK ⊢; have HK := Lib.hid hK; clear hK hp; refine ⟨?_⟩; go_simp; exact HK.out _ _ rfl (Below.refl _ _)
  · intro ts W hb hB hp; have h5 : ts 5 = _ := hp 5 (by kernel_rfl); intro K hK; simp only [fillT, Nat.zero_add, Nat.reduceAdd, List.setIfInBounds_toArray, List.set_cons_zero, List.set_cons_succ, h5] at hK ⊢; have HK := Lib.hid hK; clear hK hp; obtain ⟨f0, f1, f2, f3, f4, -, -, -, -, -⟩ := bx5 ((hb.block _ z0).trans X0); refine ⟨?_⟩; go_simp; exact HK.out _ _ rfl (Below.refl _ _)
  · intro ts W hb hB hp; intro K hK; simp only [fillT, Nat.zero_add, Nat.reduceAdd, List.setIfInBounds_toArray, List.set_cons_zero, List.set_cons_succ] at hK ⊢; have HK := Lib.hid hK; clear hK hp; refine ⟨?_⟩; go_simp; exact HK.out _ _ rfl (Below.refl _ _)
  · intro ts W hb hB hp; have h7 : ts 7 = _ := hp 7 (by kernel_rfl); intro K hK; simp only [fillT, Nat.zero_add, Nat.reduceAdd, List.setIfInBounds_toArray, List.set_cons_zero, List.set_cons_succ, h7] at hK ⊢; have HK := Lib.hid hK; clear hK hp; obtain ⟨f0, f1, f2, f3, f4, -, -, -, -, -⟩ := bx5 ((hb.block _ z1).trans X1); refine ⟨?_⟩; go_simp; exact HK.out _ _ rfl (Below.refl _ _)
  · intro ts W hb hB hp; have h6 : ts 6 = _ := hp 6 (by kernel_rfl); have h8 : ts 8 = _ := hp 8 (by kernel_rfl); intro K hK; simp only [fillT, Nat.zero_add, Nat.reduceAdd, List.setIfInBounds_toArray, List.set_cons_zero, List.set_cons_succ, h6, h8] at hK ⊢; have HK := Lib.hid hK; clear hK hp; refine ⟨?_⟩; go_simp; refine (rIntMul_any _ _ _ _ W (HI1.out.below (below_trans B1 hb)) (HI2.out.below (below_trans B1 hb)) g3 g4).mono ?_; rintro e W9 ⟨r9, rfl, hr9, hb9⟩; exact HK.out _ _ hr9 hb9
  · intro ts W hb hB hp; have h4 := hp 4 (by kernel_rfl); have h9 := hp 9 (by kernel_rfl); intro K hK; simp only [fillT, Nat.zero_add, Nat.reduceAdd, List.setIfInBounds_toArray, List.set_cons_zero, List.set_cons_succ] at hK ⊢; have HK := Lib.hid hK; clear hK hp; refine ⟨?_⟩; go_simp; refine (rIntSub_any _ _ _ _ W h4 h9 g5 g6).mono ?_; rintro e W9 ⟨r9, rfl, hr9, hb9⟩; exact HK.out _ _ hr9 hb9
  · intro ts W hb hB hp; intro K hK; simp only [fillT, Nat.zero_add, Nat.reduceAdd, List.setIfInBounds_toArray, List.set_cons_zero, List.set_cons_succ] at hK ⊢; have HK := Lib.hid hK; clear hK hp; refine ⟨?_⟩; go_simp; exact HK.out _ _ rfl (Below.refl _ _)
  · intro ts W hb hB hp; have h11 : ts 11 = _ := hp 11 (by kernel_rfl); intro K hK; simp only [fillT, Nat.zero_add, Nat.reduceAdd, List.setIfInBounds_toArray, List.set_cons_zero, List.set_cons_succ, h11] at hK ⊢; have HK := Lib.hid hK; clear hK hp; obtain ⟨f0, f1, f2, f3, f4, -, -, -, -, -⟩ := bx5 ((hb.block _ z0).trans X0); refine ⟨?_⟩; go_simp; exact HK.out _ _ rfl (Below.refl _ _)
  · intro ts W hb hB hp; intro K hK; simp only [fillT, Nat.zero_add, Nat.reduceAdd, List.setIfInBounds_toArray, List.set_cons_zero, List.set_cons_succ] at hK ⊢; have HK := Lib.hid hK; clear hK hp; refine ⟨?_⟩; go_simp; exact HK.out _ _ rfl (Below.refl _ _)
  · intro ts W hb hB hp; have h13 : ts 13 = _ := hp 13 (by kernel_rfl); intro K hK; simp only [fillT, Nat.zero_add, Nat.reduceAdd, List.setIfInBounds_toArray, List.set_cons_zero, List.set_cons_succ, h13] at hK ⊢; have HK := Lib.hid hK; clear hK hp; obtain ⟨f0, f1, f2, f3, f4, -, -, -, -, -⟩ := bx5 ((hb.block _ z1).trans X1); refine ⟨?_⟩; go_simp; exact HK.out _ _ rfl (Below.refl _ _)
  · intro ts W hb hB hp; have h12 : ts 12 = _ := hp 12 (by kernel_rfl); have h14 : ts 14 = _ := hp 14 (by kernel_rfl); intro K hK; simp only [fillT, Nat.zero_add, Nat.reduceAdd, List.setIfInBounds_toArray, List.set_cons_zero, List.set_cons_succ, h12, h14] at hK ⊢; have HK := Lib.hid hK; clear hK hp; refine ⟨?_⟩; go_simp; refine (rIntMul_any _ _ _ _ W (HR1.out.below (below_trans B1 hb)) (HI2.out.below (below_trans B1 hb)) g1 g4).mono ?_; rintro e W9 ⟨r9, rfl, hr9, hb9⟩; exact HK.out _ _ hr9 hb9
  · intro ts W hb hB hp; intro K hK; simp only [fillT, Nat.zero_add, Nat.reduceAdd, List.setIfInBounds_toArray, List.set_cons_zero, List.set_cons_succ] at hK ⊢; have HK := Lib.hid hK; clear hK hp; refine ⟨?_⟩; go_simp; exact HK.out _ _ rfl (Below.refl _ _)
  · intro ts W hb hB hp; have h16 : ts 16 = _ := hp 16 (by kernel_rfl); intro K hK; simp only [fillT, Nat.zero_add, Nat.reduceAdd, List.setIfInBounds_toArray, List.set_cons_zero, List.set_cons_succ, h16] at hK ⊢; have HK := Lib.hid hK; clear hK hp; obtain ⟨f0, f1, f2, f3, f4, -, -, -, -, -⟩ := bx5 ((hb.block _ z0).trans X0); refine ⟨?_⟩; go_simp; exact HK.out _ _ rfl (Below.refl _ _)
  · intro ts W hb hB hp; intro K hK; simp only [fillT, Nat.zero_add, Nat.reduceAdd, List.setIfInBounds_toArray, List.set_cons_zero, List.set_cons_succ] at hK ⊢; have HK := Lib.hid hK; clear hK hp; refine ⟨?_⟩; go_simp; exact HK.out _ _ rfl (Below.refl _ _)
  · intro ts W hb hB hp; have h18 : ts 18 = _ := hp 18 (by kernel_rfl); intro K hK; simp only [fillT, Nat.zero_add, Nat.reduceAdd, List.setIfInBounds_toArray, List.set_cons_zero, List.set_cons_succ, h18] at hK ⊢; have HK := Lib.hid hK; clear hK hp; obtain ⟨f0, f1, f2, f3, f4, -, -, -, -, -⟩ := bx5 ((hb.block _ z1).trans X1); refine ⟨?_⟩; go_simp; exact HK.out _ _ rfl (Below.refl _ _)
  · intro ts W hb hB hp; have h17 : ts 17 = _ := hp 17 (by kernel_rfl); have h19 : ts 19 = _ := hp 19 (by kernel_rfl); intro K hK; simp only [fillT, Nat.zero_add, Nat.reduceAdd, List.setIfInBounds_toArray, List.set_cons_zero, List.set_cons_succ, h17, h19] at hK ⊢; have HK := Lib.hid hK; clear hK hp; refine ⟨?_⟩; go_simp; refine (rIntMul_any _ _ _ _ W (HI1.out.below (below_trans B1 hb)) (HR2.out.below (below_trans B1 hb)) g3 g2).mono ?_; rintro e W9 ⟨r9, rfl, hr9, hb9⟩; exact HK.out _ _ hr9 hb9
  · intro ts W hb hB hp; have h15 := hp 15 (by kernel_rfl); have h20 := hp 20 (by kernel_rfl); intro K hK; simp only [fillT, Nat.zero_add, Nat.reduceAdd, List.setIfInBounds_toArray, List.set_cons_zero, List.set_cons_succ] at hK ⊢; have HK := Lib.hid hK; clear hK hp; refine ⟨?_⟩; go_simp; refine (rIntAdd_any _ _ _ _ W h15 h20 g7 g8).mono ?_; rintro e W9 ⟨r9, rfl, hr9, hb9⟩; exact HK.out _ _ hr9 hb9
  · intro ts W hb hB hp; intro K hK; simp only [fillT, Nat.zero_add, Nat.reduceAdd, List.setIfInBounds_toArray, List.set_cons_zero, List.set_cons_succ] at hK ⊢; have HK := Lib.hid hK; clear hK hp; refine ⟨?_⟩; go_simp; exact HK.out _ _ rfl (Below.refl _ _)
  · intro ts W hb hB hp; have h22 : ts 22 = _ := hp 22 (by kernel_rfl); intro K hK; simp only [fillT, Nat.zero_add, Nat.reduceAdd, List.setIfInBounds_toArray, List.set_cons_zero, List.set_cons_succ, h22] at hK ⊢; have HK := Lib.hid hK; clear hK hp; obtain ⟨f0, f1, f2, f3, f4, -, -, -, -, -⟩ := bx5 ((hb.block _ z0).trans X0); refine ⟨?_⟩; go_simp; exact HK.out _ _ rfl (Below.refl _ _)
  · intro ts W hb hB hp; intro K hK; simp only [fillT, Nat.zero_add, Nat.reduceAdd, List.setIfInBounds_toArray, List.set_cons_zero, List.set_cons_succ] at hK ⊢; have HK := Lib.hid hK; clear hK hp; refine ⟨?_⟩; go_simp; exact HK.out _ _ rfl (Below.refl _ _)
  · intro ts W hb hB hp; have h24 : ts 24 = _ := hp 24 (by kernel_rfl); intro K hK; simp only [fillT, Nat.zero_add, Nat.reduceAdd, List.setIfInBounds_toArray, List.set_cons_zero, List.set_cons_succ, h24] at hK ⊢; have HK := Lib.hid hK; clear hK hp; obtain ⟨f0, f1, f2, f3, f4, -, -, -, -, -⟩ := bx5 ((hb.block _ z1).trans X1); refine ⟨?_⟩; go_simp; exact HK.out _ _ rfl (Below.refl _ _)
  · intro ts W hb hB hp; have h23 : ts 23 = _ := hp 23 (by kernel_rfl); have h25 : ts 25 = _ := hp 25 (by kernel_rfl); intro K hK; simp only [fillT, Nat.zero_add, Nat.reduceAdd, List.setIfInBounds_toArray, List.set_cons_zero, List.set_cons_succ, h23, h25] at hK ⊢; have HK := Lib.hid hK; clear hK hp; refine ⟨?_⟩; go_simp; refine (rNatMul_any _ _ _ _ W (HD1.out.below (below_trans B1 hb)) (HD2.out.below (below_trans B1 hb)) g9 g10).mono ?_; rintro e W9 ⟨r9, rfl, hr9, hb9⟩; exact HK.out _ _ hr9 hb9
  · intro ts W hb hB hp; have h10 := hp 10 (by kernel_rfl); have h21 := hp 21 (by kernel_rfl); have h26 := hp 26 (by kernel_rfl); intro K hK; simp only [fillT, Nat.zero_add, Nat.reduceAdd, List.setIfInBounds_toArray, List.set_cons_zero, List.set_cons_succ] at hK ⊢; have HK := Lib.hid hK; clear hK hp; refine ⟨?_⟩; go_simp; refine (HM.out _ _ _ W h10 h21 h26).mono ?_; rintro e W9 ⟨r9, rfl, hr9, hb9⟩; exact HK.out _ _ hr9 hb9
  intro ts W2 hb2 hh hap K hK
  have hq : IsQ W2 (ts 27) (x.mul y) := hh 27 (by simp)
  obtain ⟨A9, n9, c9, p9, A9b, n9b, c9b, p9b, A9c, n9c, c9c, qa, qb, qd, hqe, -⟩ := hq.parts
  have Y0 := (hb2.block (w.heap.size + 2) (by omega)).trans X2
  have HK := Lib.hid hK
  clear hK
  simp only [fillT, Nat.zero_add, Nat.reduceAdd, List.setIfInBounds_toArray, List.set_cons_zero, List.set_cons_succ, hqe]
  rw [hqe] at hq
  clear hh hap hqe
  refine ⟨?_⟩
  refine wp_store_row _ _ _ rfl (w.heap.size + 2) _ rfl rfl _ _ Y0 (by kernel_rfl) rfl (by simp [Value.oneCell']) (HK.out _ _ ?_)
  have hput := putAt_setRow (cs := #[.bool p9, .slice A9 n9 c9, .bool p9b, .slice A9b n9b c9b, .slice A9c n9c c9c]) Y0
  have hext := hput.ext Y0 (by decide)
  have B2 := hput.below (below_trans B1 hb2) (by omega)
  generalize W2.setRow (w.heap.size + 2) #[.bool p9, .slice A9 n9 c9, .bool p9b, .slice A9b n9b c9b, .slice A9c n9c c9c] = W3 at *
  have h5 := hq.ext hext
  obtain ⟨f0, f1, f2, f3, f4, y0, y1, y2, y3, y4⟩ := bx5 hput.here
  clear hput hext hq Y0 HK
  go_wp2
  refine bodyPost_ret (v := .agg #[.bool p9, .slice A9 n9 c9, .bool p9b, .slice A9b n9b c9b, .slice A9c n9c c9c]) (by simp [results, Tryz.results84, go_sem, f0, f1, f2, f3, f4]) rfl ?_
  exact ⟨_, rfl, h5, B2⟩
end Go.Proofs.YtphlmmjlpbledaaGreatDoor
