/- The law NumOrder. -/
import Derived.Test.YtbanmapedkjjdaaGreatDoorG33
set_option linter.unusedSimpArgs false
set_option linter.unusedVariables false
namespace Go.Proofs.YtbanmapedkjjdaaGreatDoor
open Go.RowKit
set_option maxRecDepth 100000

set_option maxHeartbeats 8000000 in
theorem numOrder_walk (w : World) (a1 a2 a3 b1 b2 b3 c1 c2 c3 : Int) (hT : Tab w) (a10 : -9223372036854775808 ≤ a1) (a11 : a1 < 9223372036854775808) (a20 : -9223372036854775808 ≤ a2) (a21 : a2 < 9223372036854775808) (a30 : -9223372036854775808 ≤ a3) (a31 : a3 < 9223372036854775808) (b10 : -9223372036854775808 ≤ b1) (b11 : b1 < 9223372036854775808) (b20 : -9223372036854775808 ≤ b2) (b21 : b2 < 9223372036854775808) (b30 : -9223372036854775808 ≤ b3) (b31 : b3 < 9223372036854775808) (c10 : -9223372036854775808 ≤ c1) (c11 : c1 < 9223372036854775808) (c20 : -9223372036854775808 ≤ c2) (c21 : c2 < 9223372036854775808) (c30 : -9223372036854775808 ≤ c3) (c31 : c3 < 9223372036854775808) :
    Calls Tryz.prog 5 #[.agg #[.int .i64 a1, .int .i64 a2, .int .i64 a3], .agg #[.int .i64 b1, .int .i64 b2, .int .i64 b3], .agg #[.int .i64 c1, .int .i64 c2, .int .i64 c3]] w fun e w' => e = .returned (.bool true) ∧ Below w.heap.size w w' := by
  have sa := sz_of a10 a11 a20 a21 a30 a31
  have HOa := Lib.hid (fun W (hb : Below w.heap.size w W) => of_any a1 a2 a3 W a10 a11 a20 a21 a30 a31 (hT.below hb))
  clear a10 a11 a20 a21 a30 a31
  obtain ⟨xa, hxa⟩ : ∃ x, x = ofR a1 a2 a3 := ⟨_, rfl⟩
  rw [← hxa] at sa HOa
  clear hxa
  have sb := sz_of b10 b11 b20 b21 b30 b31
  have HOb := Lib.hid (fun W (hb : Below w.heap.size w W) => of_any b1 b2 b3 W b10 b11 b20 b21 b30 b31 (hT.below hb))
  clear b10 b11 b20 b21 b30 b31
  obtain ⟨xb, hxb⟩ : ∃ x, x = ofR b1 b2 b3 := ⟨_, rfl⟩
  rw [← hxb] at sb HOb
  clear hxb
  have sc := sz_of c10 c11 c20 c21 c30 c31
  have HOc := Lib.hid (fun W (hb : Below w.heap.size w W) => of_any c1 c2 c3 W c10 c11 c20 c21 c30 c31 (hT.below hb))
  clear c10 c11 c20 c21 c30 c31
  obtain ⟨xc, hxc⟩ : ∃ x, x = ofR c1 c2 c3 := ⟨_, rfl⟩
  rw [← hxc] at sc HOc
  clear hxc
  have HT := Lib.hid hT
  clear hT
  go_enter Tryz.func5, Tryz.ntmps5
  go_upto_region 1 with fail
  obtain ⟨W1, hW1⟩ : ∃ W1 : World, W1 = (((w.alloc (.cells #[.int .i64 a1, .int .i64 a2, .int .i64 a3] 43)).alloc (.cells #[.int .i64 b1, .int .i64 b2, .int .i64 b3] 43)).alloc (.cells #[.int .i64 c1, .int .i64 c2, .int .i64 c3] 43)) := ⟨_, rfl⟩
  rw [← hW1]
  have B1 : Below w.heap.size w W1 := by rw [hW1]; exact (by (repeat (first | exact Below.refl _ _ | assumption | with_reducible refine Below.drew ?_ | with_reducible refine below_trans ?_ (below_alloc _ _) | with_reducible refine below_trans ?_ (below_drewN _ _) | with_reducible refine Below.setCell ?_ (by simp <;> omega) _ | refine below_trans ?_ (by assumption))))
  have za : w.heap.size < W1.heap.size := by rw [hW1]; simp; omega
  have zb : w.heap.size + 1 < W1.heap.size := by rw [hW1]; simp
  have zc : w.heap.size + 1 + 1 < W1.heap.size := by rw [hW1]; simp
  have Xa : W1.heap[w.heap.size]? = some (.cells #[.int .i64 a1, .int .i64 a2, .int .i64 a3] 43 (0, 0)) := by rw [hW1, Below.heap_alloc _ _ _ (by simp; omega)]; exact heap_alloc2_old _ _ _
  have Xb : W1.heap[w.heap.size + 1]? = some (.cells #[.int .i64 b1, .int .i64 b2, .int .i64 b3] 43 (0, 0)) := by rw [hW1, Below.heap_alloc _ _ _ (by simp)]; exact heap_alloc2_new _ _ _
  have Xc : W1.heap[w.heap.size + 1 + 1]? = some (.cells #[.int .i64 c1, .int .i64 c2, .int .i64 c3] 43 (0, 0)) := by rw [hW1]; have := heap_alloc_new ((w.alloc (.cells #[.int .i64 a1, .int .i64 a2, .int .i64 a3] 43)).alloc (.cells #[.int .i64 b1, .int .i64 b2, .int .i64 b3] 43)) (.cells #[.int .i64 c1, .int .i64 c2, .int .i64 c3] 43 (0, 0)); simpa using this
  clear hW1
  refine region_lin [.val (kIs (.agg #[.int .i64 a1, .int .i64 a2, .int .i64 a3])), .val (kNum (xa)), .val (kIs (.agg #[.int .i64 b1, .int .i64 b2, .int .i64 b3])), .val (kNum (xb)), .val (kIs (.agg #[.int .i64 c1, .int .i64 c2, .int .i64 c3])), .val (kNum (xc)), .box 27 zNum, .box 27 zNum, .box 27 zNum, .put 6 1, .put 7 3, .put 8 5]
    (by kernel_rfl) (by kernel_rfl) (by kernel_rfl) (by kernel_rfl) (by kernel_rfl) ⟨stab_is _, stab_num _, stab_is _, stab_num _, stab_is _, stab_num _, trivial⟩ (by simp) ⟨?_, ?_, ?_, ?_, ?_, ?_, alloc_num, alloc_num, alloc_num, store_num _, store_num _, store_num _, trivial⟩ ?_
  · intro ts W hb hB hp
    intro K hK
    simp only [fillT, Nat.zero_add, Nat.reduceAdd, List.setIfInBounds_toArray, List.set_cons_zero, List.set_cons_succ] at hK ⊢
    refine ⟨?_⟩
    refine wp_load_row _ _ rfl (w.heap.size) rfl _ _ (0, 0) _ ((hb.block _ (za)).trans Xa) Tryz.underlying43 rfl (by kernel_rfl) ?_
    exact hK _ _ rfl (Below.refl _ _)
  · intro ts W hb hB hp
    have h0 : ts 0 = _ := hp 0 (by kernel_rfl)
    intro K hK
    simp only [fillT, Nat.zero_add, Nat.reduceAdd, List.setIfInBounds_toArray, List.set_cons_zero, List.set_cons_succ, h0] at hK ⊢
    have HK := Lib.hid hK
    clear hK hp
    refine ⟨?_⟩
    go_simp
    refine (HOa.out W (below_trans B1 hb)).mono ?_
    rintro e W9 ⟨r9, rfl, hr9, hb9⟩
    exact HK.out _ _ hr9 hb9
  · intro ts W hb hB hp
    intro K hK
    simp only [fillT, Nat.zero_add, Nat.reduceAdd, List.setIfInBounds_toArray, List.set_cons_zero, List.set_cons_succ] at hK ⊢
    refine ⟨?_⟩
    refine wp_load_row _ _ rfl (w.heap.size + 1) rfl _ _ (0, 0) _ ((hb.block _ (zb)).trans Xb) Tryz.underlying43 rfl (by kernel_rfl) ?_
    exact hK _ _ rfl (Below.refl _ _)
  · intro ts W hb hB hp
    have h2 : ts 2 = _ := hp 2 (by kernel_rfl)
    intro K hK
    simp only [fillT, Nat.zero_add, Nat.reduceAdd, List.setIfInBounds_toArray, List.set_cons_zero, List.set_cons_succ, h2] at hK ⊢
    have HK := Lib.hid hK
    clear hK hp
    refine ⟨?_⟩
    go_simp
    refine (HOb.out W (below_trans B1 hb)).mono ?_
    rintro e W9 ⟨r9, rfl, hr9, hb9⟩
    exact HK.out _ _ hr9 hb9
  · intro ts W hb hB hp
    intro K hK
    simp only [fillT, Nat.zero_add, Nat.reduceAdd, List.setIfInBounds_toArray, List.set_cons_zero, List.set_cons_succ] at hK ⊢
    refine ⟨?_⟩
    refine wp_load_row _ _ rfl (w.heap.size + 1 + 1) rfl _ _ (0, 0) _ ((hb.block _ (zc)).trans Xc) Tryz.underlying43 rfl (by kernel_rfl) ?_
    exact hK _ _ rfl (Below.refl _ _)
  · intro ts W hb hB hp
    have h4 : ts 4 = _ := hp 4 (by kernel_rfl)
    intro K hK
    simp only [fillT, Nat.zero_add, Nat.reduceAdd, List.setIfInBounds_toArray, List.set_cons_zero, List.set_cons_succ, h4] at hK ⊢
    have HK := Lib.hid hK
    clear hK hp
    refine ⟨?_⟩
    go_simp
    refine (HOc.out W (below_trans B1 hb)).mono ?_
    rintro e W9 ⟨r9, rfl, hr9, hb9⟩
    exact HK.out _ _ hr9 hb9
  intro ts W2 hb2 hh hap
  obtain ⟨g7, A7, n7, c7, p7, A7b, n7b, c7b, p7b, A7c, n7c, c7c, e6, lo7, z7, X7, N7⟩ := held_box (x := xa) (hh 6 (by simp)) rfl (hh 9 (by simp)) rfl (hh 1 (by simp)) rfl
  obtain ⟨g8, A8, n8, c8, p8, A8b, n8b, c8b, p8b, A8c, n8c, c8c, e7, lo8, z8, X8, N8⟩ := held_box (x := xb) (hh 7 (by simp)) rfl (hh 10 (by simp)) rfl (hh 3 (by simp)) rfl
  obtain ⟨g9, A9, n9, c9, p9, A9b, n9b, c9b, p9b, A9c, n9c, c9c, e8, lo9, z9, X9, N9⟩ := held_box (x := xc) (hh 8 (by simp)) rfl (hh 11 (by simp)) rfl (hh 5 (by simp)) rfl
  simp only [fillT, Nat.zero_add, Nat.reduceAdd, List.setIfInBounds_toArray, List.set_cons_zero, List.set_cons_succ, e6, e7, e8]
  clear hh hap e6 e7 e8
  generalize ts 0 = u0_W2 at *
  generalize ts 1 = u1_W2 at *
  generalize ts 2 = u2_W2 at *
  generalize ts 3 = u3_W2 at *
  generalize ts 4 = u4_W2 at *
  generalize ts 5 = u5_W2 at *
  clear ts
  have B2 := below_trans B1 hb2
  clear hb2 B1 za zb zc Xa Xb Xc lo7 lo8 lo9 HOa HOb HOc
  obtain ⟨n, hn⟩ : ∃ n, n = cmpC xa xb := ⟨_, rfl⟩
  obtain ⟨m, hm⟩ : ∃ m, m = cmpC xb xc := ⟨_, rfl⟩
  obtain ⟨l, hl⟩ : ∃ l, l = cmpC xa xc := ⟨_, rfl⟩
  obtain ⟨s, hs⟩ : ∃ s, s = sgnR xa.im := ⟨_, rfl⟩
  have n1 : -1 ≤ n ∧ n ≤ 1 := hn ▸ cmpC_bd xa xb
  have m1 : -1 ≤ m ∧ m ≤ 1 := hm ▸ cmpC_bd xb xc
  have l1 : -1 ≤ l ∧ l ≤ 1 := hl ▸ cmpC_bd xa xc
  have s1 : -1 ≤ s ∧ s ≤ 1 := by rw [hs]; rcases sgnR_cases xa.im with h | h | h <;> omega
  have tr : n ≤ 0 → m ≤ 0 → l ≤ 0 := by rw [hn, hm, hl]; exact cmpC_trans xa xb xc
  obtain ⟨n1, n2⟩ := n1
  obtain ⟨m1, m2⟩ := m1
  obtain ⟨l1, l2⟩ := l1
  obtain ⟨s1, s2⟩ := s1
  have K7 := Lib.hid X7
  have K8 := Lib.hid X8
  have K9 := Lib.hid X9
  have Cxy := Lib.hid (fun W (hb : Below W2.heap.size W2 W) => cmpN_any' _ _ xa xb W (N7.below hb) (N8.below hb) 2 2 sa sb (by omega))
  have Cyx := Lib.hid (fun W (hb : Below W2.heap.size W2 W) => cmpN_any' _ _ xb xa W (N8.below hb) (N7.below hb) 2 2 sb sa (by omega))
  have Cyz := Lib.hid (fun W (hb : Below W2.heap.size W2 W) => cmpN_any' _ _ xb xc W (N8.below hb) (N9.below hb) 2 2 sb sc (by omega))
  have Cxz := Lib.hid (fun W (hb : Below W2.heap.size W2 W) => cmpN_any' _ _ xa xc W (N7.below hb) (N9.below hb) 2 2 sa sc (by omega))
  have Sxy := Lib.hid (fun W (hb : Below W2.heap.size W2 W) => sameN_any _ _ xa xb W (N7.below hb) (N8.below hb) 2 sa sb (by omega))
  have Axz := Lib.hid (fun W (hb : Below W2.heap.size W2 W) => addN_any _ _ xa xc W (N7.below hb) (N9.below hb) 2 2 sa sc (by omega) (HT.out.below (below_trans B2 hb)))
  have Ayz := Lib.hid (fun W (hb : Below W2.heap.size W2 W) => addN_any _ _ xb xc W (N8.below hb) (N9.below hb) 2 2 sb sc (by omega) (HT.out.below (below_trans B2 hb)))
  have Czz := Lib.hid (fun W (v u : Value) (hv : IsNum W v (xa.add xc)) (hu : IsNum W u (xb.add xc)) => cmpN_any' v u _ _ W hv hu 5 5 (sa.add sc) (sb.add sc) (by omega))
  have Sd := Lib.hid (fun W (hb : Below W2.heap.size W2 W) => sideN_any _ xa W (N7.below hb))
  have Im := Lib.hid (fun W (hb : Below W2.heap.size W2 W) => imN_any _ xa W (N7.below hb) (HT.out.below (below_trans B2 hb)) 2 sa (by omega))
  have Ci := Lib.hid (fun W (v u : Value) (hv : IsNum W v xa.imag) (hu : IsNum W u (.int 0)) => cmpN_any' v u _ _ W hv hu 2 2 sa.imag (Sz.int (by simp [wl_zero]) (by omega)) (by omega))
  have Aw := Lib.hid (fun W (hb : Below W2.heap.size W2 W) => awake_any W (HT.out.below (below_trans B2 hb)))
  have hdec : decide (xa = xb) = (n == 0) := by
    rw [Bool.eq_iff_iff]
    simp only [decide_eq_true_eq, beq_iff_eq]
    rw [hn, cmpC_zero]
  rw [← hn] at Cxy
  rw [cmpC_swap, ← hn] at Cyx
  rw [← hm] at Cyz
  rw [← hl] at Cxz
  rw [hdec] at Sxy
  rw [cmpC_add, ← hn] at Czz
  rw [← hs] at Sd
  rw [cmpC_imag, ← hs] at Ci
  clear hn hm hl hs hdec N7 N8 N9 X7 X8 X9 sa sb sc
  obtain ⟨f0, f1, f2, f3, f4, -, -, -, -, -⟩ := bx5 K7.out
  obtain ⟨e0, e1, e2, e3, e4, -, -, -, -, -⟩ := bx5 K8.out
  go_wp2_with fail
  refine (Cxy.out W2 (Below.refl _ _)).mono ?_
  rintro e W3 ⟨rfl, hb3⟩
  have hb3' := Lib.hid hb3
  have X7 := (hb3.block g7 z7).trans K7.out
  have X8 := (hb3.block g8 z8).trans K8.out
  have X9 := (hb3.block g9 z9).trans K9.out
  replace z7 := Nat.lt_of_lt_of_le z7 hb3.size
  replace z8 := Nat.lt_of_lt_of_le z8 hb3.size
  replace z9 := Nat.lt_of_lt_of_le z9 hb3.size
  clear hb3 f0 f1 f2 f3 f4 e0 e1 e2 e3 e4 K7 K8 K9
  have K7 := Lib.hid X7
  have K8 := Lib.hid X8
  have K9 := Lib.hid X9
  clear X7 X8 X9
  go_upto_region 3 with fail
  refine region_lin (.val (kIs (.int .i64 n)) :: .val (kIs (.bool false)) :: .val (kIs (.bool false)) :: .val (kIs (.int .i64 n)) :: .val (kIs (.bool false)) :: .val (kIs (.bool false)) :: .val (kIs (.bool false)) :: .val (kIs (.agg #[.slice A8 n8 c8, .bool p8, .slice A8b n8b c8b, .bool p8b, .slice A8c n8c c8c])) :: .val (kIs (.agg #[.slice A7 n7 c7, .bool p7, .slice A7b n7b c7b, .bool p7b, .slice A7c n7c c7c])) :: .val (kIs (.int .i64 (-n))) :: .val (kIs (.int .i64 n)) :: .val (kIs (.int .i64 (-n))) :: .val (kIs (.bool false)) :: .val (kIs (.bool false)) :: .val (kIs (.bool false)) :: .val (kIs (.int .i64 n)) :: .val (kIs (.bool (n == 0))) :: .val (kIs (.agg #[.slice A7 n7 c7, .bool p7, .slice A7b n7b c7b, .bool p7b, .slice A7c n7c c7c])) :: .val (kIs (.agg #[.slice A8 n8 c8, .bool p8, .slice A8b n8b c8b, .bool p8b, .slice A8c n8c c8c])) :: .val (kIs (.bool (n == 0))) :: .val (kIs (.bool false)) :: .val (kIs (.bool false)) :: .val (kIs (.bool false)) :: .val (kIs (.agg #[.slice A7 n7 c7, .bool p7, .slice A7b n7b c7b, .bool p7b, .slice A7c n7c c7c])) :: .val (kIs (.agg #[.slice A9 n9 c9, .bool p9, .slice A9b n9b c9b, .bool p9b, .slice A9c n9c c9c])) :: .val (kNum (xa.add xc)) :: .val (kIs (.agg #[.slice A8 n8 c8, .bool p8, .slice A8b n8b c8b, .bool p8b, .slice A8c n8c c8c])) :: .val (kIs (.agg #[.slice A9 n9 c9, .bool p9, .slice A9b n9b c9b, .bool p9b, .slice A9c n9c c9c])) :: .val (kNum (xb.add xc)) :: .val (kIs (.int .i64 n)) :: .val (kIs (.int .i64 n)) :: .val (kIs (.bool false)) :: .val (kIs (.bool false)) :: [])
    (by kernel_rfl) (by kernel_rfl) (by kernel_rfl) (by kernel_rfl) (by kernel_rfl) ⟨Stab.b (stab_is _), Stab.b (stab_is _), Stab.b (stab_is _), Stab.b (stab_is _), Stab.b (stab_is _), Stab.b (stab_is _), Stab.b (stab_is _), Stab.b (stab_is _), Stab.b (stab_is _), Stab.b (stab_is _), Stab.b (stab_is _), Stab.b (stab_is _), Stab.b (stab_is _), Stab.b (stab_is _), Stab.b (stab_is _), Stab.b (stab_is _), Stab.b (stab_is _), Stab.b (stab_is _), Stab.b (stab_is _), Stab.b (stab_is _), Stab.b (stab_is _), Stab.b (stab_is _), Stab.b (stab_is _), Stab.b (stab_is _), Stab.b (stab_is _), Stab.b (stab_num _), Stab.b (stab_is _), Stab.b (stab_is _), Stab.b (stab_num _), Stab.b (stab_is _), Stab.b (stab_is _), Stab.b (stab_is _), Stab.b (stab_is _), trivial⟩ (by simp) ⟨?_, ?_, ?_, ?_, ?_, ?_, ?_, ?_, ?_, ?_, ?_, ?_, ?_, ?_, ?_, ?_, ?_, ?_, ?_, ?_, ?_, ?_, ?_, ?_, ?_, ?_, ?_, ?_, ?_, ?_, ?_, ?_, ?_, trivial⟩ ?_
  · intro ts W hb hB hp
    intro K hK
    simp only [fillT, Nat.zero_add, Nat.reduceAdd, List.setIfInBounds_toArray, List.set_cons_zero, List.set_cons_succ] at hK ⊢
    have HK := Lib.hid hK
    clear hK hp
    refine ⟨?_⟩
    go_simp
    exact HK.out _ _ rfl (Below.refl _ _)
  · intro ts W hb hB hp
    have h0 : ts 0 = _ := hp 0 (by kernel_rfl)
    intro K hK
    simp only [fillT, Nat.zero_add, Nat.reduceAdd, List.setIfInBounds_toArray, List.set_cons_zero, List.set_cons_succ, h0] at hK ⊢
    have HK := Lib.hid hK
    clear hK hp
    refine ⟨?_⟩
    go_simp
    exact HK.out _ _ (by simp [kIs] <;> omega) (Below.refl _ _)
  · intro ts W hb hB hp
    have h1 : ts 1 = _ := hp 1 (by kernel_rfl)
    intro K hK
    simp only [fillT, Nat.zero_add, Nat.reduceAdd, List.setIfInBounds_toArray, List.set_cons_zero, List.set_cons_succ, h1] at hK ⊢
    have HK := Lib.hid hK
    clear hK hp
    refine ⟨?_⟩
    go_simp
    exact HK.out _ _ rfl (Below.refl _ _)
  · intro ts W hb hB hp
    have h2 : ts 2 = _ := hp 2 (by kernel_rfl)
    refine Guarded.on h2 ?_
    clear h2
    intro K hK
    simp only [fillT, Nat.zero_add, Nat.reduceAdd, List.setIfInBounds_toArray, List.set_cons_zero, List.set_cons_succ] at hK ⊢
    have HK := Lib.hid hK
    clear hK hp
    refine ⟨?_⟩
    go_simp
    exact HK.out _ _ rfl (Below.refl _ _)
  · intro ts W hb hB hp
    have h3 : ts 3 = _ := hp 3 (by kernel_rfl)
    have h2 : ts 2 = _ := hp 2 (by kernel_rfl)
    refine Guarded.on h2 ?_
    clear h2
    intro K hK
    simp only [fillT, Nat.zero_add, Nat.reduceAdd, List.setIfInBounds_toArray, List.set_cons_zero, List.set_cons_succ, h3] at hK ⊢
    have HK := Lib.hid hK
    clear hK hp
    refine ⟨?_⟩
    go_simp
    exact HK.out _ _ (by simp [kIs] <;> omega) (Below.refl _ _)
  · intro ts W hb hB hp
    have h2 : ts 2 = _ := hp 2 (by kernel_rfl)
    have h4 : ts 4 = _ := hp 4 (by kernel_rfl)
    intro K hK
    simp only [fillT, Nat.zero_add, Nat.reduceAdd, List.setIfInBounds_toArray, List.set_cons_zero, List.set_cons_succ, h2, h4] at hK ⊢
    have HK := Lib.hid hK
    clear hK hp
    refine ⟨?_⟩
    go_simp
    exact HK.out _ _ rfl (Below.refl _ _)
  · intro ts W hb hB hp
    have h5 : ts 5 = _ := hp 5 (by kernel_rfl)
    intro K hK
    simp only [fillT, Nat.zero_add, Nat.reduceAdd, List.setIfInBounds_toArray, List.set_cons_zero, List.set_cons_succ, h5] at hK ⊢
    have HK := Lib.hid hK
    clear hK hp
    refine ⟨?_⟩
    go_simp
    exact HK.out _ _ rfl (Below.refl _ _)
  · intro ts W hb hB hp
    have h6 : ts 6 = _ := hp 6 (by kernel_rfl)
    refine Guarded.on h6 ?_
    clear h6
    intro K hK
    simp only [fillT, Nat.zero_add, Nat.reduceAdd, List.setIfInBounds_toArray, List.set_cons_zero, List.set_cons_succ] at hK ⊢
    refine ⟨?_⟩
    refine wp_load_row _ _ rfl (g8) rfl _ _ (0, 0) _ ((hb.block _ (z8)).trans K8.out) Tryz.underlying27 rfl (by kernel_rfl) ?_
    exact hK _ _ rfl (Below.refl _ _)
  · intro ts W hb hB hp
    have h6 : ts 6 = _ := hp 6 (by kernel_rfl)
    refine Guarded.on h6 ?_
    clear h6
    intro K hK
    simp only [fillT, Nat.zero_add, Nat.reduceAdd, List.setIfInBounds_toArray, List.set_cons_zero, List.set_cons_succ] at hK ⊢
    refine ⟨?_⟩
    refine wp_load_row _ _ rfl (g7) rfl _ _ (0, 0) _ ((hb.block _ (z7)).trans K7.out) Tryz.underlying27 rfl (by kernel_rfl) ?_
    exact hK _ _ rfl (Below.refl _ _)
  · intro ts W hb hB hp
    have h7 : ts 7 = _ := hp 7 (by kernel_rfl)
    have h8 : ts 8 = _ := hp 8 (by kernel_rfl)
    have h6 : ts 6 = _ := hp 6 (by kernel_rfl)
    refine Guarded.on h6 ?_
    clear h6
    intro K hK
    simp only [fillT, Nat.zero_add, Nat.reduceAdd, List.setIfInBounds_toArray, List.set_cons_zero, List.set_cons_succ, h7, h8] at hK ⊢
    have HK := Lib.hid hK
    clear hK hp
    refine ⟨?_⟩
    go_simp
    refine (Cyx.out W (below_trans hb3'.out hb)).mono ?_
    rintro e W9 ⟨rfl, hb9⟩
    exact HK.out _ _ rfl hb9
  · intro ts W hb hB hp
    have h6 : ts 6 = _ := hp 6 (by kernel_rfl)
    refine Guarded.on h6 ?_
    clear h6
    intro K hK
    simp only [fillT, Nat.zero_add, Nat.reduceAdd, List.setIfInBounds_toArray, List.set_cons_zero, List.set_cons_succ] at hK ⊢
    have HK := Lib.hid hK
    clear hK hp
    refine ⟨?_⟩
    go_simp
    exact HK.out _ _ rfl (Below.refl _ _)
  · intro ts W hb hB hp
    have h10 : ts 10 = _ := hp 10 (by kernel_rfl)
    have h6 : ts 6 = _ := hp 6 (by kernel_rfl)
    refine Guarded.on h6 ?_
    clear h6
    intro K hK
    simp only [fillT, Nat.zero_add, Nat.reduceAdd, List.setIfInBounds_toArray, List.set_cons_zero, List.set_cons_succ, h10] at hK ⊢
    have HK := Lib.hid hK
    clear hK hp
    refine ⟨?_⟩
    go_simp
    exact HK.out _ _ (by simp [kIs, IntKind.wrap_i64] <;> omega) (Below.refl _ _)
  · intro ts W hb hB hp
    have h9 : ts 9 = _ := hp 9 (by kernel_rfl)
    have h11 : ts 11 = _ := hp 11 (by kernel_rfl)
    have h6 : ts 6 = _ := hp 6 (by kernel_rfl)
    refine Guarded.on h6 ?_
    clear h6
    intro K hK
    simp only [fillT, Nat.zero_add, Nat.reduceAdd, List.setIfInBounds_toArray, List.set_cons_zero, List.set_cons_succ, h9, h11] at hK ⊢
    have HK := Lib.hid hK
    clear hK hp
    refine ⟨?_⟩
    go_simp
    exact HK.out _ _ (by simp [kIs] <;> omega) (Below.refl _ _)
  · intro ts W hb hB hp
    have h6 : ts 6 = _ := hp 6 (by kernel_rfl)
    have h12 : ts 12 = _ := hp 12 (by kernel_rfl)
    intro K hK
    simp only [fillT, Nat.zero_add, Nat.reduceAdd, List.setIfInBounds_toArray, List.set_cons_zero, List.set_cons_succ, h6, h12] at hK ⊢
    have HK := Lib.hid hK
    clear hK hp
    refine ⟨?_⟩
    go_simp
    exact HK.out _ _ rfl (Below.refl _ _)
  · intro ts W hb hB hp
    have h13 : ts 13 = _ := hp 13 (by kernel_rfl)
    intro K hK
    simp only [fillT, Nat.zero_add, Nat.reduceAdd, List.setIfInBounds_toArray, List.set_cons_zero, List.set_cons_succ, h13] at hK ⊢
    have HK := Lib.hid hK
    clear hK hp
    refine ⟨?_⟩
    go_simp
    exact HK.out _ _ rfl (Below.refl _ _)
  · intro ts W hb hB hp
    have h14 : ts 14 = _ := hp 14 (by kernel_rfl)
    refine Guarded.on h14 ?_
    clear h14
    intro K hK
    simp only [fillT, Nat.zero_add, Nat.reduceAdd, List.setIfInBounds_toArray, List.set_cons_zero, List.set_cons_succ] at hK ⊢
    have HK := Lib.hid hK
    clear hK hp
    refine ⟨?_⟩
    go_simp
    exact HK.out _ _ rfl (Below.refl _ _)
  · intro ts W hb hB hp
    have h15 : ts 15 = _ := hp 15 (by kernel_rfl)
    have h14 : ts 14 = _ := hp 14 (by kernel_rfl)
    refine Guarded.on h14 ?_
    clear h14
    intro K hK
    simp only [fillT, Nat.zero_add, Nat.reduceAdd, List.setIfInBounds_toArray, List.set_cons_zero, List.set_cons_succ, h15] at hK ⊢
    have HK := Lib.hid hK
    clear hK hp
    refine ⟨?_⟩
    go_simp
    exact HK.out _ _ rfl (Below.refl _ _)
  · intro ts W hb hB hp
    have h14 : ts 14 = _ := hp 14 (by kernel_rfl)
    refine Guarded.on h14 ?_
    clear h14
    intro K hK
    simp only [fillT, Nat.zero_add, Nat.reduceAdd, List.setIfInBounds_toArray, List.set_cons_zero, List.set_cons_succ] at hK ⊢
    refine ⟨?_⟩
    refine wp_load_row _ _ rfl (g7) rfl _ _ (0, 0) _ ((hb.block _ (z7)).trans K7.out) Tryz.underlying27 rfl (by kernel_rfl) ?_
    exact hK _ _ rfl (Below.refl _ _)
  · intro ts W hb hB hp
    have h14 : ts 14 = _ := hp 14 (by kernel_rfl)
    refine Guarded.on h14 ?_
    clear h14
    intro K hK
    simp only [fillT, Nat.zero_add, Nat.reduceAdd, List.setIfInBounds_toArray, List.set_cons_zero, List.set_cons_succ] at hK ⊢
    refine ⟨?_⟩
    refine wp_load_row _ _ rfl (g8) rfl _ _ (0, 0) _ ((hb.block _ (z8)).trans K8.out) Tryz.underlying27 rfl (by kernel_rfl) ?_
    exact hK _ _ rfl (Below.refl _ _)
  · intro ts W hb hB hp
    have h17 : ts 17 = _ := hp 17 (by kernel_rfl)
    have h18 : ts 18 = _ := hp 18 (by kernel_rfl)
    have h14 : ts 14 = _ := hp 14 (by kernel_rfl)
    refine Guarded.on h14 ?_
    clear h14
    intro K hK
    simp only [fillT, Nat.zero_add, Nat.reduceAdd, List.setIfInBounds_toArray, List.set_cons_zero, List.set_cons_succ, h17, h18] at hK ⊢
    have HK := Lib.hid hK
    clear hK hp
    refine ⟨?_⟩
    go_simp
    refine (Sxy.out W (below_trans hb3'.out hb)).mono ?_
    rintro e W9 ⟨rfl, hb9⟩
    exact HK.out _ _ rfl hb9
  · intro ts W hb hB hp
    have h16 : ts 16 = _ := hp 16 (by kernel_rfl)
    have h19 : ts 19 = _ := hp 19 (by kernel_rfl)
    have h14 : ts 14 = _ := hp 14 (by kernel_rfl)
    refine Guarded.on h14 ?_
    clear h14
    intro K hK
    simp only [fillT, Nat.zero_add, Nat.reduceAdd, List.setIfInBounds_toArray, List.set_cons_zero, List.set_cons_succ, h16, h19] at hK ⊢
    have HK := Lib.hid hK
    clear hK hp
    refine ⟨?_⟩
    go_simp
    exact HK.out _ _ rfl (Below.refl _ _)
  · intro ts W hb hB hp
    have h14 : ts 14 = _ := hp 14 (by kernel_rfl)
    have h20 : ts 20 = _ := hp 20 (by kernel_rfl)
    intro K hK
    simp only [fillT, Nat.zero_add, Nat.reduceAdd, List.setIfInBounds_toArray, List.set_cons_zero, List.set_cons_succ, h14, h20] at hK ⊢
    have HK := Lib.hid hK
    clear hK hp
    refine ⟨?_⟩
    go_simp
    exact HK.out _ _ rfl (Below.refl _ _)
  · intro ts W hb hB hp
    have h21 : ts 21 = _ := hp 21 (by kernel_rfl)
    intro K hK
    simp only [fillT, Nat.zero_add, Nat.reduceAdd, List.setIfInBounds_toArray, List.set_cons_zero, List.set_cons_succ, h21] at hK ⊢
    have HK := Lib.hid hK
    clear hK hp
    refine ⟨?_⟩
    go_simp
    exact HK.out _ _ rfl (Below.refl _ _)
  · intro ts W hb hB hp
    have h22 : ts 22 = _ := hp 22 (by kernel_rfl)
    refine Guarded.on h22 ?_
    clear h22
    intro K hK
    simp only [fillT, Nat.zero_add, Nat.reduceAdd, List.setIfInBounds_toArray, List.set_cons_zero, List.set_cons_succ] at hK ⊢
    refine ⟨?_⟩
    refine wp_load_row _ _ rfl (g7) rfl _ _ (0, 0) _ ((hb.block _ (z7)).trans K7.out) Tryz.underlying27 rfl (by kernel_rfl) ?_
    exact hK _ _ rfl (Below.refl _ _)
  · intro ts W hb hB hp
    have h22 : ts 22 = _ := hp 22 (by kernel_rfl)
    refine Guarded.on h22 ?_
    clear h22
    intro K hK
    simp only [fillT, Nat.zero_add, Nat.reduceAdd, List.setIfInBounds_toArray, List.set_cons_zero, List.set_cons_succ] at hK ⊢
    refine ⟨?_⟩
    refine wp_load_row _ _ rfl (g9) rfl _ _ (0, 0) _ ((hb.block _ (z9)).trans K9.out) Tryz.underlying27 rfl (by kernel_rfl) ?_
    exact hK _ _ rfl (Below.refl _ _)
  · intro ts W hb hB hp
    have h23 : ts 23 = _ := hp 23 (by kernel_rfl)
    have h24 : ts 24 = _ := hp 24 (by kernel_rfl)
    have h22 : ts 22 = _ := hp 22 (by kernel_rfl)
    refine Guarded.on h22 ?_
    clear h22
    intro K hK
    simp only [fillT, Nat.zero_add, Nat.reduceAdd, List.setIfInBounds_toArray, List.set_cons_zero, List.set_cons_succ, h23, h24] at hK ⊢
    have HK := Lib.hid hK
    clear hK hp
    refine ⟨?_⟩
    go_simp
    refine (Axz.out W (below_trans hb3'.out hb)).mono ?_
    rintro e W9 ⟨r9, rfl, hr9, hb9⟩
    exact HK.out _ _ hr9 hb9
  · intro ts W hb hB hp
    have h22 : ts 22 = _ := hp 22 (by kernel_rfl)
    refine Guarded.on h22 ?_
    clear h22
    intro K hK
    simp only [fillT, Nat.zero_add, Nat.reduceAdd, List.setIfInBounds_toArray, List.set_cons_zero, List.set_cons_succ] at hK ⊢
    refine ⟨?_⟩
    refine wp_load_row _ _ rfl (g8) rfl _ _ (0, 0) _ ((hb.block _ (z8)).trans K8.out) Tryz.underlying27 rfl (by kernel_rfl) ?_
    exact hK _ _ rfl (Below.refl _ _)
  · intro ts W hb hB hp
    have h22 : ts 22 = _ := hp 22 (by kernel_rfl)
    refine Guarded.on h22 ?_
    clear h22
    intro K hK
    simp only [fillT, Nat.zero_add, Nat.reduceAdd, List.setIfInBounds_toArray, List.set_cons_zero, List.set_cons_succ] at hK ⊢
    refine ⟨?_⟩
    refine wp_load_row _ _ rfl (g9) rfl _ _ (0, 0) _ ((hb.block _ (z9)).trans K9.out) Tryz.underlying27 rfl (by kernel_rfl) ?_
    exact hK _ _ rfl (Below.refl _ _)
  · intro ts W hb hB hp
    have h26 : ts 26 = _ := hp 26 (by kernel_rfl)
    have h27 : ts 27 = _ := hp 27 (by kernel_rfl)
    have h22 : ts 22 = _ := hp 22 (by kernel_rfl)
    refine Guarded.on h22 ?_
    clear h22
    intro K hK
    simp only [fillT, Nat.zero_add, Nat.reduceAdd, List.setIfInBounds_toArray, List.set_cons_zero, List.set_cons_succ, h26, h27] at hK ⊢
    have HK := Lib.hid hK
    clear hK hp
    refine ⟨?_⟩
    go_simp
    refine (Ayz.out W (below_trans hb3'.out hb)).mono ?_
    rintro e W9 ⟨r9, rfl, hr9, hb9⟩
    exact HK.out _ _ hr9 hb9
  · intro ts W hb hB hp
    have h25 : IsNum W (ts 25) (xa.add xc) := hp 25 (by kernel_rfl)
    have h28 : IsNum W (ts 28) (xb.add xc) := hp 28 (by kernel_rfl)
    have h22 : ts 22 = _ := hp 22 (by kernel_rfl)
    refine Guarded.on h22 ?_
    clear h22
    intro K hK
    simp only [fillT, Nat.zero_add, Nat.reduceAdd, List.setIfInBounds_toArray, List.set_cons_zero, List.set_cons_succ] at hK ⊢
    have HK := Lib.hid hK
    clear hK hp
    refine ⟨?_⟩
    go_simp
    refine (Czz.out W (ts 25) (ts 28) h25 h28).mono ?_
    rintro e W9 ⟨rfl, hb9⟩
    exact HK.out _ _ rfl hb9
  · intro ts W hb hB hp
    have h22 : ts 22 = _ := hp 22 (by kernel_rfl)
    refine Guarded.on h22 ?_
    clear h22
    intro K hK
    simp only [fillT, Nat.zero_add, Nat.reduceAdd, List.setIfInBounds_toArray, List.set_cons_zero, List.set_cons_succ] at hK ⊢
    have HK := Lib.hid hK
    clear hK hp
    refine ⟨?_⟩
    go_simp
    exact HK.out _ _ rfl (Below.refl _ _)
  · intro ts W hb hB hp
    have h29 : ts 29 = _ := hp 29 (by kernel_rfl)
    have h30 : ts 30 = _ := hp 30 (by kernel_rfl)
    have h22 : ts 22 = _ := hp 22 (by kernel_rfl)
    refine Guarded.on h22 ?_
    clear h22
    intro K hK
    simp only [fillT, Nat.zero_add, Nat.reduceAdd, List.setIfInBounds_toArray, List.set_cons_zero, List.set_cons_succ, h29, h30] at hK ⊢
    have HK := Lib.hid hK
    clear hK hp
    refine ⟨?_⟩
    go_simp
    exact HK.out _ _ (by simp [kIs] <;> omega) (Below.refl _ _)
  · intro ts W hb hB hp
    have h22 : ts 22 = _ := hp 22 (by kernel_rfl)
    have h31 : ts 31 = _ := hp 31 (by kernel_rfl)
    intro K hK
    simp only [fillT, Nat.zero_add, Nat.reduceAdd, List.setIfInBounds_toArray, List.set_cons_zero, List.set_cons_succ, h22, h31] at hK ⊢
    have HK := Lib.hid hK
    clear hK hp
    refine ⟨?_⟩
    go_simp
    exact HK.out _ _ rfl (Below.refl _ _)
  intro ts W4 hb4 hh hap
  have e32 := held_is (hh 32 (by simp)) rfl
  simp only [fillT, Nat.zero_add, Nat.reduceAdd, List.setIfInBounds_toArray, List.set_cons_zero, List.set_cons_succ, e32]
  clear hh hap e32
  generalize ts 0 = u0_W4 at *
  generalize ts 1 = u1_W4 at *
  generalize ts 2 = u2_W4 at *
  generalize ts 3 = u3_W4 at *
  generalize ts 4 = u4_W4 at *
  generalize ts 5 = u5_W4 at *
  generalize ts 6 = u6_W4 at *
  generalize ts 7 = u7_W4 at *
  generalize ts 8 = u8_W4 at *
  generalize ts 9 = u9_W4 at *
  generalize ts 10 = u10_W4 at *
  generalize ts 11 = u11_W4 at *
  generalize ts 12 = u12_W4 at *
  generalize ts 13 = u13_W4 at *
  generalize ts 14 = u14_W4 at *
  generalize ts 15 = u15_W4 at *
  generalize ts 16 = u16_W4 at *
  generalize ts 17 = u17_W4 at *
  generalize ts 18 = u18_W4 at *
  generalize ts 19 = u19_W4 at *
  generalize ts 20 = u20_W4 at *
  generalize ts 21 = u21_W4 at *
  generalize ts 22 = u22_W4 at *
  generalize ts 23 = u23_W4 at *
  generalize ts 24 = u24_W4 at *
  generalize ts 25 = u25_W4 at *
  generalize ts 26 = u26_W4 at *
  generalize ts 27 = u27_W4 at *
  generalize ts 28 = u28_W4 at *
  generalize ts 29 = u29_W4 at *
  generalize ts 30 = u30_W4 at *
  generalize ts 31 = u31_W4 at *
  clear ts
  have hb4' := Lib.hid (below_trans hb3'.out hb4)
  replace K7 := Lib.hid ((hb4.block g7 z7).trans K7.out)
  replace K8 := Lib.hid ((hb4.block g8 z8).trans K8.out)
  replace K9 := Lib.hid ((hb4.block g9 z9).trans K9.out)
  replace z7 := Nat.lt_of_lt_of_le z7 hb4.size
  replace z8 := Nat.lt_of_lt_of_le z8 hb4.size
  replace z9 := Nat.lt_of_lt_of_le z9 hb4.size
  clear hb4
  by_cases hn0 : n ≤ 0
  · by_cases hm0 : m ≤ 0
    · have hl0 : l ≤ 0 := tr hn0 hm0
      clear tr
      go_upto_region 5 with fail
      refine region_lin [.val (kIs (.agg #[.slice A7 n7 c7, .bool p7, .slice A7b n7b c7b, .bool p7b, .slice A7c n7c c7c])), .val (kIs (.agg #[.slice A8 n8 c8, .bool p8, .slice A8b n8b c8b, .bool p8b, .slice A8c n8c c8c])), .val (kIs (.int .i64 n)), .val (kIs (.bool true)), .val (kIs (.bool true)), .val (kIs (.agg #[.slice A8 n8 c8, .bool p8, .slice A8b n8b c8b, .bool p8b, .slice A8c n8c c8c])), .val (kIs (.agg #[.slice A9 n9 c9, .bool p9, .slice A9b n9b c9b, .bool p9b, .slice A9c n9c c9c])), .val (kIs (.int .i64 m)), .val (kIs (.bool true)), .val (kIs (.bool true)), .val (kIs (.bool true)), .val (kIs (.agg #[.slice A7 n7 c7, .bool p7, .slice A7b n7b c7b, .bool p7b, .slice A7c n7c c7c])), .val (kIs (.agg #[.slice A9 n9 c9, .bool p9, .slice A9b n9b c9b, .bool p9b, .slice A9c n9c c9c])), .val (kIs (.int .i64 l)), .val (kIs (.bool false)), .val (kIs (.bool false))]
        (by kernel_rfl) (by kernel_rfl) (by kernel_rfl) (by kernel_rfl) (by kernel_rfl) ⟨Stab.b (stab_is _), Stab.b (stab_is _), Stab.b (stab_is _), Stab.b (stab_is _), Stab.b (stab_is _), Stab.b (stab_is _), Stab.b (stab_is _), Stab.b (stab_is _), Stab.b (stab_is _), Stab.b (stab_is _), Stab.b (stab_is _), Stab.b (stab_is _), Stab.b (stab_is _), Stab.b (stab_is _), Stab.b (stab_is _), Stab.b (stab_is _), trivial⟩ (by simp) ⟨?_, ?_, ?_, ?_, ?_, ?_, ?_, ?_, ?_, ?_, ?_, ?_, ?_, ?_, ?_, ?_, trivial⟩ ?_
      · intro ts W hb hB hp
        intro K hK
        simp only [fillT, Nat.zero_add, Nat.reduceAdd, List.setIfInBounds_toArray, List.set_cons_zero, List.set_cons_succ] at hK ⊢
        refine ⟨?_⟩
        refine wp_load_row _ _ rfl (g7) rfl _ _ (0, 0) _ ((hb.block _ (z7)).trans K7.out) Tryz.underlying27 rfl (by kernel_rfl) ?_
        exact hK _ _ rfl (Below.refl _ _)
      · intro ts W hb hB hp
        intro K hK
        simp only [fillT, Nat.zero_add, Nat.reduceAdd, List.setIfInBounds_toArray, List.set_cons_zero, List.set_cons_succ] at hK ⊢
        refine ⟨?_⟩
        refine wp_load_row _ _ rfl (g8) rfl _ _ (0, 0) _ ((hb.block _ (z8)).trans K8.out) Tryz.underlying27 rfl (by kernel_rfl) ?_
        exact hK _ _ rfl (Below.refl _ _)
      · intro ts W hb hB hp
        have h0 : ts 0 = _ := hp 0 (by kernel_rfl)
        have h1 : ts 1 = _ := hp 1 (by kernel_rfl)
        intro K hK
        simp only [fillT, Nat.zero_add, Nat.reduceAdd, List.setIfInBounds_toArray, List.set_cons_zero, List.set_cons_succ, h0, h1] at hK ⊢
        have HK := Lib.hid hK
        clear hK hp
        refine ⟨?_⟩
        go_simp
        refine (Cxy.out W (below_trans hb4'.out hb)).mono ?_
        rintro e W9 ⟨rfl, hb9⟩
        exact HK.out _ _ rfl hb9
      · intro ts W hb hB hp
        have h2 : ts 2 = _ := hp 2 (by kernel_rfl)
        intro K hK
        simp only [fillT, Nat.zero_add, Nat.reduceAdd, List.setIfInBounds_toArray, List.set_cons_zero, List.set_cons_succ, h2] at hK ⊢
        have HK := Lib.hid hK
        clear hK hp
        refine ⟨?_⟩
        go_simp
        exact HK.out _ _ (by simp [kIs] <;> omega) (Below.refl _ _)
      · intro ts W hb hB hp
        have h3 : ts 3 = _ := hp 3 (by kernel_rfl)
        intro K hK
        simp only [fillT, Nat.zero_add, Nat.reduceAdd, List.setIfInBounds_toArray, List.set_cons_zero, List.set_cons_succ, h3] at hK ⊢
        have HK := Lib.hid hK
        clear hK hp
        refine ⟨?_⟩
        go_simp
        exact HK.out _ _ rfl (Below.refl _ _)
      · intro ts W hb hB hp
        have h4 : ts 4 = _ := hp 4 (by kernel_rfl)
        refine Guarded.on h4 ?_
        clear h4
        intro K hK
        simp only [fillT, Nat.zero_add, Nat.reduceAdd, List.setIfInBounds_toArray, List.set_cons_zero, List.set_cons_succ] at hK ⊢
        refine ⟨?_⟩
        refine wp_load_row _ _ rfl (g8) rfl _ _ (0, 0) _ ((hb.block _ (z8)).trans K8.out) Tryz.underlying27 rfl (by kernel_rfl) ?_
        exact hK _ _ rfl (Below.refl _ _)
      · intro ts W hb hB hp
        have h4 : ts 4 = _ := hp 4 (by kernel_rfl)
        refine Guarded.on h4 ?_
        clear h4
        intro K hK
        simp only [fillT, Nat.zero_add, Nat.reduceAdd, List.setIfInBounds_toArray, List.set_cons_zero, List.set_cons_succ] at hK ⊢
        refine ⟨?_⟩
        refine wp_load_row _ _ rfl (g9) rfl _ _ (0, 0) _ ((hb.block _ (z9)).trans K9.out) Tryz.underlying27 rfl (by kernel_rfl) ?_
        exact hK _ _ rfl (Below.refl _ _)
      · intro ts W hb hB hp
        have h5 : ts 5 = _ := hp 5 (by kernel_rfl)
        have h6 : ts 6 = _ := hp 6 (by kernel_rfl)
        have h4 : ts 4 = _ := hp 4 (by kernel_rfl)
        refine Guarded.on h4 ?_
        clear h4
        intro K hK
        simp only [fillT, Nat.zero_add, Nat.reduceAdd, List.setIfInBounds_toArray, List.set_cons_zero, List.set_cons_succ, h5, h6] at hK ⊢
        have HK := Lib.hid hK
        clear hK hp
        refine ⟨?_⟩
        go_simp
        refine (Cyz.out W (below_trans hb4'.out hb)).mono ?_
        rintro e W9 ⟨rfl, hb9⟩
        exact HK.out _ _ rfl hb9
      · intro ts W hb hB hp
        have h7 : ts 7 = _ := hp 7 (by kernel_rfl)
        have h4 : ts 4 = _ := hp 4 (by kernel_rfl)
        refine Guarded.on h4 ?_
        clear h4
        intro K hK
        simp only [fillT, Nat.zero_add, Nat.reduceAdd, List.setIfInBounds_toArray, List.set_cons_zero, List.set_cons_succ, h7] at hK ⊢
        have HK := Lib.hid hK
        clear hK hp
        refine ⟨?_⟩
        go_simp
        exact HK.out _ _ (by simp [kIs] <;> omega) (Below.refl _ _)
      · intro ts W hb hB hp
        have h4 : ts 4 = _ := hp 4 (by kernel_rfl)
        have h8 : ts 8 = _ := hp 8 (by kernel_rfl)
        intro K hK
        simp only [fillT, Nat.zero_add, Nat.reduceAdd, List.setIfInBounds_toArray, List.set_cons_zero, List.set_cons_succ, h4, h8] at hK ⊢
        have HK := Lib.hid hK
        clear hK hp
        refine ⟨?_⟩
        go_simp
        exact HK.out _ _ rfl (Below.refl _ _)
      · intro ts W hb hB hp
        have h9 : ts 9 = _ := hp 9 (by kernel_rfl)
        intro K hK
        simp only [fillT, Nat.zero_add, Nat.reduceAdd, List.setIfInBounds_toArray, List.set_cons_zero, List.set_cons_succ, h9] at hK ⊢
        have HK := Lib.hid hK
        clear hK hp
        refine ⟨?_⟩
        go_simp
        exact HK.out _ _ rfl (Below.refl _ _)
      · intro ts W hb hB hp
        have h10 : ts 10 = _ := hp 10 (by kernel_rfl)
        refine Guarded.on h10 ?_
        clear h10
        intro K hK
        simp only [fillT, Nat.zero_add, Nat.reduceAdd, List.setIfInBounds_toArray, List.set_cons_zero, List.set_cons_succ] at hK ⊢
        refine ⟨?_⟩
        refine wp_load_row _ _ rfl (g7) rfl _ _ (0, 0) _ ((hb.block _ (z7)).trans K7.out) Tryz.underlying27 rfl (by kernel_rfl) ?_
        exact hK _ _ rfl (Below.refl _ _)
      · intro ts W hb hB hp
        have h10 : ts 10 = _ := hp 10 (by kernel_rfl)
        refine Guarded.on h10 ?_
        clear h10
        intro K hK
        simp only [fillT, Nat.zero_add, Nat.reduceAdd, List.setIfInBounds_toArray, List.set_cons_zero, List.set_cons_succ] at hK ⊢
        refine ⟨?_⟩
        refine wp_load_row _ _ rfl (g9) rfl _ _ (0, 0) _ ((hb.block _ (z9)).trans K9.out) Tryz.underlying27 rfl (by kernel_rfl) ?_
        exact hK _ _ rfl (Below.refl _ _)
      · intro ts W hb hB hp
        have h11 : ts 11 = _ := hp 11 (by kernel_rfl)
        have h12 : ts 12 = _ := hp 12 (by kernel_rfl)
        have h10 : ts 10 = _ := hp 10 (by kernel_rfl)
        refine Guarded.on h10 ?_
        clear h10
        intro K hK
        simp only [fillT, Nat.zero_add, Nat.reduceAdd, List.setIfInBounds_toArray, List.set_cons_zero, List.set_cons_succ, h11, h12] at hK ⊢
        have HK := Lib.hid hK
        clear hK hp
        refine ⟨?_⟩
        go_simp
        refine (Cxz.out W (below_trans hb4'.out hb)).mono ?_
        rintro e W9 ⟨rfl, hb9⟩
        exact HK.out _ _ rfl hb9
      · intro ts W hb hB hp
        have h13 : ts 13 = _ := hp 13 (by kernel_rfl)
        have h10 : ts 10 = _ := hp 10 (by kernel_rfl)
        refine Guarded.on h10 ?_
        clear h10
        intro K hK
        simp only [fillT, Nat.zero_add, Nat.reduceAdd, List.setIfInBounds_toArray, List.set_cons_zero, List.set_cons_succ, h13] at hK ⊢
        have HK := Lib.hid hK
        clear hK hp
        refine ⟨?_⟩
        go_simp
        exact HK.out _ _ (by simp [kIs] <;> omega) (Below.refl _ _)
      · intro ts W hb hB hp
        have h10 : ts 10 = _ := hp 10 (by kernel_rfl)
        have h14 : ts 14 = _ := hp 14 (by kernel_rfl)
        intro K hK
        simp only [fillT, Nat.zero_add, Nat.reduceAdd, List.setIfInBounds_toArray, List.set_cons_zero, List.set_cons_succ, h10, h14] at hK ⊢
        have HK := Lib.hid hK
        clear hK hp
        refine ⟨?_⟩
        go_simp
        exact HK.out _ _ rfl (Below.refl _ _)
      intro ts W5 hb5 hh hap
      have e15 := held_is (hh 15 (by simp)) rfl
      simp only [fillT, Nat.zero_add, Nat.reduceAdd, List.setIfInBounds_toArray, List.set_cons_zero, List.set_cons_succ, e15]
      clear hh hap e15
      generalize ts 0 = u0_W5 at *
      generalize ts 1 = u1_W5 at *
      generalize ts 2 = u2_W5 at *
      generalize ts 3 = u3_W5 at *
      generalize ts 4 = u4_W5 at *
      generalize ts 5 = u5_W5 at *
      generalize ts 6 = u6_W5 at *
      generalize ts 7 = u7_W5 at *
      generalize ts 8 = u8_W5 at *
      generalize ts 9 = u9_W5 at *
      generalize ts 10 = u10_W5 at *
      generalize ts 11 = u11_W5 at *
      generalize ts 12 = u12_W5 at *
      generalize ts 13 = u13_W5 at *
      generalize ts 14 = u14_W5 at *
      clear ts
      have hb5' := Lib.hid (below_trans hb4'.out hb5)
      replace K7 := Lib.hid ((hb5.block g7 z7).trans K7.out)
      replace K8 := Lib.hid ((hb5.block g8 z8).trans K8.out)
      replace K9 := Lib.hid ((hb5.block g9 z9).trans K9.out)
      replace z7 := Nat.lt_of_lt_of_le z7 hb5.size
      replace z8 := Nat.lt_of_lt_of_le z8 hb5.size
      replace z9 := Nat.lt_of_lt_of_le z9 hb5.size
      clear hb5
      go_upto_region 7 with fail
      refine region_lin [.val (kIs (.agg #[.slice A7 n7 c7, .bool p7, .slice A7b n7b c7b, .bool p7b, .slice A7c n7c c7c])), .val (kIs (.int .i64 s)), .val (kIs (.agg #[.slice A7 n7 c7, .bool p7, .slice A7b n7b c7b, .bool p7b, .slice A7c n7c c7c])), .val (kNum (xa.imag)), .val (kNum (.int 0)), .val (kIs (.int .i64 s)), .val (kIs (.bool true)), .val (kIs (.bool true)), .val (kIs (.bool true)), .val (kIs (.bool true)), .val (kIs (.bool true))]
        (by kernel_rfl) (by kernel_rfl) (by kernel_rfl) (by kernel_rfl) (by kernel_rfl) ⟨Stab.b (stab_is _), Stab.b (stab_is _), Stab.b (stab_is _), Stab.b (stab_num _), Stab.b (stab_num _), Stab.b (stab_is _), Stab.b (stab_is _), Stab.b (stab_is _), Stab.b (stab_is _), Stab.b (stab_is _), Stab.b (stab_is _), trivial⟩ (by simp) ⟨?_, ?_, ?_, ?_, ?_, ?_, ?_, ?_, ?_, ?_, ?_, trivial⟩ ?_
      · intro ts W hb hB hp
        intro K hK
        simp only [fillT, Nat.zero_add, Nat.reduceAdd, List.setIfInBounds_toArray, List.set_cons_zero, List.set_cons_succ] at hK ⊢
        refine ⟨?_⟩
        refine wp_load_row _ _ rfl (g7) rfl _ _ (0, 0) _ ((hb.block _ (z7)).trans K7.out) Tryz.underlying27 rfl (by kernel_rfl) ?_
        exact hK _ _ rfl (Below.refl _ _)
      · intro ts W hb hB hp
        have h0 : ts 0 = _ := hp 0 (by kernel_rfl)
        intro K hK
        simp only [fillT, Nat.zero_add, Nat.reduceAdd, List.setIfInBounds_toArray, List.set_cons_zero, List.set_cons_succ, h0] at hK ⊢
        have HK := Lib.hid hK
        clear hK hp
        refine ⟨?_⟩
        go_simp
        refine (Sd.out W (below_trans hb5'.out hb)).mono ?_
        rintro e W9 ⟨rfl, hb9⟩
        exact HK.out _ _ rfl hb9
      · intro ts W hb hB hp
        intro K hK
        simp only [fillT, Nat.zero_add, Nat.reduceAdd, List.setIfInBounds_toArray, List.set_cons_zero, List.set_cons_succ] at hK ⊢
        refine ⟨?_⟩
        refine wp_load_row _ _ rfl (g7) rfl _ _ (0, 0) _ ((hb.block _ (z7)).trans K7.out) Tryz.underlying27 rfl (by kernel_rfl) ?_
        exact hK _ _ rfl (Below.refl _ _)
      · intro ts W hb hB hp
        have h2 : ts 2 = _ := hp 2 (by kernel_rfl)
        intro K hK
        simp only [fillT, Nat.zero_add, Nat.reduceAdd, List.setIfInBounds_toArray, List.set_cons_zero, List.set_cons_succ, h2] at hK ⊢
        have HK := Lib.hid hK
        clear hK hp
        refine ⟨?_⟩
        go_simp
        refine (Im.out W (below_trans hb5'.out hb)).mono ?_
        rintro e W9 ⟨r9, rfl, hr9, hb9⟩
        exact HK.out _ _ hr9 hb9
      · intro ts W hb hB hp
        intro K hK
        simp only [fillT, Nat.zero_add, Nat.reduceAdd, List.setIfInBounds_toArray, List.set_cons_zero, List.set_cons_succ] at hK ⊢
        have HK := Lib.hid hK
        clear hK hp
        refine ⟨?_⟩
        go_simp
        refine (int_any 0 W (by omega) (by omega)).mono ?_
        rintro e W9 ⟨r9, rfl, hr9, hb9⟩
        exact HK.out _ _ hr9 hb9
      · intro ts W hb hB hp
        have h3 : IsNum W (ts 3) (xa.imag) := hp 3 (by kernel_rfl)
        have h4 : IsNum W (ts 4) (.int 0) := hp 4 (by kernel_rfl)
        intro K hK
        simp only [fillT, Nat.zero_add, Nat.reduceAdd, List.setIfInBounds_toArray, List.set_cons_zero, List.set_cons_succ] at hK ⊢
        have HK := Lib.hid hK
        clear hK hp
        refine ⟨?_⟩
        go_simp
        refine (Ci.out W (ts 3) (ts 4) h3 h4).mono ?_
        rintro e W9 ⟨rfl, hb9⟩
        exact HK.out _ _ rfl hb9
      · intro ts W hb hB hp
        have h1 : ts 1 = _ := hp 1 (by kernel_rfl)
        have h5 : ts 5 = _ := hp 5 (by kernel_rfl)
        intro K hK
        simp only [fillT, Nat.zero_add, Nat.reduceAdd, List.setIfInBounds_toArray, List.set_cons_zero, List.set_cons_succ, h1, h5] at hK ⊢
        have HK := Lib.hid hK
        clear hK hp
        refine ⟨?_⟩
        go_simp
        exact HK.out _ _ rfl (Below.refl _ _)
      · intro ts W hb hB hp
        have h6 : ts 6 = _ := hp 6 (by kernel_rfl)
        intro K hK
        simp only [fillT, Nat.zero_add, Nat.reduceAdd, List.setIfInBounds_toArray, List.set_cons_zero, List.set_cons_succ, h6] at hK ⊢
        have HK := Lib.hid hK
        clear hK hp
        refine ⟨?_⟩
        go_simp
        exact HK.out _ _ rfl (Below.refl _ _)
      · intro ts W hb hB hp
        have h7 : ts 7 = _ := hp 7 (by kernel_rfl)
        refine Guarded.on h7 ?_
        clear h7
        intro K hK
        simp only [fillT, Nat.zero_add, Nat.reduceAdd, List.setIfInBounds_toArray, List.set_cons_zero, List.set_cons_succ] at hK ⊢
        have HK := Lib.hid hK
        clear hK hp
        refine ⟨?_⟩
        go_simp
        refine (Aw.out W (below_trans hb5'.out hb)).mono ?_
        rintro e W9 ⟨rfl, hb9⟩
        exact HK.out _ _ rfl hb9
      · intro ts W hb hB hp
        have h7 : ts 7 = _ := hp 7 (by kernel_rfl)
        have h8 : ts 8 = _ := hp 8 (by kernel_rfl)
        intro K hK
        simp only [fillT, Nat.zero_add, Nat.reduceAdd, List.setIfInBounds_toArray, List.set_cons_zero, List.set_cons_succ, h7, h8] at hK ⊢
        have HK := Lib.hid hK
        clear hK hp
        refine ⟨?_⟩
        go_simp
        exact HK.out _ _ rfl (Below.refl _ _)
      · intro ts W hb hB hp
        have h9 : ts 9 = _ := hp 9 (by kernel_rfl)
        intro K hK
        simp only [fillT, Nat.zero_add, Nat.reduceAdd, List.setIfInBounds_toArray, List.set_cons_zero, List.set_cons_succ, h9] at hK ⊢
        have HK := Lib.hid hK
        clear hK hp
        refine ⟨?_⟩
        go_simp
        exact HK.out _ _ rfl (Below.refl _ _)
      intro ts W6 hb6 hh hap
      have e10 := held_is (hh 10 (by simp)) rfl
      simp only [fillT, Nat.zero_add, Nat.reduceAdd, List.setIfInBounds_toArray, List.set_cons_zero, List.set_cons_succ, e10]
      clear hh hap e10
      generalize ts 0 = u0_W6 at *
      generalize ts 1 = u1_W6 at *
      generalize ts 2 = u2_W6 at *
      generalize ts 3 = u3_W6 at *
      generalize ts 4 = u4_W6 at *
      generalize ts 5 = u5_W6 at *
      generalize ts 6 = u6_W6 at *
      generalize ts 7 = u7_W6 at *
      generalize ts 8 = u8_W6 at *
      generalize ts 9 = u9_W6 at *
      clear ts
      have B6 := Lib.hid (below_trans B2 (below_trans hb5'.out hb6))
      clear hb6 B2
      go_wp2
      go_ret
      exact ⟨rfl, B6.out⟩
    · clear tr
      go_upto_region 5 with fail
      refine region_lin [.val (kIs (.agg #[.slice A7 n7 c7, .bool p7, .slice A7b n7b c7b, .bool p7b, .slice A7c n7c c7c])), .val (kIs (.agg #[.slice A8 n8 c8, .bool p8, .slice A8b n8b c8b, .bool p8b, .slice A8c n8c c8c])), .val (kIs (.int .i64 n)), .val (kIs (.bool true)), .val (kIs (.bool true)), .val (kIs (.agg #[.slice A8 n8 c8, .bool p8, .slice A8b n8b c8b, .bool p8b, .slice A8c n8c c8c])), .val (kIs (.agg #[.slice A9 n9 c9, .bool p9, .slice A9b n9b c9b, .bool p9b, .slice A9c n9c c9c])), .val (kIs (.int .i64 m)), .val (kIs (.bool false)), .val (kIs (.bool false)), .val (kIs (.bool false)), .val (kIs (undef)), .val (kIs (undef)), .val (kIs (undef)), .val (kIs (undef)), .val (kIs (.bool false))]
        (by kernel_rfl) (by kernel_rfl) (by kernel_rfl) (by kernel_rfl) (by kernel_rfl) ⟨Stab.b (stab_is _), Stab.b (stab_is _), Stab.b (stab_is _), Stab.b (stab_is _), Stab.b (stab_is _), Stab.b (stab_is _), Stab.b (stab_is _), Stab.b (stab_is _), Stab.b (stab_is _), Stab.b (stab_is _), Stab.b (stab_is _), Stab.b (stab_is _), Stab.b (stab_is _), Stab.b (stab_is _), Stab.b (stab_is _), Stab.b (stab_is _), trivial⟩ (by simp) ⟨?_, ?_, ?_, ?_, ?_, ?_, ?_, ?_, ?_, ?_, ?_, ?_, ?_, ?_, ?_, ?_, trivial⟩ ?_
      · intro ts W hb hB hp
        intro K hK
        simp only [fillT, Nat.zero_add, Nat.reduceAdd, List.setIfInBounds_toArray, List.set_cons_zero, List.set_cons_succ] at hK ⊢
        refine ⟨?_⟩
        refine wp_load_row _ _ rfl (g7) rfl _ _ (0, 0) _ ((hb.block _ (z7)).trans K7.out) Tryz.underlying27 rfl (by kernel_rfl) ?_
        exact hK _ _ rfl (Below.refl _ _)
      · intro ts W hb hB hp
        intro K hK
        simp only [fillT, Nat.zero_add, Nat.reduceAdd, List.setIfInBounds_toArray, List.set_cons_zero, List.set_cons_succ] at hK ⊢
        refine ⟨?_⟩
        refine wp_load_row _ _ rfl (g8) rfl _ _ (0, 0) _ ((hb.block _ (z8)).trans K8.out) Tryz.underlying27 rfl (by kernel_rfl) ?_
        exact hK _ _ rfl (Below.refl _ _)
      · intro ts W hb hB hp
        have h0 : ts 0 = _ := hp 0 (by kernel_rfl)
        have h1 : ts 1 = _ := hp 1 (by kernel_rfl)
        intro K hK
        simp only [fillT, Nat.zero_add, Nat.reduceAdd, List.setIfInBounds_toArray, List.set_cons_zero, List.set_cons_succ, h0, h1] at hK ⊢
        have HK := Lib.hid hK
        clear hK hp
        refine ⟨?_⟩
        go_simp
        refine (Cxy.out W (below_trans hb4'.out hb)).mono ?_
        rintro e W9 ⟨rfl, hb9⟩
        exact HK.out _ _ rfl hb9
      · intro ts W hb hB hp
        have h2 : ts 2 = _ := hp 2 (by kernel_rfl)
        intro K hK
        simp only [fillT, Nat.zero_add, Nat.reduceAdd, List.setIfInBounds_toArray, List.set_cons_zero, List.set_cons_succ, h2] at hK ⊢
        have HK := Lib.hid hK
        clear hK hp
        refine ⟨?_⟩
        go_simp
        exact HK.out _ _ (by simp [kIs] <;> omega) (Below.refl _ _)
      · intro ts W hb hB hp
        have h3 : ts 3 = _ := hp 3 (by kernel_rfl)
        intro K hK
        simp only [fillT, Nat.zero_add, Nat.reduceAdd, List.setIfInBounds_toArray, List.set_cons_zero, List.set_cons_succ, h3] at hK ⊢
        have HK := Lib.hid hK
        clear hK hp
        refine ⟨?_⟩
        go_simp
        exact HK.out _ _ rfl (Below.refl _ _)
      · intro ts W hb hB hp
        have h4 : ts 4 = _ := hp 4 (by kernel_rfl)
        refine Guarded.on h4 ?_
        clear h4
        intro K hK
        simp only [fillT, Nat.zero_add, Nat.reduceAdd, List.setIfInBounds_toArray, List.set_cons_zero, List.set_cons_succ] at hK ⊢
        refine ⟨?_⟩
        refine wp_load_row _ _ rfl (g8) rfl _ _ (0, 0) _ ((hb.block _ (z8)).trans K8.out) Tryz.underlying27 rfl (by kernel_rfl) ?_
        exact hK _ _ rfl (Below.refl _ _)
      · intro ts W hb hB hp
        have h4 : ts 4 = _ := hp 4 (by kernel_rfl)
        refine Guarded.on h4 ?_
        clear h4
        intro K hK
        simp only [fillT, Nat.zero_add, Nat.reduceAdd, List.setIfInBounds_toArray, List.set_cons_zero, List.set_cons_succ] at hK ⊢
        refine ⟨?_⟩
        refine wp_load_row _ _ rfl (g9) rfl _ _ (0, 0) _ ((hb.block _ (z9)).trans K9.out) Tryz.underlying27 rfl (by kernel_rfl) ?_
        exact hK _ _ rfl (Below.refl _ _)
      · intro ts W hb hB hp
        have h5 : ts 5 = _ := hp 5 (by kernel_rfl)
        have h6 : ts 6 = _ := hp 6 (by kernel_rfl)
        have h4 : ts 4 = _ := hp 4 (by kernel_rfl)
        refine Guarded.on h4 ?_
        clear h4
        intro K hK
        simp only [fillT, Nat.zero_add, Nat.reduceAdd, List.setIfInBounds_toArray, List.set_cons_zero, List.set_cons_succ, h5, h6] at hK ⊢
        have HK := Lib.hid hK
        clear hK hp
        refine ⟨?_⟩
        go_simp
        refine (Cyz.out W (below_trans hb4'.out hb)).mono ?_
        rintro e W9 ⟨rfl, hb9⟩
        exact HK.out _ _ rfl hb9
      · intro ts W hb hB hp
        have h7 : ts 7 = _ := hp 7 (by kernel_rfl)
        have h4 : ts 4 = _ := hp 4 (by kernel_rfl)
        refine Guarded.on h4 ?_
        clear h4
        intro K hK
        simp only [fillT, Nat.zero_add, Nat.reduceAdd, List.setIfInBounds_toArray, List.set_cons_zero, List.set_cons_succ, h7] at hK ⊢
        have HK := Lib.hid hK
        clear hK hp
        refine ⟨?_⟩
        go_simp
        exact HK.out _ _ (by simp [kIs] <;> omega) (Below.refl _ _)
      · intro ts W hb hB hp
        have h4 : ts 4 = _ := hp 4 (by kernel_rfl)
        have h8 : ts 8 = _ := hp 8 (by kernel_rfl)
        intro K hK
        simp only [fillT, Nat.zero_add, Nat.reduceAdd, List.setIfInBounds_toArray, List.set_cons_zero, List.set_cons_succ, h4, h8] at hK ⊢
        have HK := Lib.hid hK
        clear hK hp
        refine ⟨?_⟩
        go_simp
        exact HK.out _ _ rfl (Below.refl _ _)
      · intro ts W hb hB hp
        have h9 : ts 9 = _ := hp 9 (by kernel_rfl)
        intro K hK
        simp only [fillT, Nat.zero_add, Nat.reduceAdd, List.setIfInBounds_toArray, List.set_cons_zero, List.set_cons_succ, h9] at hK ⊢
        have HK := Lib.hid hK
        clear hK hp
        refine ⟨?_⟩
        go_simp
        exact HK.out _ _ rfl (Below.refl _ _)
      · intro ts W hb hB hp
        have h10 : ts 10 = _ := hp 10 (by kernel_rfl)
        exact Guarded.off h10 (by decide) rfl
      · intro ts W hb hB hp
        have h10 : ts 10 = _ := hp 10 (by kernel_rfl)
        exact Guarded.off h10 (by decide) rfl
      · intro ts W hb hB hp
        have h11 : ts 11 = _ := hp 11 (by kernel_rfl)
        have h12 : ts 12 = _ := hp 12 (by kernel_rfl)
        have h10 : ts 10 = _ := hp 10 (by kernel_rfl)
        exact Guarded.off h10 (by decide) rfl
      · intro ts W hb hB hp
        have h13 : ts 13 = _ := hp 13 (by kernel_rfl)
        have h10 : ts 10 = _ := hp 10 (by kernel_rfl)
        exact Guarded.off h10 (by decide) rfl
      · intro ts W hb hB hp
        have h10 : ts 10 = _ := hp 10 (by kernel_rfl)
        have h14 : ts 14 = _ := hp 14 (by kernel_rfl)
        intro K hK
        simp only [fillT, Nat.zero_add, Nat.reduceAdd, List.setIfInBounds_toArray, List.set_cons_zero, List.set_cons_succ, h10, h14] at hK ⊢
        have HK := Lib.hid hK
        clear hK hp
        refine ⟨?_⟩
        go_simp
        exact HK.out _ _ rfl (Below.refl _ _)
      intro ts W5 hb5 hh hap
      have e15 := held_is (hh 15 (by simp)) rfl
      simp only [fillT, Nat.zero_add, Nat.reduceAdd, List.setIfInBounds_toArray, List.set_cons_zero, List.set_cons_succ, e15]
      clear hh hap e15
      generalize ts 0 = u0_W5 at *
      generalize ts 1 = u1_W5 at *
      generalize ts 2 = u2_W5 at *
      generalize ts 3 = u3_W5 at *
      generalize ts 4 = u4_W5 at *
      generalize ts 5 = u5_W5 at *
      generalize ts 6 = u6_W5 at *
      generalize ts 7 = u7_W5 at *
      generalize ts 8 = u8_W5 at *
      generalize ts 9 = u9_W5 at *
      generalize ts 10 = u10_W5 at *
      generalize ts 11 = u11_W5 at *
      generalize ts 12 = u12_W5 at *
      generalize ts 13 = u13_W5 at *
      generalize ts 14 = u14_W5 at *
      clear ts
      have hb5' := Lib.hid (below_trans hb4'.out hb5)
      replace K7 := Lib.hid ((hb5.block g7 z7).trans K7.out)
      replace K8 := Lib.hid ((hb5.block g8 z8).trans K8.out)
      replace K9 := Lib.hid ((hb5.block g9 z9).trans K9.out)
      replace z7 := Nat.lt_of_lt_of_le z7 hb5.size
      replace z8 := Nat.lt_of_lt_of_le z8 hb5.size
      replace z9 := Nat.lt_of_lt_of_le z9 hb5.size
      clear hb5
      go_upto_region 7 with fail
      refine region_lin [.val (kIs (.agg #[.slice A7 n7 c7, .bool p7, .slice A7b n7b c7b, .bool p7b, .slice A7c n7c c7c])), .val (kIs (.int .i64 s)), .val (kIs (.agg #[.slice A7 n7 c7, .bool p7, .slice A7b n7b c7b, .bool p7b, .slice A7c n7c c7c])), .val (kNum (xa.imag)), .val (kNum (.int 0)), .val (kIs (.int .i64 s)), .val (kIs (.bool true)), .val (kIs (.bool true)), .val (kIs (.bool true)), .val (kIs (.bool true)), .val (kIs (.bool true))]
        (by kernel_rfl) (by kernel_rfl) (by kernel_rfl) (by kernel_rfl) (by kernel_rfl) ⟨Stab.b (stab_is _), Stab.b (stab_is _), Stab.b (stab_is _), Stab.b (stab_num _), Stab.b (stab_num _), Stab.b (stab_is _), Stab.b (stab_is _), Stab.b (stab_is _), Stab.b (stab_is _), Stab.b (stab_is _), Stab.b (stab_is _), trivial⟩ (by simp) ⟨?_, ?_, ?_, ?_, ?_, ?_, ?_, ?_, ?_, ?_, ?_, trivial⟩ ?_
      · intro ts W hb hB hp
        intro K hK
        simp only [fillT, Nat.zero_add, Nat.reduceAdd, List.setIfInBounds_toArray, List.set_cons_zero, List.set_cons_succ] at hK ⊢
        refine ⟨?_⟩
        refine wp_load_row _ _ rfl (g7) rfl _ _ (0, 0) _ ((hb.block _ (z7)).trans K7.out) Tryz.underlying27 rfl (by kernel_rfl) ?_
        exact hK _ _ rfl (Below.refl _ _)
      · intro ts W hb hB hp
        have h0 : ts 0 = _ := hp 0 (by kernel_rfl)
        intro K hK
        simp only [fillT, Nat.zero_add, Nat.reduceAdd, List.setIfInBounds_toArray, List.set_cons_zero, List.set_cons_succ, h0] at hK ⊢
        have HK := Lib.hid hK
        clear hK hp
        refine ⟨?_⟩
        go_simp
        refine (Sd.out W (below_trans hb5'.out hb)).mono ?_
        rintro e W9 ⟨rfl, hb9⟩
        exact HK.out _ _ rfl hb9
      · intro ts W hb hB hp
        intro K hK
        simp only [fillT, Nat.zero_add, Nat.reduceAdd, List.setIfInBounds_toArray, List.set_cons_zero, List.set_cons_succ] at hK ⊢
        refine ⟨?_⟩
        refine wp_load_row _ _ rfl (g7) rfl _ _ (0, 0) _ ((hb.block _ (z7)).trans K7.out) Tryz.underlying27 rfl (by kernel_rfl) ?_
        exact hK _ _ rfl (Below.refl _ _)
      · intro ts W hb hB hp
        have h2 : ts 2 = _ := hp 2 (by kernel_rfl)
        intro K hK
        simp only [fillT, Nat.zero_add, Nat.reduceAdd, List.setIfInBounds_toArray, List.set_cons_zero, List.set_cons_succ, h2] at hK ⊢
        have HK := Lib.hid hK
        clear hK hp
        refine ⟨?_⟩
        go_simp
        refine (Im.out W (below_trans hb5'.out hb)).mono ?_
        rintro e W9 ⟨r9, rfl, hr9, hb9⟩
        exact HK.out _ _ hr9 hb9
      · intro ts W hb hB hp
        intro K hK
        simp only [fillT, Nat.zero_add, Nat.reduceAdd, List.setIfInBounds_toArray, List.set_cons_zero, List.set_cons_succ] at hK ⊢
        have HK := Lib.hid hK
        clear hK hp
        refine ⟨?_⟩
        go_simp
        refine (int_any 0 W (by omega) (by omega)).mono ?_
        rintro e W9 ⟨r9, rfl, hr9, hb9⟩
        exact HK.out _ _ hr9 hb9
      · intro ts W hb hB hp
        have h3 : IsNum W (ts 3) (xa.imag) := hp 3 (by kernel_rfl)
        have h4 : IsNum W (ts 4) (.int 0) := hp 4 (by kernel_rfl)
        intro K hK
        simp only [fillT, Nat.zero_add, Nat.reduceAdd, List.setIfInBounds_toArray, List.set_cons_zero, List.set_cons_succ] at hK ⊢
        have HK := Lib.hid hK
        clear hK hp
        refine ⟨?_⟩
        go_simp
        refine (Ci.out W (ts 3) (ts 4) h3 h4).mono ?_
        rintro e W9 ⟨rfl, hb9⟩
        exact HK.out _ _ rfl hb9
      · intro ts W hb hB hp
        have h1 : ts 1 = _ := hp 1 (by kernel_rfl)
        have h5 : ts 5 = _ := hp 5 (by kernel_rfl)
        intro K hK
        simp only [fillT, Nat.zero_add, Nat.reduceAdd, List.setIfInBounds_toArray, List.set_cons_zero, List.set_cons_succ, h1, h5] at hK ⊢
        have HK := Lib.hid hK
        clear hK hp
        refine ⟨?_⟩
        go_simp
        exact HK.out _ _ rfl (Below.refl _ _)
      · intro ts W hb hB hp
        have h6 : ts 6 = _ := hp 6 (by kernel_rfl)
        intro K hK
        simp only [fillT, Nat.zero_add, Nat.reduceAdd, List.setIfInBounds_toArray, List.set_cons_zero, List.set_cons_succ, h6] at hK ⊢
        have HK := Lib.hid hK
        clear hK hp
        refine ⟨?_⟩
        go_simp
        exact HK.out _ _ rfl (Below.refl _ _)
      · intro ts W hb hB hp
        have h7 : ts 7 = _ := hp 7 (by kernel_rfl)
        refine Guarded.on h7 ?_
        clear h7
        intro K hK
        simp only [fillT, Nat.zero_add, Nat.reduceAdd, List.setIfInBounds_toArray, List.set_cons_zero, List.set_cons_succ] at hK ⊢
        have HK := Lib.hid hK
        clear hK hp
        refine ⟨?_⟩
        go_simp
        refine (Aw.out W (below_trans hb5'.out hb)).mono ?_
        rintro e W9 ⟨rfl, hb9⟩
        exact HK.out _ _ rfl hb9
      · intro ts W hb hB hp
        have h7 : ts 7 = _ := hp 7 (by kernel_rfl)
        have h8 : ts 8 = _ := hp 8 (by kernel_rfl)
        intro K hK
        simp only [fillT, Nat.zero_add, Nat.reduceAdd, List.setIfInBounds_toArray, List.set_cons_zero, List.set_cons_succ, h7, h8] at hK ⊢
        have HK := Lib.hid hK
        clear hK hp
        refine ⟨?_⟩
        go_simp
        exact HK.out _ _ rfl (Below.refl _ _)
      · intro ts W hb hB hp
        have h9 : ts 9 = _ := hp 9 (by kernel_rfl)
        intro K hK
        simp only [fillT, Nat.zero_add, Nat.reduceAdd, List.setIfInBounds_toArray, List.set_cons_zero, List.set_cons_succ, h9] at hK ⊢
        have HK := Lib.hid hK
        clear hK hp
        refine ⟨?_⟩
        go_simp
        exact HK.out _ _ rfl (Below.refl _ _)
      intro ts W6 hb6 hh hap
      have e10 := held_is (hh 10 (by simp)) rfl
      simp only [fillT, Nat.zero_add, Nat.reduceAdd, List.setIfInBounds_toArray, List.set_cons_zero, List.set_cons_succ, e10]
      clear hh hap e10
      generalize ts 0 = u0_W6 at *
      generalize ts 1 = u1_W6 at *
      generalize ts 2 = u2_W6 at *
      generalize ts 3 = u3_W6 at *
      generalize ts 4 = u4_W6 at *
      generalize ts 5 = u5_W6 at *
      generalize ts 6 = u6_W6 at *
      generalize ts 7 = u7_W6 at *
      generalize ts 8 = u8_W6 at *
      generalize ts 9 = u9_W6 at *
      clear ts
      have B6 := Lib.hid (below_trans B2 (below_trans hb5'.out hb6))
      clear hb6 B2
      go_wp2
      go_ret
      exact ⟨rfl, B6.out⟩
  · clear tr
    go_upto_region 5 with fail
    refine region_lin [.val (kIs (.agg #[.slice A7 n7 c7, .bool p7, .slice A7b n7b c7b, .bool p7b, .slice A7c n7c c7c])), .val (kIs (.agg #[.slice A8 n8 c8, .bool p8, .slice A8b n8b c8b, .bool p8b, .slice A8c n8c c8c])), .val (kIs (.int .i64 n)), .val (kIs (.bool false)), .val (kIs (.bool false)), .val (kIs (undef)), .val (kIs (undef)), .val (kIs (undef)), .val (kIs (undef)), .val (kIs (.bool false)), .val (kIs (.bool false)), .val (kIs (undef)), .val (kIs (undef)), .val (kIs (undef)), .val (kIs (undef)), .val (kIs (.bool false))]
      (by kernel_rfl) (by kernel_rfl) (by kernel_rfl) (by kernel_rfl) (by kernel_rfl) ⟨Stab.b (stab_is _), Stab.b (stab_is _), Stab.b (stab_is _), Stab.b (stab_is _), Stab.b (stab_is _), Stab.b (stab_is _), Stab.b (stab_is _), Stab.b (stab_is _), Stab.b (stab_is _), Stab.b (stab_is _), Stab.b (stab_is _), Stab.b (stab_is _), Stab.b (stab_is _), Stab.b (stab_is _), Stab.b (stab_is _), Stab.b (stab_is _), trivial⟩ (by simp) ⟨?_, ?_, ?_, ?_, ?_, ?_, ?_, ?_, ?_, ?_, ?_, ?_, ?_, ?_, ?_, ?_, trivial⟩ ?_
    · intro ts W hb hB hp
      intro K hK
      simp only [fillT, Nat.zero_add, Nat.reduceAdd, List.setIfInBounds_toArray, List.set_cons_zero, List.set_cons_succ] at hK ⊢
      refine ⟨?_⟩
      refine wp_load_row _ _ rfl (g7) rfl _ _ (0, 0) _ ((hb.block _ (z7)).trans K7.out) Tryz.underlying27 rfl (by kernel_rfl) ?_
      exact hK _ _ rfl (Below.refl _ _)
    · intro ts W hb hB hp
      intro K hK
      simp only [fillT, Nat.zero_add, Nat.reduceAdd, List.setIfInBounds_toArray, List.set_cons_zero, List.set_cons_succ] at hK ⊢
      refine ⟨?_⟩
      refine wp_load_row _ _ rfl (g8) rfl _ _ (0, 0) _ ((hb.block _ (z8)).trans K8.out) Tryz.underlying27 rfl (by kernel_rfl) ?_
      exact hK _ _ rfl (Below.refl _ _)
    · intro ts W hb hB hp
      have h0 : ts 0 = _ := hp 0 (by kernel_rfl)
      have h1 : ts 1 = _ := hp 1 (by kernel_rfl)
      intro K hK
      simp only [fillT, Nat.zero_add, Nat.reduceAdd, List.setIfInBounds_toArray, List.set_cons_zero, List.set_cons_succ, h0, h1] at hK ⊢
      have HK := Lib.hid hK
      clear hK hp
      refine ⟨?_⟩
      go_simp
      refine (Cxy.out W (below_trans hb4'.out hb)).mono ?_
      rintro e W9 ⟨rfl, hb9⟩
      exact HK.out _ _ rfl hb9
    · intro ts W hb hB hp
      have h2 : ts 2 = _ := hp 2 (by kernel_rfl)
      intro K hK
      simp only [fillT, Nat.zero_add, Nat.reduceAdd, List.setIfInBounds_toArray, List.set_cons_zero, List.set_cons_succ, h2] at hK ⊢
      have HK := Lib.hid hK
      clear hK hp
      refine ⟨?_⟩
      go_simp
      exact HK.out _ _ (by simp [kIs] <;> omega) (Below.refl _ _)
    · intro ts W hb hB hp
      have h3 : ts 3 = _ := hp 3 (by kernel_rfl)
      intro K hK
      simp only [fillT, Nat.zero_add, Nat.reduceAdd, List.setIfInBounds_toArray, List.set_cons_zero, List.set_cons_succ, h3] at hK ⊢
      have HK := Lib.hid hK
      clear hK hp
      refine ⟨?_⟩
      go_simp
      exact HK.out _ _ rfl (Below.refl _ _)
    · intro ts W hb hB hp
      have h4 : ts 4 = _ := hp 4 (by kernel_rfl)
      exact Guarded.off h4 (by decide) rfl
    · intro ts W hb hB hp
      have h4 : ts 4 = _ := hp 4 (by kernel_rfl)
      exact Guarded.off h4 (by decide) rfl
    · intro ts W hb hB hp
      have h5 : ts 5 = _ := hp 5 (by kernel_rfl)
      have h6 : ts 6 = _ := hp 6 (by kernel_rfl)
      have h4 : ts 4 = _ := hp 4 (by kernel_rfl)
      exact Guarded.off h4 (by decide) rfl
    · intro ts W hb hB hp
      have h7 : ts 7 = _ := hp 7 (by kernel_rfl)
      have h4 : ts 4 = _ := hp 4 (by kernel_rfl)
      exact Guarded.off h4 (by decide) rfl
    · intro ts W hb hB hp
      have h4 : ts 4 = _ := hp 4 (by kernel_rfl)
      have h8 : ts 8 = _ := hp 8 (by kernel_rfl)
      intro K hK
      simp only [fillT, Nat.zero_add, Nat.reduceAdd, List.setIfInBounds_toArray, List.set_cons_zero, List.set_cons_succ, h4, h8] at hK ⊢
      have HK := Lib.hid hK
      clear hK hp
      refine ⟨?_⟩
      go_simp
      exact HK.out _ _ rfl (Below.refl _ _)
    · intro ts W hb hB hp
      have h9 : ts 9 = _ := hp 9 (by kernel_rfl)
      intro K hK
      simp only [fillT, Nat.zero_add, Nat.reduceAdd, List.setIfInBounds_toArray, List.set_cons_zero, List.set_cons_succ, h9] at hK ⊢
      have HK := Lib.hid hK
      clear hK hp
      refine ⟨?_⟩
      go_simp
      exact HK.out _ _ rfl (Below.refl _ _)
    · intro ts W hb hB hp
      have h10 : ts 10 = _ := hp 10 (by kernel_rfl)
      exact Guarded.off h10 (by decide) rfl
    · intro ts W hb hB hp
      have h10 : ts 10 = _ := hp 10 (by kernel_rfl)
      exact Guarded.off h10 (by decide) rfl
    · intro ts W hb hB hp
      have h11 : ts 11 = _ := hp 11 (by kernel_rfl)
      have h12 : ts 12 = _ := hp 12 (by kernel_rfl)
      have h10 : ts 10 = _ := hp 10 (by kernel_rfl)
      exact Guarded.off h10 (by decide) rfl
    · intro ts W hb hB hp
      have h13 : ts 13 = _ := hp 13 (by kernel_rfl)
      have h10 : ts 10 = _ := hp 10 (by kernel_rfl)
      exact Guarded.off h10 (by decide) rfl
    · intro ts W hb hB hp
      have h10 : ts 10 = _ := hp 10 (by kernel_rfl)
      have h14 : ts 14 = _ := hp 14 (by kernel_rfl)
      intro K hK
      simp only [fillT, Nat.zero_add, Nat.reduceAdd, List.setIfInBounds_toArray, List.set_cons_zero, List.set_cons_succ, h10, h14] at hK ⊢
      have HK := Lib.hid hK
      clear hK hp
      refine ⟨?_⟩
      go_simp
      exact HK.out _ _ rfl (Below.refl _ _)
    intro ts W5 hb5 hh hap
    have e15 := held_is (hh 15 (by simp)) rfl
    simp only [fillT, Nat.zero_add, Nat.reduceAdd, List.setIfInBounds_toArray, List.set_cons_zero, List.set_cons_succ, e15]
    clear hh hap e15
    generalize ts 0 = u0_W5 at *
    generalize ts 1 = u1_W5 at *
    generalize ts 2 = u2_W5 at *
    generalize ts 3 = u3_W5 at *
    generalize ts 4 = u4_W5 at *
    generalize ts 5 = u5_W5 at *
    generalize ts 6 = u6_W5 at *
    generalize ts 7 = u7_W5 at *
    generalize ts 8 = u8_W5 at *
    generalize ts 9 = u9_W5 at *
    generalize ts 10 = u10_W5 at *
    generalize ts 11 = u11_W5 at *
    generalize ts 12 = u12_W5 at *
    generalize ts 13 = u13_W5 at *
    generalize ts 14 = u14_W5 at *
    clear ts
    have hb5' := Lib.hid (below_trans hb4'.out hb5)
    replace K7 := Lib.hid ((hb5.block g7 z7).trans K7.out)
    replace K8 := Lib.hid ((hb5.block g8 z8).trans K8.out)
    replace K9 := Lib.hid ((hb5.block g9 z9).trans K9.out)
    replace z7 := Nat.lt_of_lt_of_le z7 hb5.size
    replace z8 := Nat.lt_of_lt_of_le z8 hb5.size
    replace z9 := Nat.lt_of_lt_of_le z9 hb5.size
    clear hb5
    go_upto_region 7 with fail
    refine region_lin [.val (kIs (.agg #[.slice A7 n7 c7, .bool p7, .slice A7b n7b c7b, .bool p7b, .slice A7c n7c c7c])), .val (kIs (.int .i64 s)), .val (kIs (.agg #[.slice A7 n7 c7, .bool p7, .slice A7b n7b c7b, .bool p7b, .slice A7c n7c c7c])), .val (kNum (xa.imag)), .val (kNum (.int 0)), .val (kIs (.int .i64 s)), .val (kIs (.bool true)), .val (kIs (.bool true)), .val (kIs (.bool true)), .val (kIs (.bool true)), .val (kIs (.bool true))]
      (by kernel_rfl) (by kernel_rfl) (by kernel_rfl) (by kernel_rfl) (by kernel_rfl) ⟨Stab.b (stab_is _), Stab.b (stab_is _), Stab.b (stab_is _), Stab.b (stab_num _), Stab.b (stab_num _), Stab.b (stab_is _), Stab.b (stab_is _), Stab.b (stab_is _), Stab.b (stab_is _), Stab.b (stab_is _), Stab.b (stab_is _), trivial⟩ (by simp) ⟨?_, ?_, ?_, ?_, ?_, ?_, ?_, ?_, ?_, ?_, ?_, trivial⟩ ?_
    · intro ts W hb hB hp
      intro K hK
      simp only [fillT, Nat.zero_add, Nat.reduceAdd, List.setIfInBounds_toArray, List.set_cons_zero, List.set_cons_succ] at hK ⊢
      refine ⟨?_⟩
      refine wp_load_row _ _ rfl (g7) rfl _ _ (0, 0) _ ((hb.block _ (z7)).trans K7.out) Tryz.underlying27 rfl (by kernel_rfl) ?_
      exact hK _ _ rfl (Below.refl _ _)
    · intro ts W hb hB hp
      have h0 : ts 0 = _ := hp 0 (by kernel_rfl)
      intro K hK
      simp only [fillT, Nat.zero_add, Nat.reduceAdd, List.setIfInBounds_toArray, List.set_cons_zero, List.set_cons_succ, h0] at hK ⊢
      have HK := Lib.hid hK
      clear hK hp
      refine ⟨?_⟩
      go_simp
      refine (Sd.out W (below_trans hb5'.out hb)).mono ?_
      rintro e W9 ⟨rfl, hb9⟩
      exact HK.out _ _ rfl hb9
    · intro ts W hb hB hp
      intro K hK
      simp only [fillT, Nat.zero_add, Nat.reduceAdd, List.setIfInBounds_toArray, List.set_cons_zero, List.set_cons_succ] at hK ⊢
      refine ⟨?_⟩
      refine wp_load_row _ _ rfl (g7) rfl _ _ (0, 0) _ ((hb.block _ (z7)).trans K7.out) Tryz.underlying27 rfl (by kernel_rfl) ?_
      exact hK _ _ rfl (Below.refl _ _)
    · intro ts W hb hB hp
      have h2 : ts 2 = _ := hp 2 (by kernel_rfl)
      intro K hK
      simp only [fillT, Nat.zero_add, Nat.reduceAdd, List.setIfInBounds_toArray, List.set_cons_zero, List.set_cons_succ, h2] at hK ⊢
      have HK := Lib.hid hK
      clear hK hp
      refine ⟨?_⟩
      go_simp
      refine (Im.out W (below_trans hb5'.out hb)).mono ?_
      rintro e W9 ⟨r9, rfl, hr9, hb9⟩
      exact HK.out _ _ hr9 hb9
    · intro ts W hb hB hp
      intro K hK
      simp only [fillT, Nat.zero_add, Nat.reduceAdd, List.setIfInBounds_toArray, List.set_cons_zero, List.set_cons_succ] at hK ⊢
      have HK := Lib.hid hK
      clear hK hp
      refine ⟨?_⟩
      go_simp
      refine (int_any 0 W (by omega) (by omega)).mono ?_
      rintro e W9 ⟨r9, rfl, hr9, hb9⟩
      exact HK.out _ _ hr9 hb9
    · intro ts W hb hB hp
      have h3 : IsNum W (ts 3) (xa.imag) := hp 3 (by kernel_rfl)
      have h4 : IsNum W (ts 4) (.int 0) := hp 4 (by kernel_rfl)
      intro K hK
      simp only [fillT, Nat.zero_add, Nat.reduceAdd, List.setIfInBounds_toArray, List.set_cons_zero, List.set_cons_succ] at hK ⊢
      have HK := Lib.hid hK
      clear hK hp
      refine ⟨?_⟩
      go_simp
      refine (Ci.out W (ts 3) (ts 4) h3 h4).mono ?_
      rintro e W9 ⟨rfl, hb9⟩
      exact HK.out _ _ rfl hb9
    · intro ts W hb hB hp
      have h1 : ts 1 = _ := hp 1 (by kernel_rfl)
      have h5 : ts 5 = _ := hp 5 (by kernel_rfl)
      intro K hK
      simp only [fillT, Nat.zero_add, Nat.reduceAdd, List.setIfInBounds_toArray, List.set_cons_zero, List.set_cons_succ, h1, h5] at hK ⊢
      have HK := Lib.hid hK
      clear hK hp
      refine ⟨?_⟩
      go_simp
      exact HK.out _ _ rfl (Below.refl _ _)
    · intro ts W hb hB hp
      have h6 : ts 6 = _ := hp 6 (by kernel_rfl)
      intro K hK
      simp only [fillT, Nat.zero_add, Nat.reduceAdd, List.setIfInBounds_toArray, List.set_cons_zero, List.set_cons_succ, h6] at hK ⊢
      have HK := Lib.hid hK
      clear hK hp
      refine ⟨?_⟩
      go_simp
      exact HK.out _ _ rfl (Below.refl _ _)
    · intro ts W hb hB hp
      have h7 : ts 7 = _ := hp 7 (by kernel_rfl)
      refine Guarded.on h7 ?_
      clear h7
      intro K hK
      simp only [fillT, Nat.zero_add, Nat.reduceAdd, List.setIfInBounds_toArray, List.set_cons_zero, List.set_cons_succ] at hK ⊢
      have HK := Lib.hid hK
      clear hK hp
      refine ⟨?_⟩
      go_simp
      refine (Aw.out W (below_trans hb5'.out hb)).mono ?_
      rintro e W9 ⟨rfl, hb9⟩
      exact HK.out _ _ rfl hb9
    · intro ts W hb hB hp
      have h7 : ts 7 = _ := hp 7 (by kernel_rfl)
      have h8 : ts 8 = _ := hp 8 (by kernel_rfl)
      intro K hK
      simp only [fillT, Nat.zero_add, Nat.reduceAdd, List.setIfInBounds_toArray, List.set_cons_zero, List.set_cons_succ, h7, h8] at hK ⊢
      have HK := Lib.hid hK
      clear hK hp
      refine ⟨?_⟩
      go_simp
      exact HK.out _ _ rfl (Below.refl _ _)
    · intro ts W hb hB hp
      have h9 : ts 9 = _ := hp 9 (by kernel_rfl)
      intro K hK
      simp only [fillT, Nat.zero_add, Nat.reduceAdd, List.setIfInBounds_toArray, List.set_cons_zero, List.set_cons_succ, h9] at hK ⊢
      have HK := Lib.hid hK
      clear hK hp
      refine ⟨?_⟩
      go_simp
      exact HK.out _ _ rfl (Below.refl _ _)
    intro ts W6 hb6 hh hap
    have e10 := held_is (hh 10 (by simp)) rfl
    simp only [fillT, Nat.zero_add, Nat.reduceAdd, List.setIfInBounds_toArray, List.set_cons_zero, List.set_cons_succ, e10]
    clear hh hap e10
    generalize ts 0 = u0_W6 at *
    generalize ts 1 = u1_W6 at *
    generalize ts 2 = u2_W6 at *
    generalize ts 3 = u3_W6 at *
    generalize ts 4 = u4_W6 at *
    generalize ts 5 = u5_W6 at *
    generalize ts 6 = u6_W6 at *
    generalize ts 7 = u7_W6 at *
    generalize ts 8 = u8_W6 at *
    generalize ts 9 = u9_W6 at *
    clear ts
    have B6 := Lib.hid (below_trans B2 (below_trans hb5'.out hb6))
    clear hb6 B2
    go_wp2
    go_ret
    exact ⟨rfl, B6.out⟩
end Go.Proofs.YtbanmapedkjjdaaGreatDoor
