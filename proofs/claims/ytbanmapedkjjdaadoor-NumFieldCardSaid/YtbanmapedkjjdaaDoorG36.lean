/- The law NumField. -/
import Derived.Test.YtbanmapedkjjdaaDoorG35
set_option linter.unusedSimpArgs false
set_option linter.unusedVariables false
namespace Go.Proofs.YtbanmapedkjjdaaDoor
open Go.RowKit
set_option maxRecDepth 100000

set_option maxHeartbeats 8000000 in
theorem numField_walk (w : World) (a1 a2 a3 b1 b2 b3 c1 c2 c3 : Int) (hT : Tab w) (a10 : -9223372036854775808 ≤ a1) (a11 : a1 < 9223372036854775808) (a20 : -9223372036854775808 ≤ a2) (a21 : a2 < 9223372036854775808) (a30 : -9223372036854775808 ≤ a3) (a31 : a3 < 9223372036854775808) (b10 : -9223372036854775808 ≤ b1) (b11 : b1 < 9223372036854775808) (b20 : -9223372036854775808 ≤ b2) (b21 : b2 < 9223372036854775808) (b30 : -9223372036854775808 ≤ b3) (b31 : b3 < 9223372036854775808) (c10 : -9223372036854775808 ≤ c1) (c11 : c1 < 9223372036854775808) (c20 : -9223372036854775808 ≤ c2) (c21 : c2 < 9223372036854775808) (c30 : -9223372036854775808 ≤ c3) (c31 : c3 < 9223372036854775808) :
    Calls Tryd.prog 3 #[.agg #[.int .i64 a1, .int .i64 a2, .int .i64 a3], .agg #[.int .i64 b1, .int .i64 b2, .int .i64 b3], .agg #[.int .i64 c1, .int .i64 c2, .int .i64 c3]] w fun e w' => e = .returned (.bool true) ∧ Below w.heap.size w w' := by
  have sa := sz_of a10 a11 a20 a21 a30 a31
  have HOa := Lib.hid (fun W (hb : Below w.heap.size w W) => of_any a1 a2 a3 W a10 a11 a20 a21 a30 a31 (hT.below hb))
  clear a10 a11 a20 a21 a30 a31
  obtain ⟨xa, hxa⟩ : ∃ x, x = ofR a1 a2 a3 := ⟨_, rfl⟩
  rw [← hxa] at sa HOa
  clear hxa
  have sb := sz_of b10 b11 b20 b21 b30 b31
  have HOb := Lib.hid (fun W (hb : Below w.heap.size w W) => of_any b1 b2 b3 W b10 b11 b20 b21 b30 b31 (hT.below hb))
  clear b10 b11 b20 b21 b30 b31
  obtain ⟨xb, hxb⟩ : ∃ x, x = ofR b1 b2 b3 := ⟨_, rfl⟩
  rw [← hxb] at sb HOb
  clear hxb
  have sc := sz_of c10 c11 c20 c21 c30 c31
  have HOc := Lib.hid (fun W (hb : Below w.heap.size w W) => of_any c1 c2 c3 W c10 c11 c20 c21 c30 c31 (hT.below hb))
  clear c10 c11 c20 c21 c30 c31
  obtain ⟨xc, hxc⟩ : ∃ x, x = ofR c1 c2 c3 := ⟨_, rfl⟩
  rw [← hxc] at sc HOc
  clear hxc
  have HT := Lib.hid hT
  clear hT
  go_enter Tryd.func3, Tryd.ntmps3
  go_upto_region 1 with fail
  obtain ⟨W1, hW1⟩ : ∃ W1 : World, W1 = (((w.alloc (.cells #[.int .i64 a1, .int .i64 a2, .int .i64 a3] 23)).alloc (.cells #[.int .i64 b1, .int .i64 b2, .int .i64 b3] 23)).alloc (.cells #[.int .i64 c1, .int .i64 c2, .int .i64 c3] 23)) := ⟨_, rfl⟩
  rw [← hW1]
  have B1 : Below w.heap.size w W1 := by rw [hW1]; exact (by (repeat (first | exact Below.refl _ _ | assumption | with_reducible refine Below.drew ?_ | with_reducible refine below_trans ?_ (below_alloc _ _) | with_reducible refine below_trans ?_ (below_drewN _ _) | with_reducible refine Below.setCell ?_ (by simp <;> omega) _ | refine below_trans ?_ (by assumption))))
  have za : w.heap.size < W1.heap.size := by rw [hW1]; simp <;> omega
  have zb : w.heap.size + 1 < W1.heap.size := by rw [hW1]; simp <;> omega
  have zc : w.heap.size + 1 + 1 < W1.heap.size := by rw [hW1]; simp <;> omega
  have Xa : W1.heap[w.heap.size]? = some (.cells #[.int .i64 a1, .int .i64 a2, .int .i64 a3] 23 (0, 0)) := by
    rw [hW1]
    rw [Below.heap_alloc _ _ _ (by simp <;> omega)]
    rw [Below.heap_alloc _ _ _ (by simp <;> omega)]
    have := heap_alloc_new w (.cells #[.int .i64 a1, .int .i64 a2, .int .i64 a3] 23 (0, 0))
    simpa using this
  have Xb : W1.heap[w.heap.size + 1]? = some (.cells #[.int .i64 b1, .int .i64 b2, .int .i64 b3] 23 (0, 0)) := by
    rw [hW1]
    rw [Below.heap_alloc _ _ _ (by simp <;> omega)]
    have := heap_alloc_new (w.alloc (.cells #[.int .i64 a1, .int .i64 a2, .int .i64 a3] 23)) (.cells #[.int .i64 b1, .int .i64 b2, .int .i64 b3] 23 (0, 0))
    simpa using this
  have Xc : W1.heap[w.heap.size + 1 + 1]? = some (.cells #[.int .i64 c1, .int .i64 c2, .int .i64 c3] 23 (0, 0)) := by
    rw [hW1]
    have := heap_alloc_new ((w.alloc (.cells #[.int .i64 a1, .int .i64 a2, .int .i64 a3] 23)).alloc (.cells #[.int .i64 b1, .int .i64 b2, .int .i64 b3] 23)) (.cells #[.int .i64 c1, .int .i64 c2, .int .i64 c3] 23 (0, 0))
    simpa using this
  clear hW1
  refine region_lin [.val (kIs (.agg #[.int .i64 a1, .int .i64 a2, .int .i64 a3])), .val (kNum (xa)), .val (kIs (.agg #[.int .i64 b1, .int .i64 b2, .int .i64 b3])), .val (kNum (xb)), .val (kIs (.agg #[.int .i64 c1, .int .i64 c2, .int .i64 c3])), .val (kNum (xc)), .box 29 zNum, .box 29 zNum, .box 29 zNum, .put 6 1, .put 7 3, .put 8 5]
    (by kernel_rfl) (by kernel_rfl) (by kernel_rfl) (by kernel_rfl) (by kernel_rfl) ⟨stab_is _, stab_num _, stab_is _, stab_num _, stab_is _, stab_num _, trivial⟩ (by simp) ⟨?_, ?_, ?_, ?_, ?_, ?_, alloc_num, alloc_num, alloc_num, store_num _, store_num _, store_num _, trivial⟩ ?_
  · intro ts W hb hB hp
    intro K hK
    simp only [fillT, Nat.zero_add, Nat.reduceAdd, List.setIfInBounds_toArray, List.set_cons_zero, List.set_cons_succ] at hK ⊢
    refine ⟨?_⟩
    refine wp_load_row _ _ rfl (w.heap.size) rfl _ _ (0, 0) _ ((hb.block _ (za)).trans Xa) Tryd.underlying23 rfl (by kernel_rfl) ?_
    exact hK _ _ rfl (Below.refl _ _)
  · intro ts W hb hB hp
    have h0 : ts 0 = _ := hp 0 (by kernel_rfl)
    intro K hK
    simp only [fillT, Nat.zero_add, Nat.reduceAdd, List.setIfInBounds_toArray, List.set_cons_zero, List.set_cons_succ, h0] at hK ⊢
    have HK := Lib.hid hK
    clear hK hp
    refine ⟨?_⟩
    go_simp
    refine (HOa.out W (below_trans B1 hb)).mono ?_
    rintro e W9 ⟨r9, rfl, hr9, hb9⟩
    exact HK.out _ _ hr9 hb9
  · intro ts W hb hB hp
    intro K hK
    simp only [fillT, Nat.zero_add, Nat.reduceAdd, List.setIfInBounds_toArray, List.set_cons_zero, List.set_cons_succ] at hK ⊢
    refine ⟨?_⟩
    refine wp_load_row _ _ rfl (w.heap.size + 1) rfl _ _ (0, 0) _ ((hb.block _ (zb)).trans Xb) Tryd.underlying23 rfl (by kernel_rfl) ?_
    exact hK _ _ rfl (Below.refl _ _)
  · intro ts W hb hB hp
    have h2 : ts 2 = _ := hp 2 (by kernel_rfl)
    intro K hK
    simp only [fillT, Nat.zero_add, Nat.reduceAdd, List.setIfInBounds_toArray, List.set_cons_zero, List.set_cons_succ, h2] at hK ⊢
    have HK := Lib.hid hK
    clear hK hp
    refine ⟨?_⟩
    go_simp
    refine (HOb.out W (below_trans B1 hb)).mono ?_
    rintro e W9 ⟨r9, rfl, hr9, hb9⟩
    exact HK.out _ _ hr9 hb9
  · intro ts W hb hB hp
    intro K hK
    simp only [fillT, Nat.zero_add, Nat.reduceAdd, List.setIfInBounds_toArray, List.set_cons_zero, List.set_cons_succ] at hK ⊢
    refine ⟨?_⟩
    refine wp_load_row _ _ rfl (w.heap.size + 1 + 1) rfl _ _ (0, 0) _ ((hb.block _ (zc)).trans Xc) Tryd.underlying23 rfl (by kernel_rfl) ?_
    exact hK _ _ rfl (Below.refl _ _)
  · intro ts W hb hB hp
    have h4 : ts 4 = _ := hp 4 (by kernel_rfl)
    intro K hK
    simp only [fillT, Nat.zero_add, Nat.reduceAdd, List.setIfInBounds_toArray, List.set_cons_zero, List.set_cons_succ, h4] at hK ⊢
    have HK := Lib.hid hK
    clear hK hp
    refine ⟨?_⟩
    go_simp
    refine (HOc.out W (below_trans B1 hb)).mono ?_
    rintro e W9 ⟨r9, rfl, hr9, hb9⟩
    exact HK.out _ _ hr9 hb9
  intro ts W2 hb2 hh hap
  obtain ⟨g7, A7, n7, c7, p7, A7b, n7b, c7b, p7b, A7c, n7c, c7c, e6, lo7, z7, X7, N7⟩ := held_box (x := xa) (hh 6 (by simp)) rfl (hh 9 (by simp)) rfl (hh 1 (by simp)) rfl
  obtain ⟨g8, A8, n8, c8, p8, A8b, n8b, c8b, p8b, A8c, n8c, c8c, e7, lo8, z8, X8, N8⟩ := held_box (x := xb) (hh 7 (by simp)) rfl (hh 10 (by simp)) rfl (hh 3 (by simp)) rfl
  obtain ⟨g9, A9, n9, c9, p9, A9b, n9b, c9b, p9b, A9c, n9c, c9c, e8, lo9, z9, X9, N9⟩ := held_box (x := xc) (hh 8 (by simp)) rfl (hh 11 (by simp)) rfl (hh 5 (by simp)) rfl
  simp only [fillT, Nat.zero_add, Nat.reduceAdd, List.setIfInBounds_toArray, List.set_cons_zero, List.set_cons_succ, e6, e7, e8]
  clear hh hap e6 e7 e8
  generalize ts 0 = u0_W2 at *
  generalize ts 1 = u1_W2 at *
  generalize ts 2 = u2_W2 at *
  generalize ts 3 = u3_W2 at *
  generalize ts 4 = u4_W2 at *
  generalize ts 5 = u5_W2 at *
  clear ts
  replace B1 := below_trans B1 hb2
  clear hb2 za Xa lo7 HOa zb Xb lo8 HOb zc Xc lo9 HOc
  go_upto_region 2 with fail
  refine region_lin (.val (kIs (.agg #[.slice A7 n7 c7, .bool p7, .slice A7b n7b c7b, .bool p7b, .slice A7c n7c c7c])) :: .val (kIs (.agg #[.slice A8 n8 c8, .bool p8, .slice A8b n8b c8b, .bool p8b, .slice A8c n8c c8c])) :: .val (kNum ((xa).add (xb))) :: .val (kIs (.agg #[.slice A8 n8 c8, .bool p8, .slice A8b n8b c8b, .bool p8b, .slice A8c n8c c8c])) :: .val (kIs (.agg #[.slice A7 n7 c7, .bool p7, .slice A7b n7b c7b, .bool p7b, .slice A7c n7c c7c])) :: .val (kNum ((xb).add (xa))) :: .val (kIs (.bool true)) :: .val (kIs (.bool false)) :: .val (kIs (.bool false)) :: .val (kIs (.agg #[.slice A7 n7 c7, .bool p7, .slice A7b n7b c7b, .bool p7b, .slice A7c n7c c7c])) :: .val (kIs (.agg #[.slice A8 n8 c8, .bool p8, .slice A8b n8b c8b, .bool p8b, .slice A8c n8c c8c])) :: .val (kNum ((xa).mul (xb))) :: .val (kIs (.agg #[.slice A8 n8 c8, .bool p8, .slice A8b n8b c8b, .bool p8b, .slice A8c n8c c8c])) :: .val (kIs (.agg #[.slice A7 n7 c7, .bool p7, .slice A7b n7b c7b, .bool p7b, .slice A7c n7c c7c])) :: .val (kNum ((xb).mul (xa))) :: .val (kIs (.bool true)) :: .val (kIs (.bool false)) :: .val (kIs (.bool false)) :: .val (kIs (.bool false)) :: .val (kIs (.agg #[.slice A7 n7 c7, .bool p7, .slice A7b n7b c7b, .bool p7b, .slice A7c n7c c7c])) :: .val (kIs (.agg #[.slice A8 n8 c8, .bool p8, .slice A8b n8b c8b, .bool p8b, .slice A8c n8c c8c])) :: .val (kNum ((xa).add (xb))) :: .val (kIs (.agg #[.slice A9 n9 c9, .bool p9, .slice A9b n9b c9b, .bool p9b, .slice A9c n9c c9c])) :: .val (kNum (((xa).add (xb)).add (xc))) :: .val (kIs (.agg #[.slice A7 n7 c7, .bool p7, .slice A7b n7b c7b, .bool p7b, .slice A7c n7c c7c])) :: .val (kIs (.agg #[.slice A8 n8 c8, .bool p8, .slice A8b n8b c8b, .bool p8b, .slice A8c n8c c8c])) :: .val (kIs (.agg #[.slice A9 n9 c9, .bool p9, .slice A9b n9b c9b, .bool p9b, .slice A9c n9c c9c])) :: .val (kNum ((xb).add (xc))) :: .val (kNum ((xa).add ((xb).add (xc)))) :: .val (kIs (.bool true)) :: .val (kIs (.bool false)) :: .val (kIs (.bool false)) :: .val (kIs (.bool false)) :: .val (kIs (.agg #[.slice A7 n7 c7, .bool p7, .slice A7b n7b c7b, .bool p7b, .slice A7c n7c c7c])) :: .val (kIs (.agg #[.slice A8 n8 c8, .bool p8, .slice A8b n8b c8b, .bool p8b, .slice A8c n8c c8c])) :: .val (kNum ((xa).mul (xb))) :: .val (kIs (.agg #[.slice A9 n9 c9, .bool p9, .slice A9b n9b c9b, .bool p9b, .slice A9c n9c c9c])) :: .val (kNum (((xa).mul (xb)).mul (xc))) :: .val (kIs (.agg #[.slice A7 n7 c7, .bool p7, .slice A7b n7b c7b, .bool p7b, .slice A7c n7c c7c])) :: .val (kIs (.agg #[.slice A8 n8 c8, .bool p8, .slice A8b n8b c8b, .bool p8b, .slice A8c n8c c8c])) :: .val (kIs (.agg #[.slice A9 n9 c9, .bool p9, .slice A9b n9b c9b, .bool p9b, .slice A9c n9c c9c])) :: .val (kNum ((xb).mul (xc))) :: .val (kNum ((xa).mul ((xb).mul (xc)))) :: .val (kIs (.bool true)) :: .val (kIs (.bool false)) :: .val (kIs (.bool false)) :: [])
    (by kernel_rfl) (by kernel_rfl) (by kernel_rfl) (by kernel_rfl) (by kernel_rfl) ⟨Stab.b (stab_is _), Stab.b (stab_is _), Stab.b (stab_num _), Stab.b (stab_is _), Stab.b (stab_is _), Stab.b (stab_num _), Stab.b (stab_is _), Stab.b (stab_is _), Stab.b (stab_is _), Stab.b (stab_is _), Stab.b (stab_is _), Stab.b (stab_num _), Stab.b (stab_is _), Stab.b (stab_is _), Stab.b (stab_num _), Stab.b (stab_is _), Stab.b (stab_is _), Stab.b (stab_is _), Stab.b (stab_is _), Stab.b (stab_is _), Stab.b (stab_is _), Stab.b (stab_num _), Stab.b (stab_is _), Stab.b (stab_num _), Stab.b (stab_is _), Stab.b (stab_is _), Stab.b (stab_is _), Stab.b (stab_num _), Stab.b (stab_num _), Stab.b (stab_is _), Stab.b (stab_is _), Stab.b (stab_is _), Stab.b (stab_is _), Stab.b (stab_is _), Stab.b (stab_is _), Stab.b (stab_num _), Stab.b (stab_is _), Stab.b (stab_num _), Stab.b (stab_is _), Stab.b (stab_is _), Stab.b (stab_is _), Stab.b (stab_num _), Stab.b (stab_num _), Stab.b (stab_is _), Stab.b (stab_is _), Stab.b (stab_is _), trivial⟩ (by simp) ⟨?_, ?_, ?_, ?_, ?_, ?_, ?_, ?_, ?_, ?_, ?_, ?_, ?_, ?_, ?_, ?_, ?_, ?_, ?_, ?_, ?_, ?_, ?_, ?_, ?_, ?_, ?_, ?_, ?_, ?_, ?_, ?_, ?_, ?_, ?_, ?_, ?_, ?_, ?_, ?_, ?_, ?_, ?_, ?_, ?_, ?_, trivial⟩ ?_
  · intro ts W hb hB hp
    intro K hK
    simp only [fillT, Nat.zero_add, Nat.reduceAdd, List.setIfInBounds_toArray, List.set_cons_zero, List.set_cons_succ] at hK ⊢
    refine ⟨?_⟩
    refine wp_load_row _ _ rfl (g7) rfl _ _ (0, 0) _ ((hb.block _ (z7)).trans X7) Tryd.underlying29 rfl (by kernel_rfl) ?_
    exact hK _ _ rfl (Below.refl _ _)
  · intro ts W hb hB hp
    intro K hK
    simp only [fillT, Nat.zero_add, Nat.reduceAdd, List.setIfInBounds_toArray, List.set_cons_zero, List.set_cons_succ] at hK ⊢
    refine ⟨?_⟩
    refine wp_load_row _ _ rfl (g8) rfl _ _ (0, 0) _ ((hb.block _ (z8)).trans X8) Tryd.underlying29 rfl (by kernel_rfl) ?_
    exact hK _ _ rfl (Below.refl _ _)
  · intro ts W hb hB hp
    have h0 : ts 0 = _ := hp 0 (by kernel_rfl)
    have h1 : ts 1 = _ := hp 1 (by kernel_rfl)
    intro K hK
    simp only [fillT, Nat.zero_add, Nat.reduceAdd, List.setIfInBounds_toArray, List.set_cons_zero, List.set_cons_succ, h0, h1] at hK ⊢
    have HK := Lib.hid hK
    clear hK hp
    refine ⟨?_⟩
    go_simp
    refine (addN_any _ _ (xa) (xb) W (N7.below hb) (N8.below hb) 2 2 sa sb (by omega) (HT.out.below (below_trans B1 hb))).mono ?_
    rintro e W9 ⟨r9, rfl, hr9, hb9⟩
    exact HK.out _ _ hr9 hb9
  · intro ts W hb hB hp
    intro K hK
    simp only [fillT, Nat.zero_add, Nat.reduceAdd, List.setIfInBounds_toArray, List.set_cons_zero, List.set_cons_succ] at hK ⊢
    refine ⟨?_⟩
    refine wp_load_row _ _ rfl (g8) rfl _ _ (0, 0) _ ((hb.block _ (z8)).trans X8) Tryd.underlying29 rfl (by kernel_rfl) ?_
    exact hK _ _ rfl (Below.refl _ _)
  · intro ts W hb hB hp
    intro K hK
    simp only [fillT, Nat.zero_add, Nat.reduceAdd, List.setIfInBounds_toArray, List.set_cons_zero, List.set_cons_succ] at hK ⊢
    refine ⟨?_⟩
    refine wp_load_row _ _ rfl (g7) rfl _ _ (0, 0) _ ((hb.block _ (z7)).trans X7) Tryd.underlying29 rfl (by kernel_rfl) ?_
    exact hK _ _ rfl (Below.refl _ _)
  · intro ts W hb hB hp
    have h3 : ts 3 = _ := hp 3 (by kernel_rfl)
    have h4 : ts 4 = _ := hp 4 (by kernel_rfl)
    intro K hK
    simp only [fillT, Nat.zero_add, Nat.reduceAdd, List.setIfInBounds_toArray, List.set_cons_zero, List.set_cons_succ, h3, h4] at hK ⊢
    have HK := Lib.hid hK
    clear hK hp
    refine ⟨?_⟩
    go_simp
    refine (addN_any _ _ (xb) (xa) W (N8.below hb) (N7.below hb) 2 2 sb sa (by omega) (HT.out.below (below_trans B1 hb))).mono ?_
    rintro e W9 ⟨r9, rfl, hr9, hb9⟩
    exact HK.out _ _ hr9 hb9
  · intro ts W hb hB hp
    have h2 : IsNum W (ts 2) ((xa).add (xb)) := hp 2 (by kernel_rfl)
    have h5 : IsNum W (ts 5) ((xb).add (xa)) := hp 5 (by kernel_rfl)
    intro K hK
    simp only [fillT, Nat.zero_add, Nat.reduceAdd, List.setIfInBounds_toArray, List.set_cons_zero, List.set_cons_succ] at hK ⊢
    have HK := Lib.hid hK
    clear hK hp
    refine ⟨?_⟩
    go_simp
    refine (sameN_k _ _ ((xa).add (xb)) ((xb).add (xa)) W h2 h5 5 (Sz.mono ((sa).add (sb)) (by omega)) (Sz.mono ((sb).add (sa)) (by omega)) (by omega) (same_t (Cx.add_comm _ _))).mono ?_
    rintro e W9 ⟨rfl, hb9⟩
    exact HK.out _ _ rfl hb9
  · intro ts W hb hB hp
    have h6 : ts 6 = _ := hp 6 (by kernel_rfl)
    intro K hK
    simp only [fillT, Nat.zero_add, Nat.reduceAdd, List.setIfInBounds_toArray, List.set_cons_zero, List.set_cons_succ, h6] at hK ⊢
    have HK := Lib.hid hK
    clear hK hp
    refine ⟨?_⟩
    go_simp
    exact HK.out _ _ rfl (Below.refl _ _)
  · intro ts W hb hB hp
    have h7 : ts 7 = _ := hp 7 (by kernel_rfl)
    intro K hK
    simp only [fillT, Nat.zero_add, Nat.reduceAdd, List.setIfInBounds_toArray, List.set_cons_zero, List.set_cons_succ, h7] at hK ⊢
    have HK := Lib.hid hK
    clear hK hp
    refine ⟨?_⟩
    go_simp
    exact HK.out _ _ rfl (Below.refl _ _)
  · intro ts W hb hB hp
    have h8 : ts 8 = _ := hp 8 (by kernel_rfl)
    refine Guarded.on h8 ?_
    clear h8
    intro K hK
    simp only [fillT, Nat.zero_add, Nat.reduceAdd, List.setIfInBounds_toArray, List.set_cons_zero, List.set_cons_succ] at hK ⊢
    refine ⟨?_⟩
    refine wp_load_row _ _ rfl (g7) rfl _ _ (0, 0) _ ((hb.block _ (z7)).trans X7) Tryd.underlying29 rfl (by kernel_rfl) ?_
    exact hK _ _ rfl (Below.refl _ _)
  · intro ts W hb hB hp
    have h8 : ts 8 = _ := hp 8 (by kernel_rfl)
    refine Guarded.on h8 ?_
    clear h8
    intro K hK
    simp only [fillT, Nat.zero_add, Nat.reduceAdd, List.setIfInBounds_toArray, List.set_cons_zero, List.set_cons_succ] at hK ⊢
    refine ⟨?_⟩
    refine wp_load_row _ _ rfl (g8) rfl _ _ (0, 0) _ ((hb.block _ (z8)).trans X8) Tryd.underlying29 rfl (by kernel_rfl) ?_
    exact hK _ _ rfl (Below.refl _ _)
  · intro ts W hb hB hp
    have h9 : ts 9 = _ := hp 9 (by kernel_rfl)
    have h10 : ts 10 = _ := hp 10 (by kernel_rfl)
    have h8 : ts 8 = _ := hp 8 (by kernel_rfl)
    refine Guarded.on h8 ?_
    clear h8
    intro K hK
    simp only [fillT, Nat.zero_add, Nat.reduceAdd, List.setIfInBounds_toArray, List.set_cons_zero, List.set_cons_succ, h9, h10] at hK ⊢
    have HK := Lib.hid hK
    clear hK hp
    refine ⟨?_⟩
    go_simp
    refine (mulN_any _ _ (xa) (xb) W (N7.below hb) (N8.below hb) 2 2 sa sb (by omega) (HT.out.below (below_trans B1 hb))).mono ?_
    rintro e W9 ⟨r9, rfl, hr9, hb9⟩
    exact HK.out _ _ hr9 hb9
  · intro ts W hb hB hp
    have h8 : ts 8 = _ := hp 8 (by kernel_rfl)
    refine Guarded.on h8 ?_
    clear h8
    intro K hK
    simp only [fillT, Nat.zero_add, Nat.reduceAdd, List.setIfInBounds_toArray, List.set_cons_zero, List.set_cons_succ] at hK ⊢
    refine ⟨?_⟩
    refine wp_load_row _ _ rfl (g8) rfl _ _ (0, 0) _ ((hb.block _ (z8)).trans X8) Tryd.underlying29 rfl (by kernel_rfl) ?_
    exact hK _ _ rfl (Below.refl _ _)
  · intro ts W hb hB hp
    have h8 : ts 8 = _ := hp 8 (by kernel_rfl)
    refine Guarded.on h8 ?_
    clear h8
    intro K hK
    simp only [fillT, Nat.zero_add, Nat.reduceAdd, List.setIfInBounds_toArray, List.set_cons_zero, List.set_cons_succ] at hK ⊢
    refine ⟨?_⟩
    refine wp_load_row _ _ rfl (g7) rfl _ _ (0, 0) _ ((hb.block _ (z7)).trans X7) Tryd.underlying29 rfl (by kernel_rfl) ?_
    exact hK _ _ rfl (Below.refl _ _)
  · intro ts W hb hB hp
    have h12 : ts 12 = _ := hp 12 (by kernel_rfl)
    have h13 : ts 13 = _ := hp 13 (by kernel_rfl)
    have h8 : ts 8 = _ := hp 8 (by kernel_rfl)
    refine Guarded.on h8 ?_
    clear h8
    intro K hK
    simp only [fillT, Nat.zero_add, Nat.reduceAdd, List.setIfInBounds_toArray, List.set_cons_zero, List.set_cons_succ, h12, h13] at hK ⊢
    have HK := Lib.hid hK
    clear hK hp
    refine ⟨?_⟩
    go_simp
    refine (mulN_any _ _ (xb) (xa) W (N8.below hb) (N7.below hb) 2 2 sb sa (by omega) (HT.out.below (below_trans B1 hb))).mono ?_
    rintro e W9 ⟨r9, rfl, hr9, hb9⟩
    exact HK.out _ _ hr9 hb9
  · intro ts W hb hB hp
    have h11 : IsNum W (ts 11) ((xa).mul (xb)) := hp 11 (by kernel_rfl)
    have h14 : IsNum W (ts 14) ((xb).mul (xa)) := hp 14 (by kernel_rfl)
    have h8 : ts 8 = _ := hp 8 (by kernel_rfl)
    refine Guarded.on h8 ?_
    clear h8
    intro K hK
    simp only [fillT, Nat.zero_add, Nat.reduceAdd, List.setIfInBounds_toArray, List.set_cons_zero, List.set_cons_succ] at hK ⊢
    have HK := Lib.hid hK
    clear hK hp
    refine ⟨?_⟩
    go_simp
    refine (sameN_k _ _ ((xa).mul (xb)) ((xb).mul (xa)) W h11 h14 5 (Sz.mono ((sa).mul (sb)) (by omega)) (Sz.mono ((sb).mul (sa)) (by omega)) (by omega) (same_t (Cx.mul_comm _ _))).mono ?_
    rintro e W9 ⟨rfl, hb9⟩
    exact HK.out _ _ rfl hb9
  · intro ts W hb hB hp
    have h15 : ts 15 = _ := hp 15 (by kernel_rfl)
    have h8 : ts 8 = _ := hp 8 (by kernel_rfl)
    refine Guarded.on h8 ?_
    clear h8
    intro K hK
    simp only [fillT, Nat.zero_add, Nat.reduceAdd, List.setIfInBounds_toArray, List.set_cons_zero, List.set_cons_succ, h15] at hK ⊢
    have HK := Lib.hid hK
    clear hK hp
    refine ⟨?_⟩
    go_simp
    exact HK.out _ _ rfl (Below.refl _ _)
  · intro ts W hb hB hp
    have h8 : ts 8 = _ := hp 8 (by kernel_rfl)
    have h16 : ts 16 = _ := hp 16 (by kernel_rfl)
    intro K hK
    simp only [fillT, Nat.zero_add, Nat.reduceAdd, List.setIfInBounds_toArray, List.set_cons_zero, List.set_cons_succ, h8, h16] at hK ⊢
    have HK := Lib.hid hK
    clear hK hp
    refine ⟨?_⟩
    go_simp
    exact HK.out _ _ rfl (Below.refl _ _)
  · intro ts W hb hB hp
    have h17 : ts 17 = _ := hp 17 (by kernel_rfl)
    intro K hK
    simp only [fillT, Nat.zero_add, Nat.reduceAdd, List.setIfInBounds_toArray, List.set_cons_zero, List.set_cons_succ, h17] at hK ⊢
    have HK := Lib.hid hK
    clear hK hp
    refine ⟨?_⟩
    go_simp
    exact HK.out _ _ rfl (Below.refl _ _)
  · intro ts W hb hB hp
    have h18 : ts 18 = _ := hp 18 (by kernel_rfl)
    refine Guarded.on h18 ?_
    clear h18
    intro K hK
    simp only [fillT, Nat.zero_add, Nat.reduceAdd, List.setIfInBounds_toArray, List.set_cons_zero, List.set_cons_succ] at hK ⊢
    refine ⟨?_⟩
    refine wp_load_row _ _ rfl (g7) rfl _ _ (0, 0) _ ((hb.block _ (z7)).trans X7) Tryd.underlying29 rfl (by kernel_rfl) ?_
    exact hK _ _ rfl (Below.refl _ _)
  · intro ts W hb hB hp
    have h18 : ts 18 = _ := hp 18 (by kernel_rfl)
    refine Guarded.on h18 ?_
    clear h18
    intro K hK
    simp only [fillT, Nat.zero_add, Nat.reduceAdd, List.setIfInBounds_toArray, List.set_cons_zero, List.set_cons_succ] at hK ⊢
    refine ⟨?_⟩
    refine wp_load_row _ _ rfl (g8) rfl _ _ (0, 0) _ ((hb.block _ (z8)).trans X8) Tryd.underlying29 rfl (by kernel_rfl) ?_
    exact hK _ _ rfl (Below.refl _ _)
  · intro ts W hb hB hp
    have h19 : ts 19 = _ := hp 19 (by kernel_rfl)
    have h20 : ts 20 = _ := hp 20 (by kernel_rfl)
    have h18 : ts 18 = _ := hp 18 (by kernel_rfl)
    refine Guarded.on h18 ?_
    clear h18
    intro K hK
    simp only [fillT, Nat.zero_add, Nat.reduceAdd, List.setIfInBounds_toArray, List.set_cons_zero, List.set_cons_succ, h19, h20] at hK ⊢
    have HK := Lib.hid hK
    clear hK hp
    refine ⟨?_⟩
    go_simp
    refine (addN_any _ _ (xa) (xb) W (N7.below hb) (N8.below hb) 2 2 sa sb (by omega) (HT.out.below (below_trans B1 hb))).mono ?_
    rintro e W9 ⟨r9, rfl, hr9, hb9⟩
    exact HK.out _ _ hr9 hb9
  · intro ts W hb hB hp
    have h18 : ts 18 = _ := hp 18 (by kernel_rfl)
    refine Guarded.on h18 ?_
    clear h18
    intro K hK
    simp only [fillT, Nat.zero_add, Nat.reduceAdd, List.setIfInBounds_toArray, List.set_cons_zero, List.set_cons_succ] at hK ⊢
    refine ⟨?_⟩
    refine wp_load_row _ _ rfl (g9) rfl _ _ (0, 0) _ ((hb.block _ (z9)).trans X9) Tryd.underlying29 rfl (by kernel_rfl) ?_
    exact hK _ _ rfl (Below.refl _ _)
  · intro ts W hb hB hp
    have h21 : IsNum W (ts 21) ((xa).add (xb)) := hp 21 (by kernel_rfl)
    have h22 : ts 22 = _ := hp 22 (by kernel_rfl)
    have h18 : ts 18 = _ := hp 18 (by kernel_rfl)
    refine Guarded.on h18 ?_
    clear h18
    intro K hK
    simp only [fillT, Nat.zero_add, Nat.reduceAdd, List.setIfInBounds_toArray, List.set_cons_zero, List.set_cons_succ, h22] at hK ⊢
    have HK := Lib.hid hK
    clear hK hp
    refine ⟨?_⟩
    go_simp
    refine (addN_any _ _ ((xa).add (xb)) (xc) W h21 (N9.below hb) 5 2 ((sa).add (sb)) sc (by omega) (HT.out.below (below_trans B1 hb))).mono ?_
    rintro e W9 ⟨r9, rfl, hr9, hb9⟩
    exact HK.out _ _ hr9 hb9
  · intro ts W hb hB hp
    have h18 : ts 18 = _ := hp 18 (by kernel_rfl)
    refine Guarded.on h18 ?_
    clear h18
    intro K hK
    simp only [fillT, Nat.zero_add, Nat.reduceAdd, List.setIfInBounds_toArray, List.set_cons_zero, List.set_cons_succ] at hK ⊢
    refine ⟨?_⟩
    refine wp_load_row _ _ rfl (g7) rfl _ _ (0, 0) _ ((hb.block _ (z7)).trans X7) Tryd.underlying29 rfl (by kernel_rfl) ?_
    exact hK _ _ rfl (Below.refl _ _)
  · intro ts W hb hB hp
    have h18 : ts 18 = _ := hp 18 (by kernel_rfl)
    refine Guarded.on h18 ?_
    clear h18
    intro K hK
    simp only [fillT, Nat.zero_add, Nat.reduceAdd, List.setIfInBounds_toArray, List.set_cons_zero, List.set_cons_succ] at hK ⊢
    refine ⟨?_⟩
    refine wp_load_row _ _ rfl (g8) rfl _ _ (0, 0) _ ((hb.block _ (z8)).trans X8) Tryd.underlying29 rfl (by kernel_rfl) ?_
    exact hK _ _ rfl (Below.refl _ _)
  · intro ts W hb hB hp
    have h18 : ts 18 = _ := hp 18 (by kernel_rfl)
    refine Guarded.on h18 ?_
    clear h18
    intro K hK
    simp only [fillT, Nat.zero_add, Nat.reduceAdd, List.setIfInBounds_toArray, List.set_cons_zero, List.set_cons_succ] at hK ⊢
    refine ⟨?_⟩
    refine wp_load_row _ _ rfl (g9) rfl _ _ (0, 0) _ ((hb.block _ (z9)).trans X9) Tryd.underlying29 rfl (by kernel_rfl) ?_
    exact hK _ _ rfl (Below.refl _ _)
  · intro ts W hb hB hp
    have h25 : ts 25 = _ := hp 25 (by kernel_rfl)
    have h26 : ts 26 = _ := hp 26 (by kernel_rfl)
    have h18 : ts 18 = _ := hp 18 (by kernel_rfl)
    refine Guarded.on h18 ?_
    clear h18
    intro K hK
    simp only [fillT, Nat.zero_add, Nat.reduceAdd, List.setIfInBounds_toArray, List.set_cons_zero, List.set_cons_succ, h25, h26] at hK ⊢
    have HK := Lib.hid hK
    clear hK hp
    refine ⟨?_⟩
    go_simp
    refine (addN_any _ _ (xb) (xc) W (N8.below hb) (N9.below hb) 2 2 sb sc (by omega) (HT.out.below (below_trans B1 hb))).mono ?_
    rintro e W9 ⟨r9, rfl, hr9, hb9⟩
    exact HK.out _ _ hr9 hb9
  · intro ts W hb hB hp
    have h24 : ts 24 = _ := hp 24 (by kernel_rfl)
    have h27 : IsNum W (ts 27) ((xb).add (xc)) := hp 27 (by kernel_rfl)
    have h18 : ts 18 = _ := hp 18 (by kernel_rfl)
    refine Guarded.on h18 ?_
    clear h18
    intro K hK
    simp only [fillT, Nat.zero_add, Nat.reduceAdd, List.setIfInBounds_toArray, List.set_cons_zero, List.set_cons_succ, h24] at hK ⊢
    have HK := Lib.hid hK
    clear hK hp
    refine ⟨?_⟩
    go_simp
    refine (addN_any _ _ (xa) ((xb).add (xc)) W (N7.below hb) h27 2 5 sa ((sb).add (sc)) (by omega) (HT.out.below (below_trans B1 hb))).mono ?_
    rintro e W9 ⟨r9, rfl, hr9, hb9⟩
    exact HK.out _ _ hr9 hb9
  · intro ts W hb hB hp
    have h23 : IsNum W (ts 23) (((xa).add (xb)).add (xc)) := hp 23 (by kernel_rfl)
    have h28 : IsNum W (ts 28) ((xa).add ((xb).add (xc))) := hp 28 (by kernel_rfl)
    have h18 : ts 18 = _ := hp 18 (by kernel_rfl)
    refine Guarded.on h18 ?_
    clear h18
    intro K hK
    simp only [fillT, Nat.zero_add, Nat.reduceAdd, List.setIfInBounds_toArray, List.set_cons_zero, List.set_cons_succ] at hK ⊢
    have HK := Lib.hid hK
    clear hK hp
    refine ⟨?_⟩
    go_simp
    refine (sameN_k _ _ (((xa).add (xb)).add (xc)) ((xa).add ((xb).add (xc))) W h23 h28 8 (Sz.mono ((((sa).add (sb))).add (sc)) (by omega)) (Sz.mono ((sa).add (((sb).add (sc)))) (by omega)) (by omega) (same_t (Cx.add_assoc _ _ _))).mono ?_
    rintro e W9 ⟨rfl, hb9⟩
    exact HK.out _ _ rfl hb9
  · intro ts W hb hB hp
    have h29 : ts 29 = _ := hp 29 (by kernel_rfl)
    have h18 : ts 18 = _ := hp 18 (by kernel_rfl)
    refine Guarded.on h18 ?_
    clear h18
    intro K hK
    simp only [fillT, Nat.zero_add, Nat.reduceAdd, List.setIfInBounds_toArray, List.set_cons_zero, List.set_cons_succ, h29] at hK ⊢
    have HK := Lib.hid hK
    clear hK hp
    refine ⟨?_⟩
    go_simp
    exact HK.out _ _ rfl (Below.refl _ _)
  · intro ts W hb hB hp
    have h18 : ts 18 = _ := hp 18 (by kernel_rfl)
    have h30 : ts 30 = _ := hp 30 (by kernel_rfl)
    intro K hK
    simp only [fillT, Nat.zero_add, Nat.reduceAdd, List.setIfInBounds_toArray, List.set_cons_zero, List.set_cons_succ, h18, h30] at hK ⊢
    have HK := Lib.hid hK
    clear hK hp
    refine ⟨?_⟩
    go_simp
    exact HK.out _ _ rfl (Below.refl _ _)
  · intro ts W hb hB hp
    have h31 : ts 31 = _ := hp 31 (by kernel_rfl)
    intro K hK
    simp only [fillT, Nat.zero_add, Nat.reduceAdd, List.setIfInBounds_toArray, List.set_cons_zero, List.set_cons_succ, h31] at hK ⊢
    have HK := Lib.hid hK
    clear hK hp
    refine ⟨?_⟩
    go_simp
    exact HK.out _ _ rfl (Below.refl _ _)
  · intro ts W hb hB hp
    have h32 : ts 32 = _ := hp 32 (by kernel_rfl)
    refine Guarded.on h32 ?_
    clear h32
    intro K hK
    simp only [fillT, Nat.zero_add, Nat.reduceAdd, List.setIfInBounds_toArray, List.set_cons_zero, List.set_cons_succ] at hK ⊢
    refine ⟨?_⟩
    refine wp_load_row _ _ rfl (g7) rfl _ _ (0, 0) _ ((hb.block _ (z7)).trans X7) Tryd.underlying29 rfl (by kernel_rfl) ?_
    exact hK _ _ rfl (Below.refl _ _)
  · intro ts W hb hB hp
    have h32 : ts 32 = _ := hp 32 (by kernel_rfl)
    refine Guarded.on h32 ?_
    clear h32
    intro K hK
    simp only [fillT, Nat.zero_add, Nat.reduceAdd, List.setIfInBounds_toArray, List.set_cons_zero, List.set_cons_succ] at hK ⊢
    refine ⟨?_⟩
    refine wp_load_row _ _ rfl (g8) rfl _ _ (0, 0) _ ((hb.block _ (z8)).trans X8) Tryd.underlying29 rfl (by kernel_rfl) ?_
    exact hK _ _ rfl (Below.refl _ _)
  · intro ts W hb hB hp
    have h33 : ts 33 = _ := hp 33 (by kernel_rfl)
    have h34 : ts 34 = _ := hp 34 (by kernel_rfl)
    have h32 : ts 32 = _ := hp 32 (by kernel_rfl)
    refine Guarded.on h32 ?_
    clear h32
    intro K hK
    simp only [fillT, Nat.zero_add, Nat.reduceAdd, List.setIfInBounds_toArray, List.set_cons_zero, List.set_cons_succ, h33, h34] at hK ⊢
    have HK := Lib.hid hK
    clear hK hp
    refine ⟨?_⟩
    go_simp
    refine (mulN_any _ _ (xa) (xb) W (N7.below hb) (N8.below hb) 2 2 sa sb (by omega) (HT.out.below (below_trans B1 hb))).mono ?_
    rintro e W9 ⟨r9, rfl, hr9, hb9⟩
    exact HK.out _ _ hr9 hb9
  · intro ts W hb hB hp
    have h32 : ts 32 = _ := hp 32 (by kernel_rfl)
    refine Guarded.on h32 ?_
    clear h32
    intro K hK
    simp only [fillT, Nat.zero_add, Nat.reduceAdd, List.setIfInBounds_toArray, List.set_cons_zero, List.set_cons_succ] at hK ⊢
    refine ⟨?_⟩
    refine wp_load_row _ _ rfl (g9) rfl _ _ (0, 0) _ ((hb.block _ (z9)).trans X9) Tryd.underlying29 rfl (by kernel_rfl) ?_
    exact hK _ _ rfl (Below.refl _ _)
  · intro ts W hb hB hp
    have h35 : IsNum W (ts 35) ((xa).mul (xb)) := hp 35 (by kernel_rfl)
    have h36 : ts 36 = _ := hp 36 (by kernel_rfl)
    have h32 : ts 32 = _ := hp 32 (by kernel_rfl)
    refine Guarded.on h32 ?_
    clear h32
    intro K hK
    simp only [fillT, Nat.zero_add, Nat.reduceAdd, List.setIfInBounds_toArray, List.set_cons_zero, List.set_cons_succ, h36] at hK ⊢
    have HK := Lib.hid hK
    clear hK hp
    refine ⟨?_⟩
    go_simp
    refine (mulN_any _ _ ((xa).mul (xb)) (xc) W h35 (N9.below hb) 5 2 ((sa).mul (sb)) sc (by omega) (HT.out.below (below_trans B1 hb))).mono ?_
    rintro e W9 ⟨r9, rfl, hr9, hb9⟩
    exact HK.out _ _ hr9 hb9
  · intro ts W hb hB hp
    have h32 : ts 32 = _ := hp 32 (by kernel_rfl)
    refine Guarded.on h32 ?_
    clear h32
    intro K hK
    simp only [fillT, Nat.zero_add, Nat.reduceAdd, List.setIfInBounds_toArray, List.set_cons_zero, List.set_cons_succ] at hK ⊢
    refine ⟨?_⟩
    refine wp_load_row _ _ rfl (g7) rfl _ _ (0, 0) _ ((hb.block _ (z7)).trans X7) Tryd.underlying29 rfl (by kernel_rfl) ?_
    exact hK _ _ rfl (Below.refl _ _)
  · intro ts W hb hB hp
    have h32 : ts 32 = _ := hp 32 (by kernel_rfl)
    refine Guarded.on h32 ?_
    clear h32
    intro K hK
    simp only [fillT, Nat.zero_add, Nat.reduceAdd, List.setIfInBounds_toArray, List.set_cons_zero, List.set_cons_succ] at hK ⊢
    refine ⟨?_⟩
    refine wp_load_row _ _ rfl (g8) rfl _ _ (0, 0) _ ((hb.block _ (z8)).trans X8) Tryd.underlying29 rfl (by kernel_rfl) ?_
    exact hK _ _ rfl (Below.refl _ _)
  · intro ts W hb hB hp
    have h32 : ts 32 = _ := hp 32 (by kernel_rfl)
    refine Guarded.on h32 ?_
    clear h32
    intro K hK
    simp only [fillT, Nat.zero_add, Nat.reduceAdd, List.setIfInBounds_toArray, List.set_cons_zero, List.set_cons_succ] at hK ⊢
    refine ⟨?_⟩
    refine wp_load_row _ _ rfl (g9) rfl _ _ (0, 0) _ ((hb.block _ (z9)).trans X9) Tryd.underlying29 rfl (by kernel_rfl) ?_
    exact hK _ _ rfl (Below.refl _ _)
  · intro ts W hb hB hp
    have h39 : ts 39 = _ := hp 39 (by kernel_rfl)
    have h40 : ts 40 = _ := hp 40 (by kernel_rfl)
    have h32 : ts 32 = _ := hp 32 (by kernel_rfl)
    refine Guarded.on h32 ?_
    clear h32
    intro K hK
    simp only [fillT, Nat.zero_add, Nat.reduceAdd, List.setIfInBounds_toArray, List.set_cons_zero, List.set_cons_succ, h39, h40] at hK ⊢
    have HK := Lib.hid hK
    clear hK hp
    refine ⟨?_⟩
    go_simp
    refine (mulN_any _ _ (xb) (xc) W (N8.below hb) (N9.below hb) 2 2 sb sc (by omega) (HT.out.below (below_trans B1 hb))).mono ?_
    rintro e W9 ⟨r9, rfl, hr9, hb9⟩
    exact HK.out _ _ hr9 hb9
  · intro ts W hb hB hp
    have h38 : ts 38 = _ := hp 38 (by kernel_rfl)
    have h41 : IsNum W (ts 41) ((xb).mul (xc)) := hp 41 (by kernel_rfl)
    have h32 : ts 32 = _ := hp 32 (by kernel_rfl)
    refine Guarded.on h32 ?_
    clear h32
    intro K hK
    simp only [fillT, Nat.zero_add, Nat.reduceAdd, List.setIfInBounds_toArray, List.set_cons_zero, List.set_cons_succ, h38] at hK ⊢
    have HK := Lib.hid hK
    clear hK hp
    refine ⟨?_⟩
    go_simp
    refine (mulN_any _ _ (xa) ((xb).mul (xc)) W (N7.below hb) h41 2 5 sa ((sb).mul (sc)) (by omega) (HT.out.below (below_trans B1 hb))).mono ?_
    rintro e W9 ⟨r9, rfl, hr9, hb9⟩
    exact HK.out _ _ hr9 hb9
  · intro ts W hb hB hp
    have h37 : IsNum W (ts 37) (((xa).mul (xb)).mul (xc)) := hp 37 (by kernel_rfl)
    have h42 : IsNum W (ts 42) ((xa).mul ((xb).mul (xc))) := hp 42 (by kernel_rfl)
    have h32 : ts 32 = _ := hp 32 (by kernel_rfl)
    refine Guarded.on h32 ?_
    clear h32
    intro K hK
    simp only [fillT, Nat.zero_add, Nat.reduceAdd, List.setIfInBounds_toArray, List.set_cons_zero, List.set_cons_succ] at hK ⊢
    have HK := Lib.hid hK
    clear hK hp
    refine ⟨?_⟩
    go_simp
    refine (sameN_k _ _ (((xa).mul (xb)).mul (xc)) ((xa).mul ((xb).mul (xc))) W h37 h42 8 (Sz.mono ((((sa).mul (sb))).mul (sc)) (by omega)) (Sz.mono ((sa).mul (((sb).mul (sc)))) (by omega)) (by omega) (same_t (Cx.mul_assoc _ _ _))).mono ?_
    rintro e W9 ⟨rfl, hb9⟩
    exact HK.out _ _ rfl hb9
  · intro ts W hb hB hp
    have h43 : ts 43 = _ := hp 43 (by kernel_rfl)
    have h32 : ts 32 = _ := hp 32 (by kernel_rfl)
    refine Guarded.on h32 ?_
    clear h32
    intro K hK
    simp only [fillT, Nat.zero_add, Nat.reduceAdd, List.setIfInBounds_toArray, List.set_cons_zero, List.set_cons_succ, h43] at hK ⊢
    have HK := Lib.hid hK
    clear hK hp
    refine ⟨?_⟩
    go_simp
    exact HK.out _ _ rfl (Below.refl _ _)
  · intro ts W hb hB hp
    have h32 : ts 32 = _ := hp 32 (by kernel_rfl)
    have h44 : ts 44 = _ := hp 44 (by kernel_rfl)
    intro K hK
    simp only [fillT, Nat.zero_add, Nat.reduceAdd, List.setIfInBounds_toArray, List.set_cons_zero, List.set_cons_succ, h32, h44] at hK ⊢
    have HK := Lib.hid hK
    clear hK hp
    refine ⟨?_⟩
    go_simp
    exact HK.out _ _ rfl (Below.refl _ _)
  intro ts V1 hbq hh hap
  have e45 := held_is (hh 45 (by simp)) rfl
  simp only [fillT, Nat.zero_add, Nat.reduceAdd, List.setIfInBounds_toArray, List.set_cons_zero, List.set_cons_succ, e45]
  clear hh hap e45
  generalize ts 0 = u0_V1 at *
  generalize ts 1 = u1_V1 at *
  generalize ts 2 = u2_V1 at *
  generalize ts 3 = u3_V1 at *
  generalize ts 4 = u4_V1 at *
  generalize ts 5 = u5_V1 at *
  generalize ts 6 = u6_V1 at *
  generalize ts 7 = u7_V1 at *
  generalize ts 8 = u8_V1 at *
  generalize ts 9 = u9_V1 at *
  generalize ts 10 = u10_V1 at *
  generalize ts 11 = u11_V1 at *
  generalize ts 12 = u12_V1 at *
  generalize ts 13 = u13_V1 at *
  generalize ts 14 = u14_V1 at *
  generalize ts 15 = u15_V1 at *
  generalize ts 16 = u16_V1 at *
  generalize ts 17 = u17_V1 at *
  generalize ts 18 = u18_V1 at *
  generalize ts 19 = u19_V1 at *
  generalize ts 20 = u20_V1 at *
  generalize ts 21 = u21_V1 at *
  generalize ts 22 = u22_V1 at *
  generalize ts 23 = u23_V1 at *
  generalize ts 24 = u24_V1 at *
  generalize ts 25 = u25_V1 at *
  generalize ts 26 = u26_V1 at *
  generalize ts 27 = u27_V1 at *
  generalize ts 28 = u28_V1 at *
  generalize ts 29 = u29_V1 at *
  generalize ts 30 = u30_V1 at *
  generalize ts 31 = u31_V1 at *
  generalize ts 32 = u32_V1 at *
  generalize ts 33 = u33_V1 at *
  generalize ts 34 = u34_V1 at *
  generalize ts 35 = u35_V1 at *
  generalize ts 36 = u36_V1 at *
  generalize ts 37 = u37_V1 at *
  generalize ts 38 = u38_V1 at *
  generalize ts 39 = u39_V1 at *
  generalize ts 40 = u40_V1 at *
  generalize ts 41 = u41_V1 at *
  generalize ts 42 = u42_V1 at *
  generalize ts 43 = u43_V1 at *
  generalize ts 44 = u44_V1 at *
  clear ts
  replace X7 := (hbq.block _ z7).trans X7
  replace z7 := Nat.lt_of_lt_of_le z7 hbq.size
  replace X8 := (hbq.block _ z8).trans X8
  replace z8 := Nat.lt_of_lt_of_le z8 hbq.size
  replace X9 := (hbq.block _ z9).trans X9
  replace z9 := Nat.lt_of_lt_of_le z9 hbq.size
  replace N7 := N7.below hbq
  replace N8 := N8.below hbq
  replace N9 := N9.below hbq
  replace B1 := below_trans B1 hbq
  clear hbq
  go_upto_region 4 with fail
  refine region_lin (.val (kIs (.agg #[.slice A7 n7 c7, .bool p7, .slice A7b n7b c7b, .bool p7b, .slice A7c n7c c7c])) :: .val (kIs (.agg #[.slice A8 n8 c8, .bool p8, .slice A8b n8b c8b, .bool p8b, .slice A8c n8c c8c])) :: .val (kIs (.agg #[.slice A9 n9 c9, .bool p9, .slice A9b n9b c9b, .bool p9b, .slice A9c n9c c9c])) :: .val (kNum ((xb).add (xc))) :: .val (kNum ((xa).mul ((xb).add (xc)))) :: .val (kIs (.agg #[.slice A7 n7 c7, .bool p7, .slice A7b n7b c7b, .bool p7b, .slice A7c n7c c7c])) :: .val (kIs (.agg #[.slice A8 n8 c8, .bool p8, .slice A8b n8b c8b, .bool p8b, .slice A8c n8c c8c])) :: .val (kNum ((xa).mul (xb))) :: .val (kIs (.agg #[.slice A7 n7 c7, .bool p7, .slice A7b n7b c7b, .bool p7b, .slice A7c n7c c7c])) :: .val (kIs (.agg #[.slice A9 n9 c9, .bool p9, .slice A9b n9b c9b, .bool p9b, .slice A9c n9c c9c])) :: .val (kNum ((xa).mul (xc))) :: .val (kNum (((xa).mul (xb)).add ((xa).mul (xc)))) :: .val (kIs (.bool true)) :: .val (kIs (.bool false)) :: .val (kIs (.bool false)) :: .val (kIs (.agg #[.slice A7 n7 c7, .bool p7, .slice A7b n7b c7b, .bool p7b, .slice A7c n7c c7c])) :: .val (kIs (.agg #[.slice A8 n8 c8, .bool p8, .slice A8b n8b c8b, .bool p8b, .slice A8c n8c c8c])) :: .val (kNum ((xa).sub (xb))) :: .val (kIs (.agg #[.slice A8 n8 c8, .bool p8, .slice A8b n8b c8b, .bool p8b, .slice A8c n8c c8c])) :: .val (kNum (((xa).sub (xb)).add (xb))) :: .val (kIs (.agg #[.slice A7 n7 c7, .bool p7, .slice A7b n7b c7b, .bool p7b, .slice A7c n7c c7c])) :: .val (kIs (.bool true)) :: .val (kIs (.bool false)) :: .val (kIs (.bool false)) :: .val (kIs (.bool false)) :: .val (kIs (.agg #[.slice A7 n7 c7, .bool p7, .slice A7b n7b c7b, .bool p7b, .slice A7c n7c c7c])) :: .val (kIs (.agg #[.slice A7 n7 c7, .bool p7, .slice A7b n7b c7b, .bool p7b, .slice A7c n7c c7c])) :: .val (kNum ((xa).neg)) :: .val (kNum ((xa).add ((xa).neg))) :: .val (kNum (Cx.int 0)) :: .val (kIs (.bool true)) :: .val (kIs (.bool false)) :: .val (kIs (.bool false)) :: [])
    (by kernel_rfl) (by kernel_rfl) (by kernel_rfl) (by kernel_rfl) (by kernel_rfl) ⟨Stab.b (stab_is _), Stab.b (stab_is _), Stab.b (stab_is _), Stab.b (stab_num _), Stab.b (stab_num _), Stab.b (stab_is _), Stab.b (stab_is _), Stab.b (stab_num _), Stab.b (stab_is _), Stab.b (stab_is _), Stab.b (stab_num _), Stab.b (stab_num _), Stab.b (stab_is _), Stab.b (stab_is _), Stab.b (stab_is _), Stab.b (stab_is _), Stab.b (stab_is _), Stab.b (stab_num _), Stab.b (stab_is _), Stab.b (stab_num _), Stab.b (stab_is _), Stab.b (stab_is _), Stab.b (stab_is _), Stab.b (stab_is _), Stab.b (stab_is _), Stab.b (stab_is _), Stab.b (stab_is _), Stab.b (stab_num _), Stab.b (stab_num _), Stab.b (stab_num _), Stab.b (stab_is _), Stab.b (stab_is _), Stab.b (stab_is _), trivial⟩ (by simp) ⟨?_, ?_, ?_, ?_, ?_, ?_, ?_, ?_, ?_, ?_, ?_, ?_, ?_, ?_, ?_, ?_, ?_, ?_, ?_, ?_, ?_, ?_, ?_, ?_, ?_, ?_, ?_, ?_, ?_, ?_, ?_, ?_, ?_, trivial⟩ ?_
  · intro ts W hb hB hp
    intro K hK
    simp only [fillT, Nat.zero_add, Nat.reduceAdd, List.setIfInBounds_toArray, List.set_cons_zero, List.set_cons_succ] at hK ⊢
    refine ⟨?_⟩
    refine wp_load_row _ _ rfl (g7) rfl _ _ (0, 0) _ ((hb.block _ (z7)).trans X7) Tryd.underlying29 rfl (by kernel_rfl) ?_
    exact hK _ _ rfl (Below.refl _ _)
  · intro ts W hb hB hp
    intro K hK
    simp only [fillT, Nat.zero_add, Nat.reduceAdd, List.setIfInBounds_toArray, List.set_cons_zero, List.set_cons_succ] at hK ⊢
    refine ⟨?_⟩
    refine wp_load_row _ _ rfl (g8) rfl _ _ (0, 0) _ ((hb.block _ (z8)).trans X8) Tryd.underlying29 rfl (by kernel_rfl) ?_
    exact hK _ _ rfl (Below.refl _ _)
  · intro ts W hb hB hp
    intro K hK
    simp only [fillT, Nat.zero_add, Nat.reduceAdd, List.setIfInBounds_toArray, List.set_cons_zero, List.set_cons_succ] at hK ⊢
    refine ⟨?_⟩
    refine wp_load_row _ _ rfl (g9) rfl _ _ (0, 0) _ ((hb.block _ (z9)).trans X9) Tryd.underlying29 rfl (by kernel_rfl) ?_
    exact hK _ _ rfl (Below.refl _ _)
  · intro ts W hb hB hp
    have h1 : ts 1 = _ := hp 1 (by kernel_rfl)
    have h2 : ts 2 = _ := hp 2 (by kernel_rfl)
    intro K hK
    simp only [fillT, Nat.zero_add, Nat.reduceAdd, List.setIfInBounds_toArray, List.set_cons_zero, List.set_cons_succ, h1, h2] at hK ⊢
    have HK := Lib.hid hK
    clear hK hp
    refine ⟨?_⟩
    go_simp
    refine (addN_any _ _ (xb) (xc) W (N8.below hb) (N9.below hb) 2 2 sb sc (by omega) (HT.out.below (below_trans B1 hb))).mono ?_
    rintro e W9 ⟨r9, rfl, hr9, hb9⟩
    exact HK.out _ _ hr9 hb9
  · intro ts W hb hB hp
    have h0 : ts 0 = _ := hp 0 (by kernel_rfl)
    have h3 : IsNum W (ts 3) ((xb).add (xc)) := hp 3 (by kernel_rfl)
    intro K hK
    simp only [fillT, Nat.zero_add, Nat.reduceAdd, List.setIfInBounds_toArray, List.set_cons_zero, List.set_cons_succ, h0] at hK ⊢
    have HK := Lib.hid hK
    clear hK hp
    refine ⟨?_⟩
    go_simp
    refine (mulN_any _ _ (xa) ((xb).add (xc)) W (N7.below hb) h3 2 5 sa ((sb).add (sc)) (by omega) (HT.out.below (below_trans B1 hb))).mono ?_
    rintro e W9 ⟨r9, rfl, hr9, hb9⟩
    exact HK.out _ _ hr9 hb9
  · intro ts W hb hB hp
    intro K hK
    simp only [fillT, Nat.zero_add, Nat.reduceAdd, List.setIfInBounds_toArray, List.set_cons_zero, List.set_cons_succ] at hK ⊢
    refine ⟨?_⟩
    refine wp_load_row _ _ rfl (g7) rfl _ _ (0, 0) _ ((hb.block _ (z7)).trans X7) Tryd.underlying29 rfl (by kernel_rfl) ?_
    exact hK _ _ rfl (Below.refl _ _)
  · intro ts W hb hB hp
    intro K hK
    simp only [fillT, Nat.zero_add, Nat.reduceAdd, List.setIfInBounds_toArray, List.set_cons_zero, List.set_cons_succ] at hK ⊢
    refine ⟨?_⟩
    refine wp_load_row _ _ rfl (g8) rfl _ _ (0, 0) _ ((hb.block _ (z8)).trans X8) Tryd.underlying29 rfl (by kernel_rfl) ?_
    exact hK _ _ rfl (Below.refl _ _)
  · intro ts W hb hB hp
    have h5 : ts 5 = _ := hp 5 (by kernel_rfl)
    have h6 : ts 6 = _ := hp 6 (by kernel_rfl)
    intro K hK
    simp only [fillT, Nat.zero_add, Nat.reduceAdd, List.setIfInBounds_toArray, List.set_cons_zero, List.set_cons_succ, h5, h6] at hK ⊢
    have HK := Lib.hid hK
    clear hK hp
    refine ⟨?_⟩
    go_simp
    refine (mulN_any _ _ (xa) (xb) W (N7.below hb) (N8.below hb) 2 2 sa sb (by omega) (HT.out.below (below_trans B1 hb))).mono ?_
    rintro e W9 ⟨r9, rfl, hr9, hb9⟩
    exact HK.out _ _ hr9 hb9
  · intro ts W hb hB hp
    intro K hK
    simp only [fillT, Nat.zero_add, Nat.reduceAdd, List.setIfInBounds_toArray, List.set_cons_zero, List.set_cons_succ] at hK ⊢
    refine ⟨?_⟩
    refine wp_load_row _ _ rfl (g7) rfl _ _ (0, 0) _ ((hb.block _ (z7)).trans X7) Tryd.underlying29 rfl (by kernel_rfl) ?_
    exact hK _ _ rfl (Below.refl _ _)
  · intro ts W hb hB hp
    intro K hK
    simp only [fillT, Nat.zero_add, Nat.reduceAdd, List.setIfInBounds_toArray, List.set_cons_zero, List.set_cons_succ] at hK ⊢
    refine ⟨?_⟩
    refine wp_load_row _ _ rfl (g9) rfl _ _ (0, 0) _ ((hb.block _ (z9)).trans X9) Tryd.underlying29 rfl (by kernel_rfl) ?_
    exact hK _ _ rfl (Below.refl _ _)
  · intro ts W hb hB hp
    have h8 : ts 8 = _ := hp 8 (by kernel_rfl)
    have h9 : ts 9 = _ := hp 9 (by kernel_rfl)
    intro K hK
    simp only [fillT, Nat.zero_add, Nat.reduceAdd, List.setIfInBounds_toArray, List.set_cons_zero, List.set_cons_succ, h8, h9] at hK ⊢
    have HK := Lib.hid hK
    clear hK hp
    refine ⟨?_⟩
    go_simp
    refine (mulN_any _ _ (xa) (xc) W (N7.below hb) (N9.below hb) 2 2 sa sc (by omega) (HT.out.below (below_trans B1 hb))).mono ?_
    rintro e W9 ⟨r9, rfl, hr9, hb9⟩
    exact HK.out _ _ hr9 hb9
  · intro ts W hb hB hp
    have h7 : IsNum W (ts 7) ((xa).mul (xb)) := hp 7 (by kernel_rfl)
    have h10 : IsNum W (ts 10) ((xa).mul (xc)) := hp 10 (by kernel_rfl)
    intro K hK
    simp only [fillT, Nat.zero_add, Nat.reduceAdd, List.setIfInBounds_toArray, List.set_cons_zero, List.set_cons_succ] at hK ⊢
    have HK := Lib.hid hK
    clear hK hp
    refine ⟨?_⟩
    go_simp
    refine (addN_any _ _ ((xa).mul (xb)) ((xa).mul (xc)) W h7 h10 5 5 ((sa).mul (sb)) ((sa).mul (sc)) (by omega) (HT.out.below (below_trans B1 hb))).mono ?_
    rintro e W9 ⟨r9, rfl, hr9, hb9⟩
    exact HK.out _ _ hr9 hb9
  · intro ts W hb hB hp
    have h4 : IsNum W (ts 4) ((xa).mul ((xb).add (xc))) := hp 4 (by kernel_rfl)
    have h11 : IsNum W (ts 11) (((xa).mul (xb)).add ((xa).mul (xc))) := hp 11 (by kernel_rfl)
    intro K hK
    simp only [fillT, Nat.zero_add, Nat.reduceAdd, List.setIfInBounds_toArray, List.set_cons_zero, List.set_cons_succ] at hK ⊢
    have HK := Lib.hid hK
    clear hK hp
    refine ⟨?_⟩
    go_simp
    refine (sameN_k _ _ ((xa).mul ((xb).add (xc))) (((xa).mul (xb)).add ((xa).mul (xc))) W h4 h11 11 (Sz.mono ((sa).mul (((sb).add (sc)))) (by omega)) (Sz.mono ((((sa).mul (sb))).add (((sa).mul (sc)))) (by omega)) (by omega) (same_t (Cx.mul_add _ _ _))).mono ?_
    rintro e W9 ⟨rfl, hb9⟩
    exact HK.out _ _ rfl hb9
  · intro ts W hb hB hp
    have h12 : ts 12 = _ := hp 12 (by kernel_rfl)
    intro K hK
    simp only [fillT, Nat.zero_add, Nat.reduceAdd, List.setIfInBounds_toArray, List.set_cons_zero, List.set_cons_succ, h12] at hK ⊢
    have HK := Lib.hid hK
    clear hK hp
    refine ⟨?_⟩
    go_simp
    exact HK.out _ _ rfl (Below.refl _ _)
  · intro ts W hb hB hp
    have h13 : ts 13 = _ := hp 13 (by kernel_rfl)
    intro K hK
    simp only [fillT, Nat.zero_add, Nat.reduceAdd, List.setIfInBounds_toArray, List.set_cons_zero, List.set_cons_succ, h13] at hK ⊢
    have HK := Lib.hid hK
    clear hK hp
    refine ⟨?_⟩
    go_simp
    exact HK.out _ _ rfl (Below.refl _ _)
  · intro ts W hb hB hp
    have h14 : ts 14 = _ := hp 14 (by kernel_rfl)
    refine Guarded.on h14 ?_
    clear h14
    intro K hK
    simp only [fillT, Nat.zero_add, Nat.reduceAdd, List.setIfInBounds_toArray, List.set_cons_zero, List.set_cons_succ] at hK ⊢
    refine ⟨?_⟩
    refine wp_load_row _ _ rfl (g7) rfl _ _ (0, 0) _ ((hb.block _ (z7)).trans X7) Tryd.underlying29 rfl (by kernel_rfl) ?_
    exact hK _ _ rfl (Below.refl _ _)
  · intro ts W hb hB hp
    have h14 : ts 14 = _ := hp 14 (by kernel_rfl)
    refine Guarded.on h14 ?_
    clear h14
    intro K hK
    simp only [fillT, Nat.zero_add, Nat.reduceAdd, List.setIfInBounds_toArray, List.set_cons_zero, List.set_cons_succ] at hK ⊢
    refine ⟨?_⟩
    refine wp_load_row _ _ rfl (g8) rfl _ _ (0, 0) _ ((hb.block _ (z8)).trans X8) Tryd.underlying29 rfl (by kernel_rfl) ?_
    exact hK _ _ rfl (Below.refl _ _)
  · intro ts W hb hB hp
    have h15 : ts 15 = _ := hp 15 (by kernel_rfl)
    have h16 : ts 16 = _ := hp 16 (by kernel_rfl)
    have h14 : ts 14 = _ := hp 14 (by kernel_rfl)
    refine Guarded.on h14 ?_
    clear h14
    intro K hK
    simp only [fillT, Nat.zero_add, Nat.reduceAdd, List.setIfInBounds_toArray, List.set_cons_zero, List.set_cons_succ, h15, h16] at hK ⊢
    have HK := Lib.hid hK
    clear hK hp
    refine ⟨?_⟩
    go_simp
    refine (subN_any _ _ (xa) (xb) W (N7.below hb) (N8.below hb) 2 2 sa sb (by omega) (HT.out.below (below_trans B1 hb))).mono ?_
    rintro e W9 ⟨r9, rfl, hr9, hb9⟩
    exact HK.out _ _ hr9 hb9
  · intro ts W hb hB hp
    have h14 : ts 14 = _ := hp 14 (by kernel_rfl)
    refine Guarded.on h14 ?_
    clear h14
    intro K hK
    simp only [fillT, Nat.zero_add, Nat.reduceAdd, List.setIfInBounds_toArray, List.set_cons_zero, List.set_cons_succ] at hK ⊢
    refine ⟨?_⟩
    refine wp_load_row _ _ rfl (g8) rfl _ _ (0, 0) _ ((hb.block _ (z8)).trans X8) Tryd.underlying29 rfl (by kernel_rfl) ?_
    exact hK _ _ rfl (Below.refl _ _)
  · intro ts W hb hB hp
    have h17 : IsNum W (ts 17) ((xa).sub (xb)) := hp 17 (by kernel_rfl)
    have h18 : ts 18 = _ := hp 18 (by kernel_rfl)
    have h14 : ts 14 = _ := hp 14 (by kernel_rfl)
    refine Guarded.on h14 ?_
    clear h14
    intro K hK
    simp only [fillT, Nat.zero_add, Nat.reduceAdd, List.setIfInBounds_toArray, List.set_cons_zero, List.set_cons_succ, h18] at hK ⊢
    have HK := Lib.hid hK
    clear hK hp
    refine ⟨?_⟩
    go_simp
    refine (addN_any _ _ ((xa).sub (xb)) (xb) W h17 (N8.below hb) 5 2 ((sa).sub (sb)) sb (by omega) (HT.out.below (below_trans B1 hb))).mono ?_
    rintro e W9 ⟨r9, rfl, hr9, hb9⟩
    exact HK.out _ _ hr9 hb9
  · intro ts W hb hB hp
    have h14 : ts 14 = _ := hp 14 (by kernel_rfl)
    refine Guarded.on h14 ?_
    clear h14
    intro K hK
    simp only [fillT, Nat.zero_add, Nat.reduceAdd, List.setIfInBounds_toArray, List.set_cons_zero, List.set_cons_succ] at hK ⊢
    refine ⟨?_⟩
    refine wp_load_row _ _ rfl (g7) rfl _ _ (0, 0) _ ((hb.block _ (z7)).trans X7) Tryd.underlying29 rfl (by kernel_rfl) ?_
    exact hK _ _ rfl (Below.refl _ _)
  · intro ts W hb hB hp
    have h19 : IsNum W (ts 19) (((xa).sub (xb)).add (xb)) := hp 19 (by kernel_rfl)
    have h20 : ts 20 = _ := hp 20 (by kernel_rfl)
    have h14 : ts 14 = _ := hp 14 (by kernel_rfl)
    refine Guarded.on h14 ?_
    clear h14
    intro K hK
    simp only [fillT, Nat.zero_add, Nat.reduceAdd, List.setIfInBounds_toArray, List.set_cons_zero, List.set_cons_succ, h20] at hK ⊢
    have HK := Lib.hid hK
    clear hK hp
    refine ⟨?_⟩
    go_simp
    refine (sameN_k _ _ (((xa).sub (xb)).add (xb)) (xa) W h19 (N7.below hb) 8 (Sz.mono ((((sa).sub (sb))).add (sb)) (by omega)) (Sz.mono sa (by omega)) (by omega) (same_t (Cx.sub_add _ _))).mono ?_
    rintro e W9 ⟨rfl, hb9⟩
    exact HK.out _ _ rfl hb9
  · intro ts W hb hB hp
    have h21 : ts 21 = _ := hp 21 (by kernel_rfl)
    have h14 : ts 14 = _ := hp 14 (by kernel_rfl)
    refine Guarded.on h14 ?_
    clear h14
    intro K hK
    simp only [fillT, Nat.zero_add, Nat.reduceAdd, List.setIfInBounds_toArray, List.set_cons_zero, List.set_cons_succ, h21] at hK ⊢
    have HK := Lib.hid hK
    clear hK hp
    refine ⟨?_⟩
    go_simp
    exact HK.out _ _ rfl (Below.refl _ _)
  · intro ts W hb hB hp
    have h14 : ts 14 = _ := hp 14 (by kernel_rfl)
    have h22 : ts 22 = _ := hp 22 (by kernel_rfl)
    intro K hK
    simp only [fillT, Nat.zero_add, Nat.reduceAdd, List.setIfInBounds_toArray, List.set_cons_zero, List.set_cons_succ, h14, h22] at hK ⊢
    have HK := Lib.hid hK
    clear hK hp
    refine ⟨?_⟩
    go_simp
    exact HK.out _ _ rfl (Below.refl _ _)
  · intro ts W hb hB hp
    have h23 : ts 23 = _ := hp 23 (by kernel_rfl)
    intro K hK
    simp only [fillT, Nat.zero_add, Nat.reduceAdd, List.setIfInBounds_toArray, List.set_cons_zero, List.set_cons_succ, h23] at hK ⊢
    have HK := Lib.hid hK
    clear hK hp
    refine ⟨?_⟩
    go_simp
    exact HK.out _ _ rfl (Below.refl _ _)
  · intro ts W hb hB hp
    have h24 : ts 24 = _ := hp 24 (by kernel_rfl)
    refine Guarded.on h24 ?_
    clear h24
    intro K hK
    simp only [fillT, Nat.zero_add, Nat.reduceAdd, List.setIfInBounds_toArray, List.set_cons_zero, List.set_cons_succ] at hK ⊢
    refine ⟨?_⟩
    refine wp_load_row _ _ rfl (g7) rfl _ _ (0, 0) _ ((hb.block _ (z7)).trans X7) Tryd.underlying29 rfl (by kernel_rfl) ?_
    exact hK _ _ rfl (Below.refl _ _)
  · intro ts W hb hB hp
    have h24 : ts 24 = _ := hp 24 (by kernel_rfl)
    refine Guarded.on h24 ?_
    clear h24
    intro K hK
    simp only [fillT, Nat.zero_add, Nat.reduceAdd, List.setIfInBounds_toArray, List.set_cons_zero, List.set_cons_succ] at hK ⊢
    refine ⟨?_⟩
    refine wp_load_row _ _ rfl (g7) rfl _ _ (0, 0) _ ((hb.block _ (z7)).trans X7) Tryd.underlying29 rfl (by kernel_rfl) ?_
    exact hK _ _ rfl (Below.refl _ _)
  · intro ts W hb hB hp
    have h26 : ts 26 = _ := hp 26 (by kernel_rfl)
    have h24 : ts 24 = _ := hp 24 (by kernel_rfl)
    refine Guarded.on h24 ?_
    clear h24
    intro K hK
    simp only [fillT, Nat.zero_add, Nat.reduceAdd, List.setIfInBounds_toArray, List.set_cons_zero, List.set_cons_succ, h26] at hK ⊢
    have HK := Lib.hid hK
    clear hK hp
    refine ⟨?_⟩
    go_simp
    refine (negN_any _ (xa) W (N7.below hb)).mono ?_
    rintro e W9 ⟨r9, rfl, hr9, hb9⟩
    exact HK.out _ _ hr9 hb9
  · intro ts W hb hB hp
    have h25 : ts 25 = _ := hp 25 (by kernel_rfl)
    have h27 : IsNum W (ts 27) ((xa).neg) := hp 27 (by kernel_rfl)
    have h24 : ts 24 = _ := hp 24 (by kernel_rfl)
    refine Guarded.on h24 ?_
    clear h24
    intro K hK
    simp only [fillT, Nat.zero_add, Nat.reduceAdd, List.setIfInBounds_toArray, List.set_cons_zero, List.set_cons_succ, h25] at hK ⊢
    have HK := Lib.hid hK
    clear hK hp
    refine ⟨?_⟩
    go_simp
    refine (addN_any _ _ (xa) ((xa).neg) W (N7.below hb) h27 2 2 sa ((sa).neg) (by omega) (HT.out.below (below_trans B1 hb))).mono ?_
    rintro e W9 ⟨r9, rfl, hr9, hb9⟩
    exact HK.out _ _ hr9 hb9
  · intro ts W hb hB hp
    have h24 : ts 24 = _ := hp 24 (by kernel_rfl)
    refine Guarded.on h24 ?_
    clear h24
    intro K hK
    simp only [fillT, Nat.zero_add, Nat.reduceAdd, List.setIfInBounds_toArray, List.set_cons_zero, List.set_cons_succ] at hK ⊢
    have HK := Lib.hid hK
    clear hK hp
    refine ⟨?_⟩
    go_simp
    refine (int_any 0 W (by omega) (by omega)).mono ?_
    rintro e W9 ⟨r9, rfl, hr9, hb9⟩
    exact HK.out _ _ hr9 hb9
  · intro ts W hb hB hp
    have h28 : IsNum W (ts 28) ((xa).add ((xa).neg)) := hp 28 (by kernel_rfl)
    have h29 : IsNum W (ts 29) (Cx.int 0) := hp 29 (by kernel_rfl)
    have h24 : ts 24 = _ := hp 24 (by kernel_rfl)
    refine Guarded.on h24 ?_
    clear h24
    intro K hK
    simp only [fillT, Nat.zero_add, Nat.reduceAdd, List.setIfInBounds_toArray, List.set_cons_zero, List.set_cons_succ] at hK ⊢
    have HK := Lib.hid hK
    clear hK hp
    refine ⟨?_⟩
    go_simp
    refine (sameN_k _ _ ((xa).add ((xa).neg)) (Cx.int 0) W h28 h29 5 (Sz.mono ((sa).add (((sa).neg))) (by omega)) (Sz.mono (sz_int 0 (by decide)) (by omega)) (by omega) (same_t (Cx.add_neg _))).mono ?_
    rintro e W9 ⟨rfl, hb9⟩
    exact HK.out _ _ rfl hb9
  · intro ts W hb hB hp
    have h30 : ts 30 = _ := hp 30 (by kernel_rfl)
    have h24 : ts 24 = _ := hp 24 (by kernel_rfl)
    refine Guarded.on h24 ?_
    clear h24
    intro K hK
    simp only [fillT, Nat.zero_add, Nat.reduceAdd, List.setIfInBounds_toArray, List.set_cons_zero, List.set_cons_succ, h30] at hK ⊢
    have HK := Lib.hid hK
    clear hK hp
    refine ⟨?_⟩
    go_simp
    exact HK.out _ _ rfl (Below.refl _ _)
  · intro ts W hb hB hp
    have h24 : ts 24 = _ := hp 24 (by kernel_rfl)
    have h31 : ts 31 = _ := hp 31 (by kernel_rfl)
    intro K hK
    simp only [fillT, Nat.zero_add, Nat.reduceAdd, List.setIfInBounds_toArray, List.set_cons_zero, List.set_cons_succ, h24, h31] at hK ⊢
    have HK := Lib.hid hK
    clear hK hp
    refine ⟨?_⟩
    go_simp
    exact HK.out _ _ rfl (Below.refl _ _)
  intro ts V2 hbq hh hap
  have e32 := held_is (hh 32 (by simp)) rfl
  simp only [fillT, Nat.zero_add, Nat.reduceAdd, List.setIfInBounds_toArray, List.set_cons_zero, List.set_cons_succ, e32]
  clear hh hap e32
  generalize ts 0 = u0_V2 at *
  generalize ts 1 = u1_V2 at *
  generalize ts 2 = u2_V2 at *
  generalize ts 3 = u3_V2 at *
  generalize ts 4 = u4_V2 at *
  generalize ts 5 = u5_V2 at *
  generalize ts 6 = u6_V2 at *
  generalize ts 7 = u7_V2 at *
  generalize ts 8 = u8_V2 at *
  generalize ts 9 = u9_V2 at *
  generalize ts 10 = u10_V2 at *
  generalize ts 11 = u11_V2 at *
  generalize ts 12 = u12_V2 at *
  generalize ts 13 = u13_V2 at *
  generalize ts 14 = u14_V2 at *
  generalize ts 15 = u15_V2 at *
  generalize ts 16 = u16_V2 at *
  generalize ts 17 = u17_V2 at *
  generalize ts 18 = u18_V2 at *
  generalize ts 19 = u19_V2 at *
  generalize ts 20 = u20_V2 at *
  generalize ts 21 = u21_V2 at *
  generalize ts 22 = u22_V2 at *
  generalize ts 23 = u23_V2 at *
  generalize ts 24 = u24_V2 at *
  generalize ts 25 = u25_V2 at *
  generalize ts 26 = u26_V2 at *
  generalize ts 27 = u27_V2 at *
  generalize ts 28 = u28_V2 at *
  generalize ts 29 = u29_V2 at *
  generalize ts 30 = u30_V2 at *
  generalize ts 31 = u31_V2 at *
  clear ts
  replace X7 := (hbq.block _ z7).trans X7
  replace z7 := Nat.lt_of_lt_of_le z7 hbq.size
  replace X8 := (hbq.block _ z8).trans X8
  replace z8 := Nat.lt_of_lt_of_le z8 hbq.size
  replace X9 := (hbq.block _ z9).trans X9
  replace z9 := Nat.lt_of_lt_of_le z9 hbq.size
  replace N7 := N7.below hbq
  replace N8 := N8.below hbq
  replace N9 := N9.below hbq
  replace B1 := below_trans B1 hbq
  clear hbq
  by_cases hzb : xb = .zero
  · go_upto_region 6 with fail
    refine region_lin [.val (kIs (.agg #[.slice A7 n7 c7, .bool p7, .slice A7b n7b c7b, .bool p7b, .slice A7c n7c c7c])), .val (kIs (.agg #[.slice A8 n8 c8, .bool p8, .slice A8b n8b c8b, .bool p8b, .slice A8c n8c c8c])), .val (kTup ((xa).div (xb)) 3), .val (kTup ((xa).div (xb)) 3), .val (kNum ((xa).div (xb))), .val (kIs (.int .i64 3)), .box 29 zNum, .put 6 4, .val (kIs (.int .i64 3))]
      (by kernel_rfl) (by kernel_rfl) (by kernel_rfl) (by kernel_rfl) (by kernel_rfl) ⟨stab_is _, stab_is _, stab_tup _ _, stab_tup _ _, stab_num _, stab_is _, stab_is _, trivial⟩ (by simp) ⟨?_, ?_, ?_, ?_, ?_, ?_, alloc_num, store_num _, ?_, trivial⟩ ?_
    · intro ts W hb hB hp
      intro K hK
      simp only [fillT, Nat.zero_add, Nat.reduceAdd, List.setIfInBounds_toArray, List.set_cons_zero, List.set_cons_succ] at hK ⊢
      refine ⟨?_⟩
      refine wp_load_row _ _ rfl (g7) rfl _ _ (0, 0) _ ((hb.block _ (z7)).trans X7) Tryd.underlying29 rfl (by kernel_rfl) ?_
      exact hK _ _ rfl (Below.refl _ _)
    · intro ts W hb hB hp
      intro K hK
      simp only [fillT, Nat.zero_add, Nat.reduceAdd, List.setIfInBounds_toArray, List.set_cons_zero, List.set_cons_succ] at hK ⊢
      refine ⟨?_⟩
      refine wp_load_row _ _ rfl (g8) rfl _ _ (0, 0) _ ((hb.block _ (z8)).trans X8) Tryd.underlying29 rfl (by kernel_rfl) ?_
      exact hK _ _ rfl (Below.refl _ _)
    · intro ts W hb hB hp
      have h0 : ts 0 = _ := hp 0 (by kernel_rfl)
      have h1 : ts 1 = _ := hp 1 (by kernel_rfl)
      intro K hK
      simp only [fillT, Nat.zero_add, Nat.reduceAdd, List.setIfInBounds_toArray, List.set_cons_zero, List.set_cons_succ, h0, h1] at hK ⊢
      have HK := Lib.hid hK
      clear hK hp
      refine ⟨?_⟩
      go_simp
      refine (divN_k _ _ (xa) (xb) W (N7.below hb) (N8.below hb) 2 2 sa sb (by omega) (HT.out.below (below_trans B1 hb)) (div_no hzb)).mono ?_
      rintro e W9 ⟨r9, rfl, hr9, hb9⟩
      exact HK.out _ _ ⟨r9, rfl, hr9⟩ hb9
    · intro ts W hb hB hp
      have h2 := hp 2 (by kernel_rfl)
      intro K hK
      simp only [fillT, Nat.zero_add, Nat.reduceAdd, List.setIfInBounds_toArray, List.set_cons_zero, List.set_cons_succ] at hK ⊢
      have HK := Lib.hid hK
      clear hK hp
      refine ⟨?_⟩
      go_simp
      exact HK.out _ _ h2 (Below.refl _ _)
    · intro ts W hb hB hp
      have h3 := hp 3 (by kernel_rfl)
      intro K hK
      obtain ⟨u3, e3, n3⟩ := h3
      simp only [fillT, Nat.zero_add, Nat.reduceAdd, List.setIfInBounds_toArray, List.set_cons_zero, List.set_cons_succ, e3] at hK ⊢
      have HK := Lib.hid hK
      clear hK hp
      refine ⟨?_⟩
      go_simp
      exact HK.out _ _ n3 (Below.refl _ _)
    · intro ts W hb hB hp
      have h3 := hp 3 (by kernel_rfl)
      intro K hK
      obtain ⟨u3, e3, n3⟩ := h3
      simp only [fillT, Nat.zero_add, Nat.reduceAdd, List.setIfInBounds_toArray, List.set_cons_zero, List.set_cons_succ, e3] at hK ⊢
      have HK := Lib.hid hK
      clear hK hp
      refine ⟨?_⟩
      go_simp
      exact HK.out _ _ rfl (Below.refl _ _)
    · intro ts W hb hB hp
      have h5 : ts 5 = _ := hp 5 (by kernel_rfl)
      intro K hK
      simp only [fillT, Nat.zero_add, Nat.reduceAdd, List.setIfInBounds_toArray, List.set_cons_zero, List.set_cons_succ, h5] at hK ⊢
      have HK := Lib.hid hK
      clear hK hp
      refine ⟨?_⟩
      go_simp
      exact HK.out _ _ rfl (Below.refl _ _)
    intro ts V3 hbq hh hap
    obtain ⟨g10, A10, n10, c10, p10, A10b, n10b, c10b, p10b, A10c, n10c, c10c, e6, lo10, z10, X10, N10⟩ := held_box (x := (xa).div (xb)) (hh 6 (by simp)) rfl (hh 7 (by simp)) rfl (hh 4 (by simp)) rfl
    have e8 := held_is (hh 8 (by simp)) rfl
    simp only [fillT, Nat.zero_add, Nat.reduceAdd, List.setIfInBounds_toArray, List.set_cons_zero, List.set_cons_succ, e6, e8]
    clear hh hap e6 e8
    generalize ts 0 = u0_V3 at *
    generalize ts 1 = u1_V3 at *
    generalize ts 2 = u2_V3 at *
    generalize ts 3 = u3_V3 at *
    generalize ts 4 = u4_V3 at *
    generalize ts 5 = u5_V3 at *
    clear ts
    replace X7 := (hbq.block _ z7).trans X7
    replace z7 := Nat.lt_of_lt_of_le z7 hbq.size
    replace X8 := (hbq.block _ z8).trans X8
    replace z8 := Nat.lt_of_lt_of_le z8 hbq.size
    replace X9 := (hbq.block _ z9).trans X9
    replace z9 := Nat.lt_of_lt_of_le z9 hbq.size
    replace N7 := N7.below hbq
    replace N8 := N8.below hbq
    replace N9 := N9.below hbq
    replace B1 := below_trans B1 hbq
    clear hbq
    clear lo10
    go_upto_region 7 with fail
    refine region_lin [.val (kIs (.agg #[.slice A8 n8 c8, .bool p8, .slice A8b n8b c8b, .bool p8b, .slice A8c n8c c8c])), .val (kIs (.bool false)), .val (kIs (.int .i64 3)), .val (kIs (.bool false)), .val (kIs (.bool false)), .val (kIs (.bool false)), .val (kIs (.int .i64 3)), .val (kIs (.bool true)), .val (kIs (.bool true)), .val (kIs (.int .i64 3)), .val (kIs (.bool false)), .val (kIs (.bool false)), .val (kIs (.bool false)), .val (kIs (.bool false)), .val (kIs (.int .i64 3)), .val (kIs (.bool false)), .val (kIs (.bool false)), .val (kIs (undef)), .val (kIs (undef)), .val (kIs (undef)), .val (kIs (undef)), .val (kIs (undef)), .val (kIs (undef)), .val (kIs (.bool false)), .val (kIs (.bool false))]
      (by kernel_rfl) (by kernel_rfl) (by kernel_rfl) (by kernel_rfl) (by kernel_rfl) ⟨Stab.b (stab_is _), Stab.b (stab_is _), Stab.b (stab_is _), Stab.b (stab_is _), Stab.b (stab_is _), Stab.b (stab_is _), Stab.b (stab_is _), Stab.b (stab_is _), Stab.b (stab_is _), Stab.b (stab_is _), Stab.b (stab_is _), Stab.b (stab_is _), Stab.b (stab_is _), Stab.b (stab_is _), Stab.b (stab_is _), Stab.b (stab_is _), Stab.b (stab_is _), Stab.b (stab_is _), Stab.b (stab_is _), Stab.b (stab_is _), Stab.b (stab_is _), Stab.b (stab_is _), Stab.b (stab_is _), Stab.b (stab_is _), Stab.b (stab_is _), trivial⟩ (by simp) ⟨?_, ?_, ?_, ?_, ?_, ?_, ?_, ?_, ?_, ?_, ?_, ?_, ?_, ?_, ?_, ?_, ?_, ?_, ?_, ?_, ?_, ?_, ?_, ?_, ?_, trivial⟩ ?_
    · intro ts W hb hB hp
      intro K hK
      simp only [fillT, Nat.zero_add, Nat.reduceAdd, List.setIfInBounds_toArray, List.set_cons_zero, List.set_cons_succ] at hK ⊢
      refine ⟨?_⟩
      refine wp_load_row _ _ rfl (g8) rfl _ _ (0, 0) _ ((hb.block _ (z8)).trans X8) Tryd.underlying29 rfl (by kernel_rfl) ?_
      exact hK _ _ rfl (Below.refl _ _)
    · intro ts W hb hB hp
      have h0 : ts 0 = _ := hp 0 (by kernel_rfl)
      intro K hK
      simp only [fillT, Nat.zero_add, Nat.reduceAdd, List.setIfInBounds_toArray, List.set_cons_zero, List.set_cons_succ, h0] at hK ⊢
      have HK := Lib.hid hK
      clear hK hp
      refine ⟨?_⟩
      go_simp
      refine (clearN_k _ (xb) W (N8.below hb) (clear_f hzb)).mono ?_
      rintro e W9 ⟨rfl, hb9⟩
      exact HK.out _ _ rfl hb9
    · intro ts W hb hB hp
      intro K hK
      simp only [fillT, Nat.zero_add, Nat.reduceAdd, List.setIfInBounds_toArray, List.set_cons_zero, List.set_cons_succ] at hK ⊢
      have HK := Lib.hid hK
      clear hK hp
      refine ⟨?_⟩
      go_simp
      exact HK.out _ _ rfl (Below.refl _ _)
    · intro ts W hb hB hp
      have h2 : ts 2 = _ := hp 2 (by kernel_rfl)
      intro K hK
      simp only [fillT, Nat.zero_add, Nat.reduceAdd, List.setIfInBounds_toArray, List.set_cons_zero, List.set_cons_succ, h2] at hK ⊢
      have HK := Lib.hid hK
      clear hK hp
      refine ⟨?_⟩
      go_simp
      exact HK.out _ _ rfl (Below.refl _ _)
    · intro ts W hb hB hp
      have h1 : ts 1 = _ := hp 1 (by kernel_rfl)
      have h3 : ts 3 = _ := hp 3 (by kernel_rfl)
      intro K hK
      simp only [fillT, Nat.zero_add, Nat.reduceAdd, List.setIfInBounds_toArray, List.set_cons_zero, List.set_cons_succ, h1, h3] at hK ⊢
      have HK := Lib.hid hK
      clear hK hp
      refine ⟨?_⟩
      go_simp
      exact HK.out _ _ rfl (Below.refl _ _)
    · intro ts W hb hB hp
      have h4 : ts 4 = _ := hp 4 (by kernel_rfl)
      intro K hK
      simp only [fillT, Nat.zero_add, Nat.reduceAdd, List.setIfInBounds_toArray, List.set_cons_zero, List.set_cons_succ, h4] at hK ⊢
      have HK := Lib.hid hK
      clear hK hp
      refine ⟨?_⟩
      go_simp
      exact HK.out _ _ rfl (Below.refl _ _)
    · intro ts W hb hB hp
      have h5 : ts 5 = _ := hp 5 (by kernel_rfl)
      refine Guarded.on h5 ?_
      clear h5
      intro K hK
      simp only [fillT, Nat.zero_add, Nat.reduceAdd, List.setIfInBounds_toArray, List.set_cons_zero, List.set_cons_succ] at hK ⊢
      have HK := Lib.hid hK
      clear hK hp
      refine ⟨?_⟩
      go_simp
      exact HK.out _ _ rfl (Below.refl _ _)
    · intro ts W hb hB hp
      have h6 : ts 6 = _ := hp 6 (by kernel_rfl)
      have h5 : ts 5 = _ := hp 5 (by kernel_rfl)
      refine Guarded.on h5 ?_
      clear h5
      intro K hK
      simp only [fillT, Nat.zero_add, Nat.reduceAdd, List.setIfInBounds_toArray, List.set_cons_zero, List.set_cons_succ, h6] at hK ⊢
      have HK := Lib.hid hK
      clear hK hp
      refine ⟨?_⟩
      go_simp
      exact HK.out _ _ rfl (Below.refl _ _)
    · intro ts W hb hB hp
      have h7 : ts 7 = _ := hp 7 (by kernel_rfl)
      have h5 : ts 5 = _ := hp 5 (by kernel_rfl)
      refine Guarded.on h5 ?_
      clear h5
      intro K hK
      simp only [fillT, Nat.zero_add, Nat.reduceAdd, List.setIfInBounds_toArray, List.set_cons_zero, List.set_cons_succ, h7] at hK ⊢
      have HK := Lib.hid hK
      clear hK hp
      refine ⟨?_⟩
      go_simp
      exact HK.out _ _ rfl (Below.refl _ _)
    · intro ts W hb hB hp
      have h8 : ts 8 = _ := hp 8 (by kernel_rfl)
      refine Guarded.on h8 ?_
      clear h8
      intro K hK
      simp only [fillT, Nat.zero_add, Nat.reduceAdd, List.setIfInBounds_toArray, List.set_cons_zero, List.set_cons_succ] at hK ⊢
      have HK := Lib.hid hK
      clear hK hp
      refine ⟨?_⟩
      go_simp
      exact HK.out _ _ rfl (Below.refl _ _)
    · intro ts W hb hB hp
      have h9 : ts 9 = _ := hp 9 (by kernel_rfl)
      have h8 : ts 8 = _ := hp 8 (by kernel_rfl)
      refine Guarded.on h8 ?_
      clear h8
      intro K hK
      simp only [fillT, Nat.zero_add, Nat.reduceAdd, List.setIfInBounds_toArray, List.set_cons_zero, List.set_cons_succ, h9] at hK ⊢
      have HK := Lib.hid hK
      clear hK hp
      refine ⟨?_⟩
      go_simp
      exact HK.out _ _ rfl (Below.refl _ _)
    · intro ts W hb hB hp
      have h8 : ts 8 = _ := hp 8 (by kernel_rfl)
      have h10 : ts 10 = _ := hp 10 (by kernel_rfl)
      have h5 : ts 5 = _ := hp 5 (by kernel_rfl)
      refine Guarded.on h5 ?_
      clear h5
      intro K hK
      simp only [fillT, Nat.zero_add, Nat.reduceAdd, List.setIfInBounds_toArray, List.set_cons_zero, List.set_cons_succ, h8, h10] at hK ⊢
      have HK := Lib.hid hK
      clear hK hp
      refine ⟨?_⟩
      go_simp
      exact HK.out _ _ rfl (Below.refl _ _)
    · intro ts W hb hB hp
      have h5 : ts 5 = _ := hp 5 (by kernel_rfl)
      have h11 : ts 11 = _ := hp 11 (by kernel_rfl)
      intro K hK
      simp only [fillT, Nat.zero_add, Nat.reduceAdd, List.setIfInBounds_toArray, List.set_cons_zero, List.set_cons_succ, h5, h11] at hK ⊢
      have HK := Lib.hid hK
      clear hK hp
      refine ⟨?_⟩
      go_simp
      exact HK.out _ _ rfl (Below.refl _ _)
    · intro ts W hb hB hp
      have h12 : ts 12 = _ := hp 12 (by kernel_rfl)
      intro K hK
      simp only [fillT, Nat.zero_add, Nat.reduceAdd, List.setIfInBounds_toArray, List.set_cons_zero, List.set_cons_succ, h12] at hK ⊢
      have HK := Lib.hid hK
      clear hK hp
      refine ⟨?_⟩
      go_simp
      exact HK.out _ _ rfl (Below.refl _ _)
    · intro ts W hb hB hp
      have h13 : ts 13 = _ := hp 13 (by kernel_rfl)
      refine Guarded.on h13 ?_
      clear h13
      intro K hK
      simp only [fillT, Nat.zero_add, Nat.reduceAdd, List.setIfInBounds_toArray, List.set_cons_zero, List.set_cons_succ] at hK ⊢
      have HK := Lib.hid hK
      clear hK hp
      refine ⟨?_⟩
      go_simp
      exact HK.out _ _ rfl (Below.refl _ _)
    · intro ts W hb hB hp
      have h14 : ts 14 = _ := hp 14 (by kernel_rfl)
      have h13 : ts 13 = _ := hp 13 (by kernel_rfl)
      refine Guarded.on h13 ?_
      clear h13
      intro K hK
      simp only [fillT, Nat.zero_add, Nat.reduceAdd, List.setIfInBounds_toArray, List.set_cons_zero, List.set_cons_succ, h14] at hK ⊢
      have HK := Lib.hid hK
      clear hK hp
      refine ⟨?_⟩
      go_simp
      exact HK.out _ _ rfl (Below.refl _ _)
    · intro ts W hb hB hp
      have h15 : ts 15 = _ := hp 15 (by kernel_rfl)
      have h13 : ts 13 = _ := hp 13 (by kernel_rfl)
      refine Guarded.on h13 ?_
      clear h13
      intro K hK
      simp only [fillT, Nat.zero_add, Nat.reduceAdd, List.setIfInBounds_toArray, List.set_cons_zero, List.set_cons_succ, h15] at hK ⊢
      have HK := Lib.hid hK
      clear hK hp
      refine ⟨?_⟩
      go_simp
      exact HK.out _ _ rfl (Below.refl _ _)
    · intro ts W hb hB hp
      have h16 : ts 16 = _ := hp 16 (by kernel_rfl)
      exact Guarded.off h16 (by decide) rfl
    · intro ts W hb hB hp
      have h16 : ts 16 = _ := hp 16 (by kernel_rfl)
      exact Guarded.off h16 (by decide) rfl
    · intro ts W hb hB hp
      have h16 : ts 16 = _ := hp 16 (by kernel_rfl)
      exact Guarded.off h16 (by decide) rfl
    · intro ts W hb hB hp
      have h16 : ts 16 = _ := hp 16 (by kernel_rfl)
      exact Guarded.off h16 (by decide) rfl
    · intro ts W hb hB hp
      have h16 : ts 16 = _ := hp 16 (by kernel_rfl)
      exact Guarded.off h16 (by decide) rfl
    · intro ts W hb hB hp
      have h16 : ts 16 = _ := hp 16 (by kernel_rfl)
      exact Guarded.off h16 (by decide) rfl
    · intro ts W hb hB hp
      have h16 : ts 16 = _ := hp 16 (by kernel_rfl)
      have h13 : ts 13 = _ := hp 13 (by kernel_rfl)
      refine Guarded.on h13 ?_
      clear h13
      intro K hK
      simp only [fillT, Nat.zero_add, Nat.reduceAdd, List.setIfInBounds_toArray, List.set_cons_zero, List.set_cons_succ, h16] at hK ⊢
      have HK := Lib.hid hK
      clear hK hp
      refine ⟨?_⟩
      go_simp
      exact HK.out _ _ rfl (Below.refl _ _)
    · intro ts W hb hB hp
      have h13 : ts 13 = _ := hp 13 (by kernel_rfl)
      have h23 : ts 23 = _ := hp 23 (by kernel_rfl)
      intro K hK
      simp only [fillT, Nat.zero_add, Nat.reduceAdd, List.setIfInBounds_toArray, List.set_cons_zero, List.set_cons_succ, h13, h23] at hK ⊢
      have HK := Lib.hid hK
      clear hK hp
      refine ⟨?_⟩
      go_simp
      exact HK.out _ _ rfl (Below.refl _ _)
    intro ts V4 hbq hh hap
    have e24 := held_is (hh 24 (by simp)) rfl
    simp only [fillT, Nat.zero_add, Nat.reduceAdd, List.setIfInBounds_toArray, List.set_cons_zero, List.set_cons_succ, e24]
    clear hh hap e24
    generalize ts 0 = u0_V4 at *
    generalize ts 1 = u1_V4 at *
    generalize ts 2 = u2_V4 at *
    generalize ts 3 = u3_V4 at *
    generalize ts 4 = u4_V4 at *
    generalize ts 5 = u5_V4 at *
    generalize ts 6 = u6_V4 at *
    generalize ts 7 = u7_V4 at *
    generalize ts 8 = u8_V4 at *
    generalize ts 9 = u9_V4 at *
    generalize ts 10 = u10_V4 at *
    generalize ts 11 = u11_V4 at *
    generalize ts 12 = u12_V4 at *
    generalize ts 13 = u13_V4 at *
    generalize ts 14 = u14_V4 at *
    generalize ts 15 = u15_V4 at *
    generalize ts 16 = u16_V4 at *
    generalize ts 17 = u17_V4 at *
    generalize ts 18 = u18_V4 at *
    generalize ts 19 = u19_V4 at *
    generalize ts 20 = u20_V4 at *
    generalize ts 21 = u21_V4 at *
    generalize ts 22 = u22_V4 at *
    generalize ts 23 = u23_V4 at *
    clear ts
    replace X7 := (hbq.block _ z7).trans X7
    replace z7 := Nat.lt_of_lt_of_le z7 hbq.size
    replace X8 := (hbq.block _ z8).trans X8
    replace z8 := Nat.lt_of_lt_of_le z8 hbq.size
    replace X9 := (hbq.block _ z9).trans X9
    replace z9 := Nat.lt_of_lt_of_le z9 hbq.size
    replace X10 := (hbq.block _ z10).trans X10
    replace z10 := Nat.lt_of_lt_of_le z10 hbq.size
    replace N7 := N7.below hbq
    replace N8 := N8.below hbq
    replace N9 := N9.below hbq
    replace N10 := N10.below hbq
    replace B1 := below_trans B1 hbq
    clear hbq
    go_upto_region 9 with fail
    refine region_lin (.val (kIs (.agg #[.slice A7 n7 c7, .bool p7, .slice A7b n7b c7b, .bool p7b, .slice A7c n7c c7c])) :: .val (kIs (.agg #[.slice A8 n8 c8, .bool p8, .slice A8b n8b c8b, .bool p8b, .slice A8c n8c c8c])) :: .val (kNum ((xa).add (xb))) :: .val (kNum (((xa).add (xb)).conj)) :: .val (kIs (.agg #[.slice A7 n7 c7, .bool p7, .slice A7b n7b c7b, .bool p7b, .slice A7c n7c c7c])) :: .val (kNum ((xa).conj)) :: .val (kIs (.agg #[.slice A8 n8 c8, .bool p8, .slice A8b n8b c8b, .bool p8b, .slice A8c n8c c8c])) :: .val (kNum ((xb).conj)) :: .val (kNum (((xa).conj).add ((xb).conj))) :: .val (kIs (.bool true)) :: .val (kIs (.bool true)) :: .val (kIs (.agg #[.slice A7 n7 c7, .bool p7, .slice A7b n7b c7b, .bool p7b, .slice A7c n7c c7c])) :: .val (kIs (.agg #[.slice A8 n8 c8, .bool p8, .slice A8b n8b c8b, .bool p8b, .slice A8c n8c c8c])) :: .val (kNum ((xa).mul (xb))) :: .val (kNum (((xa).mul (xb)).conj)) :: .val (kIs (.agg #[.slice A7 n7 c7, .bool p7, .slice A7b n7b c7b, .bool p7b, .slice A7c n7c c7c])) :: .val (kNum ((xa).conj)) :: .val (kIs (.agg #[.slice A8 n8 c8, .bool p8, .slice A8b n8b c8b, .bool p8b, .slice A8c n8c c8c])) :: .val (kNum ((xb).conj)) :: .val (kNum (((xa).conj).mul ((xb).conj))) :: .val (kIs (.bool true)) :: .val (kIs (.bool true)) :: .val (kIs (.bool true)) :: .val (kIs (.agg #[.slice A7 n7 c7, .bool p7, .slice A7b n7b c7b, .bool p7b, .slice A7c n7c c7c])) :: .val (kNum ((xa).norm)) :: .val (kIs (.agg #[.slice A7 n7 c7, .bool p7, .slice A7b n7b c7b, .bool p7b, .slice A7c n7c c7c])) :: .val (kIs (.agg #[.slice A7 n7 c7, .bool p7, .slice A7b n7b c7b, .bool p7b, .slice A7c n7c c7c])) :: .val (kNum ((xa).conj)) :: .val (kNum ((xa).mul ((xa).conj))) :: .val (kIs (.bool true)) :: .val (kIs (.bool true)) :: .val (kIs (.bool true)) :: .val (kIs (.agg #[.slice A7 n7 c7, .bool p7, .slice A7b n7b c7b, .bool p7b, .slice A7c n7c c7c])) :: .val (kIs (.agg #[.slice A8 n8 c8, .bool p8, .slice A8b n8b c8b, .bool p8b, .slice A8c n8c c8c])) :: .val (kNum ((xa).mul (xb))) :: .val (kNum (((xa).mul (xb)).norm)) :: .val (kIs (.agg #[.slice A7 n7 c7, .bool p7, .slice A7b n7b c7b, .bool p7b, .slice A7c n7c c7c])) :: .val (kNum ((xa).norm)) :: .val (kIs (.agg #[.slice A8 n8 c8, .bool p8, .slice A8b n8b c8b, .bool p8b, .slice A8c n8c c8c])) :: .val (kNum ((xb).norm)) :: .val (kNum (((xa).norm).mul ((xb).norm))) :: .val (kIs (.bool true)) :: .val (kIs (.bool true)) :: .val (kIs (.bool true)) :: .val (kIs (.bool true)) :: .val (kIs (.bool true)) :: .val (kIs (.bool true)) :: [])
      (by kernel_rfl) (by kernel_rfl) (by kernel_rfl) (by kernel_rfl) (by kernel_rfl) ⟨Stab.b (stab_is _), Stab.b (stab_is _), Stab.b (stab_num _), Stab.b (stab_num _), Stab.b (stab_is _), Stab.b (stab_num _), Stab.b (stab_is _), Stab.b (stab_num _), Stab.b (stab_num _), Stab.b (stab_is _), Stab.b (stab_is _), Stab.b (stab_is _), Stab.b (stab_is _), Stab.b (stab_num _), Stab.b (stab_num _), Stab.b (stab_is _), Stab.b (stab_num _), Stab.b (stab_is _), Stab.b (stab_num _), Stab.b (stab_num _), Stab.b (stab_is _), Stab.b (stab_is _), Stab.b (stab_is _), Stab.b (stab_is _), Stab.b (stab_num _), Stab.b (stab_is _), Stab.b (stab_is _), Stab.b (stab_num _), Stab.b (stab_num _), Stab.b (stab_is _), Stab.b (stab_is _), Stab.b (stab_is _), Stab.b (stab_is _), Stab.b (stab_is _), Stab.b (stab_num _), Stab.b (stab_num _), Stab.b (stab_is _), Stab.b (stab_num _), Stab.b (stab_is _), Stab.b (stab_num _), Stab.b (stab_num _), Stab.b (stab_is _), Stab.b (stab_is _), Stab.b (stab_is _), Stab.b (stab_is _), Stab.b (stab_is _), Stab.b (stab_is _), trivial⟩ (by simp) ⟨?_, ?_, ?_, ?_, ?_, ?_, ?_, ?_, ?_, ?_, ?_, ?_, ?_, ?_, ?_, ?_, ?_, ?_, ?_, ?_, ?_, ?_, ?_, ?_, ?_, ?_, ?_, ?_, ?_, ?_, ?_, ?_, ?_, ?_, ?_, ?_, ?_, ?_, ?_, ?_, ?_, ?_, ?_, ?_, ?_, ?_, ?_, trivial⟩ ?_
    · intro ts W hb hB hp
      intro K hK
      simp only [fillT, Nat.zero_add, Nat.reduceAdd, List.setIfInBounds_toArray, List.set_cons_zero, List.set_cons_succ] at hK ⊢
      refine ⟨?_⟩
      refine wp_load_row _ _ rfl (g7) rfl _ _ (0, 0) _ ((hb.block _ (z7)).trans X7) Tryd.underlying29 rfl (by kernel_rfl) ?_
      exact hK _ _ rfl (Below.refl _ _)
    · intro ts W hb hB hp
      intro K hK
      simp only [fillT, Nat.zero_add, Nat.reduceAdd, List.setIfInBounds_toArray, List.set_cons_zero, List.set_cons_succ] at hK ⊢
      refine ⟨?_⟩
      refine wp_load_row _ _ rfl (g8) rfl _ _ (0, 0) _ ((hb.block _ (z8)).trans X8) Tryd.underlying29 rfl (by kernel_rfl) ?_
      exact hK _ _ rfl (Below.refl _ _)
    · intro ts W hb hB hp
      have h0 : ts 0 = _ := hp 0 (by kernel_rfl)
      have h1 : ts 1 = _ := hp 1 (by kernel_rfl)
      intro K hK
      simp only [fillT, Nat.zero_add, Nat.reduceAdd, List.setIfInBounds_toArray, List.set_cons_zero, List.set_cons_succ, h0, h1] at hK ⊢
      have HK := Lib.hid hK
      clear hK hp
      refine ⟨?_⟩
      go_simp
      refine (addN_any _ _ (xa) (xb) W (N7.below hb) (N8.below hb) 2 2 sa sb (by omega) (HT.out.below (below_trans B1 hb))).mono ?_
      rintro e W9 ⟨r9, rfl, hr9, hb9⟩
      exact HK.out _ _ hr9 hb9
    · intro ts W hb hB hp
      have h2 : IsNum W (ts 2) ((xa).add (xb)) := hp 2 (by kernel_rfl)
      intro K hK
      simp only [fillT, Nat.zero_add, Nat.reduceAdd, List.setIfInBounds_toArray, List.set_cons_zero, List.set_cons_succ] at hK ⊢
      have HK := Lib.hid hK
      clear hK hp
      refine ⟨?_⟩
      go_simp
      refine (conjN_any _ ((xa).add (xb)) W h2).mono ?_
      rintro e W9 ⟨r9, rfl, hr9, hb9⟩
      exact HK.out _ _ hr9 hb9
    · intro ts W hb hB hp
      intro K hK
      simp only [fillT, Nat.zero_add, Nat.reduceAdd, List.setIfInBounds_toArray, List.set_cons_zero, List.set_cons_succ] at hK ⊢
      refine ⟨?_⟩
      refine wp_load_row _ _ rfl (g7) rfl _ _ (0, 0) _ ((hb.block _ (z7)).trans X7) Tryd.underlying29 rfl (by kernel_rfl) ?_
      exact hK _ _ rfl (Below.refl _ _)
    · intro ts W hb hB hp
      have h4 : ts 4 = _ := hp 4 (by kernel_rfl)
      intro K hK
      simp only [fillT, Nat.zero_add, Nat.reduceAdd, List.setIfInBounds_toArray, List.set_cons_zero, List.set_cons_succ, h4] at hK ⊢
      have HK := Lib.hid hK
      clear hK hp
      refine ⟨?_⟩
      go_simp
      refine (conjN_any _ (xa) W (N7.below hb)).mono ?_
      rintro e W9 ⟨r9, rfl, hr9, hb9⟩
      exact HK.out _ _ hr9 hb9
    · intro ts W hb hB hp
      intro K hK
      simp only [fillT, Nat.zero_add, Nat.reduceAdd, List.setIfInBounds_toArray, List.set_cons_zero, List.set_cons_succ] at hK ⊢
      refine ⟨?_⟩
      refine wp_load_row _ _ rfl (g8) rfl _ _ (0, 0) _ ((hb.block _ (z8)).trans X8) Tryd.underlying29 rfl (by kernel_rfl) ?_
      exact hK _ _ rfl (Below.refl _ _)
    · intro ts W hb hB hp
      have h6 : ts 6 = _ := hp 6 (by kernel_rfl)
      intro K hK
      simp only [fillT, Nat.zero_add, Nat.reduceAdd, List.setIfInBounds_toArray, List.set_cons_zero, List.set_cons_succ, h6] at hK ⊢
      have HK := Lib.hid hK
      clear hK hp
      refine ⟨?_⟩
      go_simp
      refine (conjN_any _ (xb) W (N8.below hb)).mono ?_
      rintro e W9 ⟨r9, rfl, hr9, hb9⟩
      exact HK.out _ _ hr9 hb9
    · intro ts W hb hB hp
      have h5 : IsNum W (ts 5) ((xa).conj) := hp 5 (by kernel_rfl)
      have h7 : IsNum W (ts 7) ((xb).conj) := hp 7 (by kernel_rfl)
      intro K hK
      simp only [fillT, Nat.zero_add, Nat.reduceAdd, List.setIfInBounds_toArray, List.set_cons_zero, List.set_cons_succ] at hK ⊢
      have HK := Lib.hid hK
      clear hK hp
      refine ⟨?_⟩
      go_simp
      refine (addN_any _ _ ((xa).conj) ((xb).conj) W h5 h7 2 2 ((sa).conj) ((sb).conj) (by omega) (HT.out.below (below_trans B1 hb))).mono ?_
      rintro e W9 ⟨r9, rfl, hr9, hb9⟩
      exact HK.out _ _ hr9 hb9
    · intro ts W hb hB hp
      have h3 : IsNum W (ts 3) (((xa).add (xb)).conj) := hp 3 (by kernel_rfl)
      have h8 : IsNum W (ts 8) (((xa).conj).add ((xb).conj)) := hp 8 (by kernel_rfl)
      intro K hK
      simp only [fillT, Nat.zero_add, Nat.reduceAdd, List.setIfInBounds_toArray, List.set_cons_zero, List.set_cons_succ] at hK ⊢
      have HK := Lib.hid hK
      clear hK hp
      refine ⟨?_⟩
      go_simp
      refine (sameN_k _ _ (((xa).add (xb)).conj) (((xa).conj).add ((xb).conj)) W h3 h8 5 (Sz.mono ((((sa).add (sb))).conj) (by omega)) (Sz.mono ((((sa).conj)).add (((sb).conj))) (by omega)) (by omega) (same_t (Cx.conj_add _ _))).mono ?_
      rintro e W9 ⟨rfl, hb9⟩
      exact HK.out _ _ rfl hb9
    · intro ts W hb hB hp
      have h9 : ts 9 = _ := hp 9 (by kernel_rfl)
      intro K hK
      simp only [fillT, Nat.zero_add, Nat.reduceAdd, List.setIfInBounds_toArray, List.set_cons_zero, List.set_cons_succ, h9] at hK ⊢
      have HK := Lib.hid hK
      clear hK hp
      refine ⟨?_⟩
      go_simp
      exact HK.out _ _ rfl (Below.refl _ _)
    · intro ts W hb hB hp
      have h10 : ts 10 = _ := hp 10 (by kernel_rfl)
      refine Guarded.on h10 ?_
      clear h10
      intro K hK
      simp only [fillT, Nat.zero_add, Nat.reduceAdd, List.setIfInBounds_toArray, List.set_cons_zero, List.set_cons_succ] at hK ⊢
      refine ⟨?_⟩
      refine wp_load_row _ _ rfl (g7) rfl _ _ (0, 0) _ ((hb.block _ (z7)).trans X7) Tryd.underlying29 rfl (by kernel_rfl) ?_
      exact hK _ _ rfl (Below.refl _ _)
    · intro ts W hb hB hp
      have h10 : ts 10 = _ := hp 10 (by kernel_rfl)
      refine Guarded.on h10 ?_
      clear h10
      intro K hK
      simp only [fillT, Nat.zero_add, Nat.reduceAdd, List.setIfInBounds_toArray, List.set_cons_zero, List.set_cons_succ] at hK ⊢
      refine ⟨?_⟩
      refine wp_load_row _ _ rfl (g8) rfl _ _ (0, 0) _ ((hb.block _ (z8)).trans X8) Tryd.underlying29 rfl (by kernel_rfl) ?_
      exact hK _ _ rfl (Below.refl _ _)
    · intro ts W hb hB hp
      have h11 : ts 11 = _ := hp 11 (by kernel_rfl)
      have h12 : ts 12 = _ := hp 12 (by kernel_rfl)
      have h10 : ts 10 = _ := hp 10 (by kernel_rfl)
      refine Guarded.on h10 ?_
      clear h10
      intro K hK
      simp only [fillT, Nat.zero_add, Nat.reduceAdd, List.setIfInBounds_toArray, List.set_cons_zero, List.set_cons_succ, h11, h12] at hK ⊢
      have HK := Lib.hid hK
      clear hK hp
      refine ⟨?_⟩
      go_simp
      refine (mulN_any _ _ (xa) (xb) W (N7.below hb) (N8.below hb) 2 2 sa sb (by omega) (HT.out.below (below_trans B1 hb))).mono ?_
      rintro e W9 ⟨r9, rfl, hr9, hb9⟩
      exact HK.out _ _ hr9 hb9
    · intro ts W hb hB hp
      have h13 : IsNum W (ts 13) ((xa).mul (xb)) := hp 13 (by kernel_rfl)
      have h10 : ts 10 = _ := hp 10 (by kernel_rfl)
      refine Guarded.on h10 ?_
      clear h10
      intro K hK
      simp only [fillT, Nat.zero_add, Nat.reduceAdd, List.setIfInBounds_toArray, List.set_cons_zero, List.set_cons_succ] at hK ⊢
      have HK := Lib.hid hK
      clear hK hp
      refine ⟨?_⟩
      go_simp
      refine (conjN_any _ ((xa).mul (xb)) W h13).mono ?_
      rintro e W9 ⟨r9, rfl, hr9, hb9⟩
      exact HK.out _ _ hr9 hb9
    · intro ts W hb hB hp
      have h10 : ts 10 = _ := hp 10 (by kernel_rfl)
      refine Guarded.on h10 ?_
      clear h10
      intro K hK
      simp only [fillT, Nat.zero_add, Nat.reduceAdd, List.setIfInBounds_toArray, List.set_cons_zero, List.set_cons_succ] at hK ⊢
      refine ⟨?_⟩
      refine wp_load_row _ _ rfl (g7) rfl _ _ (0, 0) _ ((hb.block _ (z7)).trans X7) Tryd.underlying29 rfl (by kernel_rfl) ?_
      exact hK _ _ rfl (Below.refl _ _)
    · intro ts W hb hB hp
      have h15 : ts 15 = _ := hp 15 (by kernel_rfl)
      have h10 : ts 10 = _ := hp 10 (by kernel_rfl)
      refine Guarded.on h10 ?_
      clear h10
      intro K hK
      simp only [fillT, Nat.zero_add, Nat.reduceAdd, List.setIfInBounds_toArray, List.set_cons_zero, List.set_cons_succ, h15] at hK ⊢
      have HK := Lib.hid hK
      clear hK hp
      refine ⟨?_⟩
      go_simp
      refine (conjN_any _ (xa) W (N7.below hb)).mono ?_
      rintro e W9 ⟨r9, rfl, hr9, hb9⟩
      exact HK.out _ _ hr9 hb9
    · intro ts W hb hB hp
      have h10 : ts 10 = _ := hp 10 (by kernel_rfl)
      refine Guarded.on h10 ?_
      clear h10
      intro K hK
      simp only [fillT, Nat.zero_add, Nat.reduceAdd, List.setIfInBounds_toArray, List.set_cons_zero, List.set_cons_succ] at hK ⊢
      refine ⟨?_⟩
      refine wp_load_row _ _ rfl (g8) rfl _ _ (0, 0) _ ((hb.block _ (z8)).trans X8) Tryd.underlying29 rfl (by kernel_rfl) ?_
      exact hK _ _ rfl (Below.refl _ _)
    · intro ts W hb hB hp
      have h17 : ts 17 = _ := hp 17 (by kernel_rfl)
      have h10 : ts 10 = _ := hp 10 (by kernel_rfl)
      refine Guarded.on h10 ?_
      clear h10
      intro K hK
      simp only [fillT, Nat.zero_add, Nat.reduceAdd, List.setIfInBounds_toArray, List.set_cons_zero, List.set_cons_succ, h17] at hK ⊢
      have HK := Lib.hid hK
      clear hK hp
      refine ⟨?_⟩
      go_simp
      refine (conjN_any _ (xb) W (N8.below hb)).mono ?_
      rintro e W9 ⟨r9, rfl, hr9, hb9⟩
      exact HK.out _ _ hr9 hb9
    · intro ts W hb hB hp
      have h16 : IsNum W (ts 16) ((xa).conj) := hp 16 (by kernel_rfl)
      have h18 : IsNum W (ts 18) ((xb).conj) := hp 18 (by kernel_rfl)
      have h10 : ts 10 = _ := hp 10 (by kernel_rfl)
      refine Guarded.on h10 ?_
      clear h10
      intro K hK
      simp only [fillT, Nat.zero_add, Nat.reduceAdd, List.setIfInBounds_toArray, List.set_cons_zero, List.set_cons_succ] at hK ⊢
      have HK := Lib.hid hK
      clear hK hp
      refine ⟨?_⟩
      go_simp
      refine (mulN_any _ _ ((xa).conj) ((xb).conj) W h16 h18 2 2 ((sa).conj) ((sb).conj) (by omega) (HT.out.below (below_trans B1 hb))).mono ?_
      rintro e W9 ⟨r9, rfl, hr9, hb9⟩
      exact HK.out _ _ hr9 hb9
    · intro ts W hb hB hp
      have h14 : IsNum W (ts 14) (((xa).mul (xb)).conj) := hp 14 (by kernel_rfl)
      have h19 : IsNum W (ts 19) (((xa).conj).mul ((xb).conj)) := hp 19 (by kernel_rfl)
      have h10 : ts 10 = _ := hp 10 (by kernel_rfl)
      refine Guarded.on h10 ?_
      clear h10
      intro K hK
      simp only [fillT, Nat.zero_add, Nat.reduceAdd, List.setIfInBounds_toArray, List.set_cons_zero, List.set_cons_succ] at hK ⊢
      have HK := Lib.hid hK
      clear hK hp
      refine ⟨?_⟩
      go_simp
      refine (sameN_k _ _ (((xa).mul (xb)).conj) (((xa).conj).mul ((xb).conj)) W h14 h19 5 (Sz.mono ((((sa).mul (sb))).conj) (by omega)) (Sz.mono ((((sa).conj)).mul (((sb).conj))) (by omega)) (by omega) (same_t (Cx.conj_mul _ _))).mono ?_
      rintro e W9 ⟨rfl, hb9⟩
      exact HK.out _ _ rfl hb9
    · intro ts W hb hB hp
      have h10 : ts 10 = _ := hp 10 (by kernel_rfl)
      have h20 : ts 20 = _ := hp 20 (by kernel_rfl)
      intro K hK
      simp only [fillT, Nat.zero_add, Nat.reduceAdd, List.setIfInBounds_toArray, List.set_cons_zero, List.set_cons_succ, h10, h20] at hK ⊢
      have HK := Lib.hid hK
      clear hK hp
      refine ⟨?_⟩
      go_simp
      exact HK.out _ _ rfl (Below.refl _ _)
    · intro ts W hb hB hp
      have h21 : ts 21 = _ := hp 21 (by kernel_rfl)
      intro K hK
      simp only [fillT, Nat.zero_add, Nat.reduceAdd, List.setIfInBounds_toArray, List.set_cons_zero, List.set_cons_succ, h21] at hK ⊢
      have HK := Lib.hid hK
      clear hK hp
      refine ⟨?_⟩
      go_simp
      exact HK.out _ _ rfl (Below.refl _ _)
    · intro ts W hb hB hp
      have h22 : ts 22 = _ := hp 22 (by kernel_rfl)
      refine Guarded.on h22 ?_
      clear h22
      intro K hK
      simp only [fillT, Nat.zero_add, Nat.reduceAdd, List.setIfInBounds_toArray, List.set_cons_zero, List.set_cons_succ] at hK ⊢
      refine ⟨?_⟩
      refine wp_load_row _ _ rfl (g7) rfl _ _ (0, 0) _ ((hb.block _ (z7)).trans X7) Tryd.underlying29 rfl (by kernel_rfl) ?_
      exact hK _ _ rfl (Below.refl _ _)
    · intro ts W hb hB hp
      have h23 : ts 23 = _ := hp 23 (by kernel_rfl)
      have h22 : ts 22 = _ := hp 22 (by kernel_rfl)
      refine Guarded.on h22 ?_
      clear h22
      intro K hK
      simp only [fillT, Nat.zero_add, Nat.reduceAdd, List.setIfInBounds_toArray, List.set_cons_zero, List.set_cons_succ, h23] at hK ⊢
      have HK := Lib.hid hK
      clear hK hp
      refine ⟨?_⟩
      go_simp
      refine (normN_any _ (xa) W (N7.below hb) 2 sa (by omega) (HT.out.below (below_trans B1 hb))).mono ?_
      rintro e W9 ⟨r9, rfl, hr9, hb9⟩
      exact HK.out _ _ hr9 hb9
    · intro ts W hb hB hp
      have h22 : ts 22 = _ := hp 22 (by kernel_rfl)
      refine Guarded.on h22 ?_
      clear h22
      intro K hK
      simp only [fillT, Nat.zero_add, Nat.reduceAdd, List.setIfInBounds_toArray, List.set_cons_zero, List.set_cons_succ] at hK ⊢
      refine ⟨?_⟩
      refine wp_load_row _ _ rfl (g7) rfl _ _ (0, 0) _ ((hb.block _ (z7)).trans X7) Tryd.underlying29 rfl (by kernel_rfl) ?_
      exact hK _ _ rfl (Below.refl _ _)
    · intro ts W hb hB hp
      have h22 : ts 22 = _ := hp 22 (by kernel_rfl)
      refine Guarded.on h22 ?_
      clear h22
      intro K hK
      simp only [fillT, Nat.zero_add, Nat.reduceAdd, List.setIfInBounds_toArray, List.set_cons_zero, List.set_cons_succ] at hK ⊢
      refine ⟨?_⟩
      refine wp_load_row _ _ rfl (g7) rfl _ _ (0, 0) _ ((hb.block _ (z7)).trans X7) Tryd.underlying29 rfl (by kernel_rfl) ?_
      exact hK _ _ rfl (Below.refl _ _)
    · intro ts W hb hB hp
      have h26 : ts 26 = _ := hp 26 (by kernel_rfl)
      have h22 : ts 22 = _ := hp 22 (by kernel_rfl)
      refine Guarded.on h22 ?_
      clear h22
      intro K hK
      simp only [fillT, Nat.zero_add, Nat.reduceAdd, List.setIfInBounds_toArray, List.set_cons_zero, List.set_cons_succ, h26] at hK ⊢
      have HK := Lib.hid hK
      clear hK hp
      refine ⟨?_⟩
      go_simp
      refine (conjN_any _ (xa) W (N7.below hb)).mono ?_
      rintro e W9 ⟨r9, rfl, hr9, hb9⟩
      exact HK.out _ _ hr9 hb9
    · intro ts W hb hB hp
      have h25 : ts 25 = _ := hp 25 (by kernel_rfl)
      have h27 : IsNum W (ts 27) ((xa).conj) := hp 27 (by kernel_rfl)
      have h22 : ts 22 = _ := hp 22 (by kernel_rfl)
      refine Guarded.on h22 ?_
      clear h22
      intro K hK
      simp only [fillT, Nat.zero_add, Nat.reduceAdd, List.setIfInBounds_toArray, List.set_cons_zero, List.set_cons_succ, h25] at hK ⊢
      have HK := Lib.hid hK
      clear hK hp
      refine ⟨?_⟩
      go_simp
      refine (mulN_any _ _ (xa) ((xa).conj) W (N7.below hb) h27 2 2 sa ((sa).conj) (by omega) (HT.out.below (below_trans B1 hb))).mono ?_
      rintro e W9 ⟨r9, rfl, hr9, hb9⟩
      exact HK.out _ _ hr9 hb9
    · intro ts W hb hB hp
      have h24 : IsNum W (ts 24) ((xa).norm) := hp 24 (by kernel_rfl)
      have h28 : IsNum W (ts 28) ((xa).mul ((xa).conj)) := hp 28 (by kernel_rfl)
      have h22 : ts 22 = _ := hp 22 (by kernel_rfl)
      refine Guarded.on h22 ?_
      clear h22
      intro K hK
      simp only [fillT, Nat.zero_add, Nat.reduceAdd, List.setIfInBounds_toArray, List.set_cons_zero, List.set_cons_succ] at hK ⊢
      have HK := Lib.hid hK
      clear hK hp
      refine ⟨?_⟩
      go_simp
      refine (sameN_k _ _ ((xa).norm) ((xa).mul ((xa).conj)) W h24 h28 5 (Sz.mono ((sa).norm) (by omega)) (Sz.mono ((sa).mul (((sa).conj))) (by omega)) (by omega) (same_t (Cx.norm_conj _))).mono ?_
      rintro e W9 ⟨rfl, hb9⟩
      exact HK.out _ _ rfl hb9
    · intro ts W hb hB hp
      have h22 : ts 22 = _ := hp 22 (by kernel_rfl)
      have h29 : ts 29 = _ := hp 29 (by kernel_rfl)
      intro K hK
      simp only [fillT, Nat.zero_add, Nat.reduceAdd, List.setIfInBounds_toArray, List.set_cons_zero, List.set_cons_succ, h22, h29] at hK ⊢
      have HK := Lib.hid hK
      clear hK hp
      refine ⟨?_⟩
      go_simp
      exact HK.out _ _ rfl (Below.refl _ _)
    · intro ts W hb hB hp
      have h30 : ts 30 = _ := hp 30 (by kernel_rfl)
      intro K hK
      simp only [fillT, Nat.zero_add, Nat.reduceAdd, List.setIfInBounds_toArray, List.set_cons_zero, List.set_cons_succ, h30] at hK ⊢
      have HK := Lib.hid hK
      clear hK hp
      refine ⟨?_⟩
      go_simp
      exact HK.out _ _ rfl (Below.refl _ _)
    · intro ts W hb hB hp
      have h31 : ts 31 = _ := hp 31 (by kernel_rfl)
      refine Guarded.on h31 ?_
      clear h31
      intro K hK
      simp only [fillT, Nat.zero_add, Nat.reduceAdd, List.setIfInBounds_toArray, List.set_cons_zero, List.set_cons_succ] at hK ⊢
      refine ⟨?_⟩
      refine wp_load_row _ _ rfl (g7) rfl _ _ (0, 0) _ ((hb.block _ (z7)).trans X7) Tryd.underlying29 rfl (by kernel_rfl) ?_
      exact hK _ _ rfl (Below.refl _ _)
    · intro ts W hb hB hp
      have h31 : ts 31 = _ := hp 31 (by kernel_rfl)
      refine Guarded.on h31 ?_
      clear h31
      intro K hK
      simp only [fillT, Nat.zero_add, Nat.reduceAdd, List.setIfInBounds_toArray, List.set_cons_zero, List.set_cons_succ] at hK ⊢
      refine ⟨?_⟩
      refine wp_load_row _ _ rfl (g8) rfl _ _ (0, 0) _ ((hb.block _ (z8)).trans X8) Tryd.underlying29 rfl (by kernel_rfl) ?_
      exact hK _ _ rfl (Below.refl _ _)
    · intro ts W hb hB hp
      have h32 : ts 32 = _ := hp 32 (by kernel_rfl)
      have h33 : ts 33 = _ := hp 33 (by kernel_rfl)
      have h31 : ts 31 = _ := hp 31 (by kernel_rfl)
      refine Guarded.on h31 ?_
      clear h31
      intro K hK
      simp only [fillT, Nat.zero_add, Nat.reduceAdd, List.setIfInBounds_toArray, List.set_cons_zero, List.set_cons_succ, h32, h33] at hK ⊢
      have HK := Lib.hid hK
      clear hK hp
      refine ⟨?_⟩
      go_simp
      refine (mulN_any _ _ (xa) (xb) W (N7.below hb) (N8.below hb) 2 2 sa sb (by omega) (HT.out.below (below_trans B1 hb))).mono ?_
      rintro e W9 ⟨r9, rfl, hr9, hb9⟩
      exact HK.out _ _ hr9 hb9
    · intro ts W hb hB hp
      have h34 : IsNum W (ts 34) ((xa).mul (xb)) := hp 34 (by kernel_rfl)
      have h31 : ts 31 = _ := hp 31 (by kernel_rfl)
      refine Guarded.on h31 ?_
      clear h31
      intro K hK
      simp only [fillT, Nat.zero_add, Nat.reduceAdd, List.setIfInBounds_toArray, List.set_cons_zero, List.set_cons_succ] at hK ⊢
      have HK := Lib.hid hK
      clear hK hp
      refine ⟨?_⟩
      go_simp
      refine (normN_any _ ((xa).mul (xb)) W h34 5 ((sa).mul (sb)) (by omega) (HT.out.below (below_trans B1 hb))).mono ?_
      rintro e W9 ⟨r9, rfl, hr9, hb9⟩
      exact HK.out _ _ hr9 hb9
    · intro ts W hb hB hp
      have h31 : ts 31 = _ := hp 31 (by kernel_rfl)
      refine Guarded.on h31 ?_
      clear h31
      intro K hK
      simp only [fillT, Nat.zero_add, Nat.reduceAdd, List.setIfInBounds_toArray, List.set_cons_zero, List.set_cons_succ] at hK ⊢
      refine ⟨?_⟩
      refine wp_load_row _ _ rfl (g7) rfl _ _ (0, 0) _ ((hb.block _ (z7)).trans X7) Tryd.underlying29 rfl (by kernel_rfl) ?_
      exact hK _ _ rfl (Below.refl _ _)
    · intro ts W hb hB hp
      have h36 : ts 36 = _ := hp 36 (by kernel_rfl)
      have h31 : ts 31 = _ := hp 31 (by kernel_rfl)
      refine Guarded.on h31 ?_
      clear h31
      intro K hK
      simp only [fillT, Nat.zero_add, Nat.reduceAdd, List.setIfInBounds_toArray, List.set_cons_zero, List.set_cons_succ, h36] at hK ⊢
      have HK := Lib.hid hK
      clear hK hp
      refine ⟨?_⟩
      go_simp
      refine (normN_any _ (xa) W (N7.below hb) 2 sa (by omega) (HT.out.below (below_trans B1 hb))).mono ?_
      rintro e W9 ⟨r9, rfl, hr9, hb9⟩
      exact HK.out _ _ hr9 hb9
    · intro ts W hb hB hp
      have h31 : ts 31 = _ := hp 31 (by kernel_rfl)
      refine Guarded.on h31 ?_
      clear h31
      intro K hK
      simp only [fillT, Nat.zero_add, Nat.reduceAdd, List.setIfInBounds_toArray, List.set_cons_zero, List.set_cons_succ] at hK ⊢
      refine ⟨?_⟩
      refine wp_load_row _ _ rfl (g8) rfl _ _ (0, 0) _ ((hb.block _ (z8)).trans X8) Tryd.underlying29 rfl (by kernel_rfl) ?_
      exact hK _ _ rfl (Below.refl _ _)
    · intro ts W hb hB hp
      have h38 : ts 38 = _ := hp 38 (by kernel_rfl)
      have h31 : ts 31 = _ := hp 31 (by kernel_rfl)
      refine Guarded.on h31 ?_
      clear h31
      intro K hK
      simp only [fillT, Nat.zero_add, Nat.reduceAdd, List.setIfInBounds_toArray, List.set_cons_zero, List.set_cons_succ, h38] at hK ⊢
      have HK := Lib.hid hK
      clear hK hp
      refine ⟨?_⟩
      go_simp
      refine (normN_any _ (xb) W (N8.below hb) 2 sb (by omega) (HT.out.below (below_trans B1 hb))).mono ?_
      rintro e W9 ⟨r9, rfl, hr9, hb9⟩
      exact HK.out _ _ hr9 hb9
    · intro ts W hb hB hp
      have h37 : IsNum W (ts 37) ((xa).norm) := hp 37 (by kernel_rfl)
      have h39 : IsNum W (ts 39) ((xb).norm) := hp 39 (by kernel_rfl)
      have h31 : ts 31 = _ := hp 31 (by kernel_rfl)
      refine Guarded.on h31 ?_
      clear h31
      intro K hK
      simp only [fillT, Nat.zero_add, Nat.reduceAdd, List.setIfInBounds_toArray, List.set_cons_zero, List.set_cons_succ] at hK ⊢
      have HK := Lib.hid hK
      clear hK hp
      refine ⟨?_⟩
      go_simp
      refine (mulN_any _ _ ((xa).norm) ((xb).norm) W h37 h39 5 5 ((sa).norm) ((sb).norm) (by omega) (HT.out.below (below_trans B1 hb))).mono ?_
      rintro e W9 ⟨r9, rfl, hr9, hb9⟩
      exact HK.out _ _ hr9 hb9
    · intro ts W hb hB hp
      have h35 : IsNum W (ts 35) (((xa).mul (xb)).norm) := hp 35 (by kernel_rfl)
      have h40 : IsNum W (ts 40) (((xa).norm).mul ((xb).norm)) := hp 40 (by kernel_rfl)
      have h31 : ts 31 = _ := hp 31 (by kernel_rfl)
      refine Guarded.on h31 ?_
      clear h31
      intro K hK
      simp only [fillT, Nat.zero_add, Nat.reduceAdd, List.setIfInBounds_toArray, List.set_cons_zero, List.set_cons_succ] at hK ⊢
      have HK := Lib.hid hK
      clear hK hp
      refine ⟨?_⟩
      go_simp
      refine (sameN_k _ _ (((xa).mul (xb)).norm) (((xa).norm).mul ((xb).norm)) W h35 h40 11 (Sz.mono ((((sa).mul (sb))).norm) (by omega)) (Sz.mono ((((sa).norm)).mul (((sb).norm))) (by omega)) (by omega) (same_t (Cx.norm_mul _ _))).mono ?_
      rintro e W9 ⟨rfl, hb9⟩
      exact HK.out _ _ rfl hb9
    · intro ts W hb hB hp
      have h31 : ts 31 = _ := hp 31 (by kernel_rfl)
      have h41 : ts 41 = _ := hp 41 (by kernel_rfl)
      intro K hK
      simp only [fillT, Nat.zero_add, Nat.reduceAdd, List.setIfInBounds_toArray, List.set_cons_zero, List.set_cons_succ, h31, h41] at hK ⊢
      have HK := Lib.hid hK
      clear hK hp
      refine ⟨?_⟩
      go_simp
      exact HK.out _ _ rfl (Below.refl _ _)
    · intro ts W hb hB hp
      have h42 : ts 42 = _ := hp 42 (by kernel_rfl)
      intro K hK
      simp only [fillT, Nat.zero_add, Nat.reduceAdd, List.setIfInBounds_toArray, List.set_cons_zero, List.set_cons_succ, h42] at hK ⊢
      have HK := Lib.hid hK
      clear hK hp
      refine ⟨?_⟩
      go_simp
      exact HK.out _ _ rfl (Below.refl _ _)
    · intro ts W hb hB hp
      have h43 : ts 43 = _ := hp 43 (by kernel_rfl)
      refine Guarded.on h43 ?_
      clear h43
      intro K hK
      simp only [fillT, Nat.zero_add, Nat.reduceAdd, List.setIfInBounds_toArray, List.set_cons_zero, List.set_cons_succ] at hK ⊢
      have HK := Lib.hid hK
      clear hK hp
      refine ⟨?_⟩
      go_simp
      refine (awake_any W (HT.out.below (below_trans B1 hb))).mono ?_
      rintro e W9 ⟨rfl, hb9⟩
      exact HK.out _ _ rfl hb9
    · intro ts W hb hB hp
      have h43 : ts 43 = _ := hp 43 (by kernel_rfl)
      have h44 : ts 44 = _ := hp 44 (by kernel_rfl)
      intro K hK
      simp only [fillT, Nat.zero_add, Nat.reduceAdd, List.setIfInBounds_toArray, List.set_cons_zero, List.set_cons_succ, h43, h44] at hK ⊢
      have HK := Lib.hid hK
      clear hK hp
      refine ⟨?_⟩
      go_simp
      exact HK.out _ _ rfl (Below.refl _ _)
    · intro ts W hb hB hp
      have h45 : ts 45 = _ := hp 45 (by kernel_rfl)
      intro K hK
      simp only [fillT, Nat.zero_add, Nat.reduceAdd, List.setIfInBounds_toArray, List.set_cons_zero, List.set_cons_succ, h45] at hK ⊢
      have HK := Lib.hid hK
      clear hK hp
      refine ⟨?_⟩
      go_simp
      exact HK.out _ _ rfl (Below.refl _ _)
    intro ts V5 hbq hh hap
    have e46 := held_is (hh 46 (by simp)) rfl
    simp only [fillT, Nat.zero_add, Nat.reduceAdd, List.setIfInBounds_toArray, List.set_cons_zero, List.set_cons_succ, e46]
    clear hh hap e46
    generalize ts 0 = u0_V5 at *
    generalize ts 1 = u1_V5 at *
    generalize ts 2 = u2_V5 at *
    generalize ts 3 = u3_V5 at *
    generalize ts 4 = u4_V5 at *
    generalize ts 5 = u5_V5 at *
    generalize ts 6 = u6_V5 at *
    generalize ts 7 = u7_V5 at *
    generalize ts 8 = u8_V5 at *
    generalize ts 9 = u9_V5 at *
    generalize ts 10 = u10_V5 at *
    generalize ts 11 = u11_V5 at *
    generalize ts 12 = u12_V5 at *
    generalize ts 13 = u13_V5 at *
    generalize ts 14 = u14_V5 at *
    generalize ts 15 = u15_V5 at *
    generalize ts 16 = u16_V5 at *
    generalize ts 17 = u17_V5 at *
    generalize ts 18 = u18_V5 at *
    generalize ts 19 = u19_V5 at *
    generalize ts 20 = u20_V5 at *
    generalize ts 21 = u21_V5 at *
    generalize ts 22 = u22_V5 at *
    generalize ts 23 = u23_V5 at *
    generalize ts 24 = u24_V5 at *
    generalize ts 25 = u25_V5 at *
    generalize ts 26 = u26_V5 at *
    generalize ts 27 = u27_V5 at *
    generalize ts 28 = u28_V5 at *
    generalize ts 29 = u29_V5 at *
    generalize ts 30 = u30_V5 at *
    generalize ts 31 = u31_V5 at *
    generalize ts 32 = u32_V5 at *
    generalize ts 33 = u33_V5 at *
    generalize ts 34 = u34_V5 at *
    generalize ts 35 = u35_V5 at *
    generalize ts 36 = u36_V5 at *
    generalize ts 37 = u37_V5 at *
    generalize ts 38 = u38_V5 at *
    generalize ts 39 = u39_V5 at *
    generalize ts 40 = u40_V5 at *
    generalize ts 41 = u41_V5 at *
    generalize ts 42 = u42_V5 at *
    generalize ts 43 = u43_V5 at *
    generalize ts 44 = u44_V5 at *
    generalize ts 45 = u45_V5 at *
    clear ts
    replace X7 := (hbq.block _ z7).trans X7
    replace z7 := Nat.lt_of_lt_of_le z7 hbq.size
    replace X8 := (hbq.block _ z8).trans X8
    replace z8 := Nat.lt_of_lt_of_le z8 hbq.size
    replace X9 := (hbq.block _ z9).trans X9
    replace z9 := Nat.lt_of_lt_of_le z9 hbq.size
    replace X10 := (hbq.block _ z10).trans X10
    replace z10 := Nat.lt_of_lt_of_le z10 hbq.size
    replace N7 := N7.below hbq
    replace N8 := N8.below hbq
    replace N9 := N9.below hbq
    replace N10 := N10.below hbq
    replace B1 := below_trans B1 hbq
    clear hbq
    clear X7 N7 z7 X8 N8 z8 X9 N9 z9 X10 N10 z10
    go_wp2
    go_ret
    exact ⟨rfl, B1⟩
  · go_upto_region 6 with fail
    refine region_lin [.val (kIs (.agg #[.slice A7 n7 c7, .bool p7, .slice A7b n7b c7b, .bool p7b, .slice A7c n7c c7c])), .val (kIs (.agg #[.slice A8 n8 c8, .bool p8, .slice A8b n8b c8b, .bool p8b, .slice A8c n8c c8c])), .val (kTup ((xa).div (xb)) 0), .val (kTup ((xa).div (xb)) 0), .val (kNum ((xa).div (xb))), .val (kIs (.int .i64 0)), .box 29 zNum, .put 6 4, .val (kIs (.int .i64 0))]
      (by kernel_rfl) (by kernel_rfl) (by kernel_rfl) (by kernel_rfl) (by kernel_rfl) ⟨stab_is _, stab_is _, stab_tup _ _, stab_tup _ _, stab_num _, stab_is _, stab_is _, trivial⟩ (by simp) ⟨?_, ?_, ?_, ?_, ?_, ?_, alloc_num, store_num _, ?_, trivial⟩ ?_
    · intro ts W hb hB hp
      intro K hK
      simp only [fillT, Nat.zero_add, Nat.reduceAdd, List.setIfInBounds_toArray, List.set_cons_zero, List.set_cons_succ] at hK ⊢
      refine ⟨?_⟩
      refine wp_load_row _ _ rfl (g7) rfl _ _ (0, 0) _ ((hb.block _ (z7)).trans X7) Tryd.underlying29 rfl (by kernel_rfl) ?_
      exact hK _ _ rfl (Below.refl _ _)
    · intro ts W hb hB hp
      intro K hK
      simp only [fillT, Nat.zero_add, Nat.reduceAdd, List.setIfInBounds_toArray, List.set_cons_zero, List.set_cons_succ] at hK ⊢
      refine ⟨?_⟩
      refine wp_load_row _ _ rfl (g8) rfl _ _ (0, 0) _ ((hb.block _ (z8)).trans X8) Tryd.underlying29 rfl (by kernel_rfl) ?_
      exact hK _ _ rfl (Below.refl _ _)
    · intro ts W hb hB hp
      have h0 : ts 0 = _ := hp 0 (by kernel_rfl)
      have h1 : ts 1 = _ := hp 1 (by kernel_rfl)
      intro K hK
      simp only [fillT, Nat.zero_add, Nat.reduceAdd, List.setIfInBounds_toArray, List.set_cons_zero, List.set_cons_succ, h0, h1] at hK ⊢
      have HK := Lib.hid hK
      clear hK hp
      refine ⟨?_⟩
      go_simp
      refine (divN_k _ _ (xa) (xb) W (N7.below hb) (N8.below hb) 2 2 sa sb (by omega) (HT.out.below (below_trans B1 hb)) (div_ok hzb)).mono ?_
      rintro e W9 ⟨r9, rfl, hr9, hb9⟩
      exact HK.out _ _ ⟨r9, rfl, hr9⟩ hb9
    · intro ts W hb hB hp
      have h2 := hp 2 (by kernel_rfl)
      intro K hK
      simp only [fillT, Nat.zero_add, Nat.reduceAdd, List.setIfInBounds_toArray, List.set_cons_zero, List.set_cons_succ] at hK ⊢
      have HK := Lib.hid hK
      clear hK hp
      refine ⟨?_⟩
      go_simp
      exact HK.out _ _ h2 (Below.refl _ _)
    · intro ts W hb hB hp
      have h3 := hp 3 (by kernel_rfl)
      intro K hK
      obtain ⟨u3, e3, n3⟩ := h3
      simp only [fillT, Nat.zero_add, Nat.reduceAdd, List.setIfInBounds_toArray, List.set_cons_zero, List.set_cons_succ, e3] at hK ⊢
      have HK := Lib.hid hK
      clear hK hp
      refine ⟨?_⟩
      go_simp
      exact HK.out _ _ n3 (Below.refl _ _)
    · intro ts W hb hB hp
      have h3 := hp 3 (by kernel_rfl)
      intro K hK
      obtain ⟨u3, e3, n3⟩ := h3
      simp only [fillT, Nat.zero_add, Nat.reduceAdd, List.setIfInBounds_toArray, List.set_cons_zero, List.set_cons_succ, e3] at hK ⊢
      have HK := Lib.hid hK
      clear hK hp
      refine ⟨?_⟩
      go_simp
      exact HK.out _ _ rfl (Below.refl _ _)
    · intro ts W hb hB hp
      have h5 : ts 5 = _ := hp 5 (by kernel_rfl)
      intro K hK
      simp only [fillT, Nat.zero_add, Nat.reduceAdd, List.setIfInBounds_toArray, List.set_cons_zero, List.set_cons_succ, h5] at hK ⊢
      have HK := Lib.hid hK
      clear hK hp
      refine ⟨?_⟩
      go_simp
      exact HK.out _ _ rfl (Below.refl _ _)
    intro ts V3 hbq hh hap
    obtain ⟨g10, A10, n10, c10, p10, A10b, n10b, c10b, p10b, A10c, n10c, c10c, e6, lo10, z10, X10, N10⟩ := held_box (x := (xa).div (xb)) (hh 6 (by simp)) rfl (hh 7 (by simp)) rfl (hh 4 (by simp)) rfl
    have e8 := held_is (hh 8 (by simp)) rfl
    simp only [fillT, Nat.zero_add, Nat.reduceAdd, List.setIfInBounds_toArray, List.set_cons_zero, List.set_cons_succ, e6, e8]
    clear hh hap e6 e8
    generalize ts 0 = u0_V3 at *
    generalize ts 1 = u1_V3 at *
    generalize ts 2 = u2_V3 at *
    generalize ts 3 = u3_V3 at *
    generalize ts 4 = u4_V3 at *
    generalize ts 5 = u5_V3 at *
    clear ts
    replace X7 := (hbq.block _ z7).trans X7
    replace z7 := Nat.lt_of_lt_of_le z7 hbq.size
    replace X8 := (hbq.block _ z8).trans X8
    replace z8 := Nat.lt_of_lt_of_le z8 hbq.size
    replace X9 := (hbq.block _ z9).trans X9
    replace z9 := Nat.lt_of_lt_of_le z9 hbq.size
    replace N7 := N7.below hbq
    replace N8 := N8.below hbq
    replace N9 := N9.below hbq
    replace B1 := below_trans B1 hbq
    clear hbq
    clear lo10
    go_upto_region 7 with fail
    refine region_lin [.val (kIs (.agg #[.slice A8 n8 c8, .bool p8, .slice A8b n8b c8b, .bool p8b, .slice A8c n8c c8c])), .val (kIs (.bool true)), .val (kIs (.int .i64 0)), .val (kIs (.bool true)), .val (kIs (.bool false)), .val (kIs (.bool false)), .val (kIs (.int .i64 0)), .val (kIs (.bool false)), .val (kIs (.bool false)), .val (kIs (undef)), .val (kIs (undef)), .val (kIs (.bool false)), .val (kIs (.bool false)), .val (kIs (.bool false)), .val (kIs (.int .i64 0)), .val (kIs (.bool true)), .val (kIs (.bool true)), .val (kIs (.agg #[.slice A10 n10 c10, .bool p10, .slice A10b n10b c10b, .bool p10b, .slice A10c n10c c10c])), .val (kIs (.agg #[.slice A8 n8 c8, .bool p8, .slice A8b n8b c8b, .bool p8b, .slice A8c n8c c8c])), .val (kNum (((xa).div (xb)).mul (xb))), .val (kIs (.agg #[.slice A7 n7 c7, .bool p7, .slice A7b n7b c7b, .bool p7b, .slice A7c n7c c7c])), .val (kIs (.bool true)), .val (kIs (.bool false)), .val (kIs (.bool false)), .val (kIs (.bool false))]
      (by kernel_rfl) (by kernel_rfl) (by kernel_rfl) (by kernel_rfl) (by kernel_rfl) ⟨Stab.b (stab_is _), Stab.b (stab_is _), Stab.b (stab_is _), Stab.b (stab_is _), Stab.b (stab_is _), Stab.b (stab_is _), Stab.b (stab_is _), Stab.b (stab_is _), Stab.b (stab_is _), Stab.b (stab_is _), Stab.b (stab_is _), Stab.b (stab_is _), Stab.b (stab_is _), Stab.b (stab_is _), Stab.b (stab_is _), Stab.b (stab_is _), Stab.b (stab_is _), Stab.b (stab_is _), Stab.b (stab_is _), Stab.b (stab_num _), Stab.b (stab_is _), Stab.b (stab_is _), Stab.b (stab_is _), Stab.b (stab_is _), Stab.b (stab_is _), trivial⟩ (by simp) ⟨?_, ?_, ?_, ?_, ?_, ?_, ?_, ?_, ?_, ?_, ?_, ?_, ?_, ?_, ?_, ?_, ?_, ?_, ?_, ?_, ?_, ?_, ?_, ?_, ?_, trivial⟩ ?_
    · intro ts W hb hB hp
      intro K hK
      simp only [fillT, Nat.zero_add, Nat.reduceAdd, List.setIfInBounds_toArray, List.set_cons_zero, List.set_cons_succ] at hK ⊢
      refine ⟨?_⟩
      refine wp_load_row _ _ rfl (g8) rfl _ _ (0, 0) _ ((hb.block _ (z8)).trans X8) Tryd.underlying29 rfl (by kernel_rfl) ?_
      exact hK _ _ rfl (Below.refl _ _)
    · intro ts W hb hB hp
      have h0 : ts 0 = _ := hp 0 (by kernel_rfl)
      intro K hK
      simp only [fillT, Nat.zero_add, Nat.reduceAdd, List.setIfInBounds_toArray, List.set_cons_zero, List.set_cons_succ, h0] at hK ⊢
      have HK := Lib.hid hK
      clear hK hp
      refine ⟨?_⟩
      go_simp
      refine (clearN_k _ (xb) W (N8.below hb) (clear_t hzb)).mono ?_
      rintro e W9 ⟨rfl, hb9⟩
      exact HK.out _ _ rfl hb9
    · intro ts W hb hB hp
      intro K hK
      simp only [fillT, Nat.zero_add, Nat.reduceAdd, List.setIfInBounds_toArray, List.set_cons_zero, List.set_cons_succ] at hK ⊢
      have HK := Lib.hid hK
      clear hK hp
      refine ⟨?_⟩
      go_simp
      exact HK.out _ _ rfl (Below.refl _ _)
    · intro ts W hb hB hp
      have h2 : ts 2 = _ := hp 2 (by kernel_rfl)
      intro K hK
      simp only [fillT, Nat.zero_add, Nat.reduceAdd, List.setIfInBounds_toArray, List.set_cons_zero, List.set_cons_succ, h2] at hK ⊢
      have HK := Lib.hid hK
      clear hK hp
      refine ⟨?_⟩
      go_simp
      exact HK.out _ _ rfl (Below.refl _ _)
    · intro ts W hb hB hp
      have h1 : ts 1 = _ := hp 1 (by kernel_rfl)
      have h3 : ts 3 = _ := hp 3 (by kernel_rfl)
      intro K hK
      simp only [fillT, Nat.zero_add, Nat.reduceAdd, List.setIfInBounds_toArray, List.set_cons_zero, List.set_cons_succ, h1, h3] at hK ⊢
      have HK := Lib.hid hK
      clear hK hp
      refine ⟨?_⟩
      go_simp
      exact HK.out _ _ rfl (Below.refl _ _)
    · intro ts W hb hB hp
      have h4 : ts 4 = _ := hp 4 (by kernel_rfl)
      intro K hK
      simp only [fillT, Nat.zero_add, Nat.reduceAdd, List.setIfInBounds_toArray, List.set_cons_zero, List.set_cons_succ, h4] at hK ⊢
      have HK := Lib.hid hK
      clear hK hp
      refine ⟨?_⟩
      go_simp
      exact HK.out _ _ rfl (Below.refl _ _)
    · intro ts W hb hB hp
      have h5 : ts 5 = _ := hp 5 (by kernel_rfl)
      refine Guarded.on h5 ?_
      clear h5
      intro K hK
      simp only [fillT, Nat.zero_add, Nat.reduceAdd, List.setIfInBounds_toArray, List.set_cons_zero, List.set_cons_succ] at hK ⊢
      have HK := Lib.hid hK
      clear hK hp
      refine ⟨?_⟩
      go_simp
      exact HK.out _ _ rfl (Below.refl _ _)
    · intro ts W hb hB hp
      have h6 : ts 6 = _ := hp 6 (by kernel_rfl)
      have h5 : ts 5 = _ := hp 5 (by kernel_rfl)
      refine Guarded.on h5 ?_
      clear h5
      intro K hK
      simp only [fillT, Nat.zero_add, Nat.reduceAdd, List.setIfInBounds_toArray, List.set_cons_zero, List.set_cons_succ, h6] at hK ⊢
      have HK := Lib.hid hK
      clear hK hp
      refine ⟨?_⟩
      go_simp
      exact HK.out _ _ rfl (Below.refl _ _)
    · intro ts W hb hB hp
      have h7 : ts 7 = _ := hp 7 (by kernel_rfl)
      have h5 : ts 5 = _ := hp 5 (by kernel_rfl)
      refine Guarded.on h5 ?_
      clear h5
      intro K hK
      simp only [fillT, Nat.zero_add, Nat.reduceAdd, List.setIfInBounds_toArray, List.set_cons_zero, List.set_cons_succ, h7] at hK ⊢
      have HK := Lib.hid hK
      clear hK hp
      refine ⟨?_⟩
      go_simp
      exact HK.out _ _ rfl (Below.refl _ _)
    · intro ts W hb hB hp
      have h8 : ts 8 = _ := hp 8 (by kernel_rfl)
      exact Guarded.off h8 (by decide) rfl
    · intro ts W hb hB hp
      have h8 : ts 8 = _ := hp 8 (by kernel_rfl)
      exact Guarded.off h8 (by decide) rfl
    · intro ts W hb hB hp
      have h8 : ts 8 = _ := hp 8 (by kernel_rfl)
      have h5 : ts 5 = _ := hp 5 (by kernel_rfl)
      refine Guarded.on h5 ?_
      clear h5
      intro K hK
      simp only [fillT, Nat.zero_add, Nat.reduceAdd, List.setIfInBounds_toArray, List.set_cons_zero, List.set_cons_succ, h8] at hK ⊢
      have HK := Lib.hid hK
      clear hK hp
      refine ⟨?_⟩
      go_simp
      exact HK.out _ _ rfl (Below.refl _ _)
    · intro ts W hb hB hp
      have h5 : ts 5 = _ := hp 5 (by kernel_rfl)
      have h11 : ts 11 = _ := hp 11 (by kernel_rfl)
      intro K hK
      simp only [fillT, Nat.zero_add, Nat.reduceAdd, List.setIfInBounds_toArray, List.set_cons_zero, List.set_cons_succ, h5, h11] at hK ⊢
      have HK := Lib.hid hK
      clear hK hp
      refine ⟨?_⟩
      go_simp
      exact HK.out _ _ rfl (Below.refl _ _)
    · intro ts W hb hB hp
      have h12 : ts 12 = _ := hp 12 (by kernel_rfl)
      intro K hK
      simp only [fillT, Nat.zero_add, Nat.reduceAdd, List.setIfInBounds_toArray, List.set_cons_zero, List.set_cons_succ, h12] at hK ⊢
      have HK := Lib.hid hK
      clear hK hp
      refine ⟨?_⟩
      go_simp
      exact HK.out _ _ rfl (Below.refl _ _)
    · intro ts W hb hB hp
      have h13 : ts 13 = _ := hp 13 (by kernel_rfl)
      refine Guarded.on h13 ?_
      clear h13
      intro K hK
      simp only [fillT, Nat.zero_add, Nat.reduceAdd, List.setIfInBounds_toArray, List.set_cons_zero, List.set_cons_succ] at hK ⊢
      have HK := Lib.hid hK
      clear hK hp
      refine ⟨?_⟩
      go_simp
      exact HK.out _ _ rfl (Below.refl _ _)
    · intro ts W hb hB hp
      have h14 : ts 14 = _ := hp 14 (by kernel_rfl)
      have h13 : ts 13 = _ := hp 13 (by kernel_rfl)
      refine Guarded.on h13 ?_
      clear h13
      intro K hK
      simp only [fillT, Nat.zero_add, Nat.reduceAdd, List.setIfInBounds_toArray, List.set_cons_zero, List.set_cons_succ, h14] at hK ⊢
      have HK := Lib.hid hK
      clear hK hp
      refine ⟨?_⟩
      go_simp
      exact HK.out _ _ rfl (Below.refl _ _)
    · intro ts W hb hB hp
      have h15 : ts 15 = _ := hp 15 (by kernel_rfl)
      have h13 : ts 13 = _ := hp 13 (by kernel_rfl)
      refine Guarded.on h13 ?_
      clear h13
      intro K hK
      simp only [fillT, Nat.zero_add, Nat.reduceAdd, List.setIfInBounds_toArray, List.set_cons_zero, List.set_cons_succ, h15] at hK ⊢
      have HK := Lib.hid hK
      clear hK hp
      refine ⟨?_⟩
      go_simp
      exact HK.out _ _ rfl (Below.refl _ _)
    · intro ts W hb hB hp
      have h16 : ts 16 = _ := hp 16 (by kernel_rfl)
      refine Guarded.on h16 ?_
      clear h16
      intro K hK
      simp only [fillT, Nat.zero_add, Nat.reduceAdd, List.setIfInBounds_toArray, List.set_cons_zero, List.set_cons_succ] at hK ⊢
      refine ⟨?_⟩
      refine wp_load_row _ _ rfl (g10) rfl _ _ (0, 0) _ ((hb.block _ (z10)).trans X10) Tryd.underlying29 rfl (by kernel_rfl) ?_
      exact hK _ _ rfl (Below.refl _ _)
    · intro ts W hb hB hp
      have h16 : ts 16 = _ := hp 16 (by kernel_rfl)
      refine Guarded.on h16 ?_
      clear h16
      intro K hK
      simp only [fillT, Nat.zero_add, Nat.reduceAdd, List.setIfInBounds_toArray, List.set_cons_zero, List.set_cons_succ] at hK ⊢
      refine ⟨?_⟩
      refine wp_load_row _ _ rfl (g8) rfl _ _ (0, 0) _ ((hb.block _ (z8)).trans X8) Tryd.underlying29 rfl (by kernel_rfl) ?_
      exact hK _ _ rfl (Below.refl _ _)
    · intro ts W hb hB hp
      have h17 : ts 17 = _ := hp 17 (by kernel_rfl)
      have h18 : ts 18 = _ := hp 18 (by kernel_rfl)
      have h16 : ts 16 = _ := hp 16 (by kernel_rfl)
      refine Guarded.on h16 ?_
      clear h16
      intro K hK
      simp only [fillT, Nat.zero_add, Nat.reduceAdd, List.setIfInBounds_toArray, List.set_cons_zero, List.set_cons_succ, h17, h18] at hK ⊢
      have HK := Lib.hid hK
      clear hK hp
      refine ⟨?_⟩
      go_simp
      refine (mulN_any _ _ ((xa).div (xb)) (xb) W (N10.below hb) (N8.below hb) 8 2 ((sa).div (sb)) sb (by omega) (HT.out.below (below_trans B1 hb))).mono ?_
      rintro e W9 ⟨r9, rfl, hr9, hb9⟩
      exact HK.out _ _ hr9 hb9
    · intro ts W hb hB hp
      have h16 : ts 16 = _ := hp 16 (by kernel_rfl)
      refine Guarded.on h16 ?_
      clear h16
      intro K hK
      simp only [fillT, Nat.zero_add, Nat.reduceAdd, List.setIfInBounds_toArray, List.set_cons_zero, List.set_cons_succ] at hK ⊢
      refine ⟨?_⟩
      refine wp_load_row _ _ rfl (g7) rfl _ _ (0, 0) _ ((hb.block _ (z7)).trans X7) Tryd.underlying29 rfl (by kernel_rfl) ?_
      exact hK _ _ rfl (Below.refl _ _)
    · intro ts W hb hB hp
      have h19 : IsNum W (ts 19) (((xa).div (xb)).mul (xb)) := hp 19 (by kernel_rfl)
      have h20 : ts 20 = _ := hp 20 (by kernel_rfl)
      have h16 : ts 16 = _ := hp 16 (by kernel_rfl)
      refine Guarded.on h16 ?_
      clear h16
      intro K hK
      simp only [fillT, Nat.zero_add, Nat.reduceAdd, List.setIfInBounds_toArray, List.set_cons_zero, List.set_cons_succ, h20] at hK ⊢
      have HK := Lib.hid hK
      clear hK hp
      refine ⟨?_⟩
      go_simp
      refine (sameN_k _ _ (((xa).div (xb)).mul (xb)) (xa) W h19 (N7.below hb) 11 (Sz.mono ((((sa).div (sb))).mul (sb)) (by omega)) (Sz.mono sa (by omega)) (by omega) (same_t (Cx.div_mul _ hzb))).mono ?_
      rintro e W9 ⟨rfl, hb9⟩
      exact HK.out _ _ rfl hb9
    · intro ts W hb hB hp
      have h21 : ts 21 = _ := hp 21 (by kernel_rfl)
      have h16 : ts 16 = _ := hp 16 (by kernel_rfl)
      refine Guarded.on h16 ?_
      clear h16
      intro K hK
      simp only [fillT, Nat.zero_add, Nat.reduceAdd, List.setIfInBounds_toArray, List.set_cons_zero, List.set_cons_succ, h21] at hK ⊢
      have HK := Lib.hid hK
      clear hK hp
      refine ⟨?_⟩
      go_simp
      exact HK.out _ _ rfl (Below.refl _ _)
    · intro ts W hb hB hp
      have h16 : ts 16 = _ := hp 16 (by kernel_rfl)
      have h22 : ts 22 = _ := hp 22 (by kernel_rfl)
      have h13 : ts 13 = _ := hp 13 (by kernel_rfl)
      refine Guarded.on h13 ?_
      clear h13
      intro K hK
      simp only [fillT, Nat.zero_add, Nat.reduceAdd, List.setIfInBounds_toArray, List.set_cons_zero, List.set_cons_succ, h16, h22] at hK ⊢
      have HK := Lib.hid hK
      clear hK hp
      refine ⟨?_⟩
      go_simp
      exact HK.out _ _ rfl (Below.refl _ _)
    · intro ts W hb hB hp
      have h13 : ts 13 = _ := hp 13 (by kernel_rfl)
      have h23 : ts 23 = _ := hp 23 (by kernel_rfl)
      intro K hK
      simp only [fillT, Nat.zero_add, Nat.reduceAdd, List.setIfInBounds_toArray, List.set_cons_zero, List.set_cons_succ, h13, h23] at hK ⊢
      have HK := Lib.hid hK
      clear hK hp
      refine ⟨?_⟩
      go_simp
      exact HK.out _ _ rfl (Below.refl _ _)
    intro ts V4 hbq hh hap
    have e24 := held_is (hh 24 (by simp)) rfl
    simp only [fillT, Nat.zero_add, Nat.reduceAdd, List.setIfInBounds_toArray, List.set_cons_zero, List.set_cons_succ, e24]
    clear hh hap e24
    generalize ts 0 = u0_V4 at *
    generalize ts 1 = u1_V4 at *
    generalize ts 2 = u2_V4 at *
    generalize ts 3 = u3_V4 at *
    generalize ts 4 = u4_V4 at *
    generalize ts 5 = u5_V4 at *
    generalize ts 6 = u6_V4 at *
    generalize ts 7 = u7_V4 at *
    generalize ts 8 = u8_V4 at *
    generalize ts 9 = u9_V4 at *
    generalize ts 10 = u10_V4 at *
    generalize ts 11 = u11_V4 at *
    generalize ts 12 = u12_V4 at *
    generalize ts 13 = u13_V4 at *
    generalize ts 14 = u14_V4 at *
    generalize ts 15 = u15_V4 at *
    generalize ts 16 = u16_V4 at *
    generalize ts 17 = u17_V4 at *
    generalize ts 18 = u18_V4 at *
    generalize ts 19 = u19_V4 at *
    generalize ts 20 = u20_V4 at *
    generalize ts 21 = u21_V4 at *
    generalize ts 22 = u22_V4 at *
    generalize ts 23 = u23_V4 at *
    clear ts
    replace X7 := (hbq.block _ z7).trans X7
    replace z7 := Nat.lt_of_lt_of_le z7 hbq.size
    replace X8 := (hbq.block _ z8).trans X8
    replace z8 := Nat.lt_of_lt_of_le z8 hbq.size
    replace X9 := (hbq.block _ z9).trans X9
    replace z9 := Nat.lt_of_lt_of_le z9 hbq.size
    replace X10 := (hbq.block _ z10).trans X10
    replace z10 := Nat.lt_of_lt_of_le z10 hbq.size
    replace N7 := N7.below hbq
    replace N8 := N8.below hbq
    replace N9 := N9.below hbq
    replace N10 := N10.below hbq
    replace B1 := below_trans B1 hbq
    clear hbq
    go_upto_region 9 with fail
    refine region_lin (.val (kIs (.agg #[.slice A7 n7 c7, .bool p7, .slice A7b n7b c7b, .bool p7b, .slice A7c n7c c7c])) :: .val (kIs (.agg #[.slice A8 n8 c8, .bool p8, .slice A8b n8b c8b, .bool p8b, .slice A8c n8c c8c])) :: .val (kNum ((xa).add (xb))) :: .val (kNum (((xa).add (xb)).conj)) :: .val (kIs (.agg #[.slice A7 n7 c7, .bool p7, .slice A7b n7b c7b, .bool p7b, .slice A7c n7c c7c])) :: .val (kNum ((xa).conj)) :: .val (kIs (.agg #[.slice A8 n8 c8, .bool p8, .slice A8b n8b c8b, .bool p8b, .slice A8c n8c c8c])) :: .val (kNum ((xb).conj)) :: .val (kNum (((xa).conj).add ((xb).conj))) :: .val (kIs (.bool true)) :: .val (kIs (.bool true)) :: .val (kIs (.agg #[.slice A7 n7 c7, .bool p7, .slice A7b n7b c7b, .bool p7b, .slice A7c n7c c7c])) :: .val (kIs (.agg #[.slice A8 n8 c8, .bool p8, .slice A8b n8b c8b, .bool p8b, .slice A8c n8c c8c])) :: .val (kNum ((xa).mul (xb))) :: .val (kNum (((xa).mul (xb)).conj)) :: .val (kIs (.agg #[.slice A7 n7 c7, .bool p7, .slice A7b n7b c7b, .bool p7b, .slice A7c n7c c7c])) :: .val (kNum ((xa).conj)) :: .val (kIs (.agg #[.slice A8 n8 c8, .bool p8, .slice A8b n8b c8b, .bool p8b, .slice A8c n8c c8c])) :: .val (kNum ((xb).conj)) :: .val (kNum (((xa).conj).mul ((xb).conj))) :: .val (kIs (.bool true)) :: .val (kIs (.bool true)) :: .val (kIs (.bool true)) :: .val (kIs (.agg #[.slice A7 n7 c7, .bool p7, .slice A7b n7b c7b, .bool p7b, .slice A7c n7c c7c])) :: .val (kNum ((xa).norm)) :: .val (kIs (.agg #[.slice A7 n7 c7, .bool p7, .slice A7b n7b c7b, .bool p7b, .slice A7c n7c c7c])) :: .val (kIs (.agg #[.slice A7 n7 c7, .bool p7, .slice A7b n7b c7b, .bool p7b, .slice A7c n7c c7c])) :: .val (kNum ((xa).conj)) :: .val (kNum ((xa).mul ((xa).conj))) :: .val (kIs (.bool true)) :: .val (kIs (.bool true)) :: .val (kIs (.bool true)) :: .val (kIs (.agg #[.slice A7 n7 c7, .bool p7, .slice A7b n7b c7b, .bool p7b, .slice A7c n7c c7c])) :: .val (kIs (.agg #[.slice A8 n8 c8, .bool p8, .slice A8b n8b c8b, .bool p8b, .slice A8c n8c c8c])) :: .val (kNum ((xa).mul (xb))) :: .val (kNum (((xa).mul (xb)).norm)) :: .val (kIs (.agg #[.slice A7 n7 c7, .bool p7, .slice A7b n7b c7b, .bool p7b, .slice A7c n7c c7c])) :: .val (kNum ((xa).norm)) :: .val (kIs (.agg #[.slice A8 n8 c8, .bool p8, .slice A8b n8b c8b, .bool p8b, .slice A8c n8c c8c])) :: .val (kNum ((xb).norm)) :: .val (kNum (((xa).norm).mul ((xb).norm))) :: .val (kIs (.bool true)) :: .val (kIs (.bool true)) :: .val (kIs (.bool true)) :: .val (kIs (.bool true)) :: .val (kIs (.bool true)) :: .val (kIs (.bool true)) :: [])
      (by kernel_rfl) (by kernel_rfl) (by kernel_rfl) (by kernel_rfl) (by kernel_rfl) ⟨Stab.b (stab_is _), Stab.b (stab_is _), Stab.b (stab_num _), Stab.b (stab_num _), Stab.b (stab_is _), Stab.b (stab_num _), Stab.b (stab_is _), Stab.b (stab_num _), Stab.b (stab_num _), Stab.b (stab_is _), Stab.b (stab_is _), Stab.b (stab_is _), Stab.b (stab_is _), Stab.b (stab_num _), Stab.b (stab_num _), Stab.b (stab_is _), Stab.b (stab_num _), Stab.b (stab_is _), Stab.b (stab_num _), Stab.b (stab_num _), Stab.b (stab_is _), Stab.b (stab_is _), Stab.b (stab_is _), Stab.b (stab_is _), Stab.b (stab_num _), Stab.b (stab_is _), Stab.b (stab_is _), Stab.b (stab_num _), Stab.b (stab_num _), Stab.b (stab_is _), Stab.b (stab_is _), Stab.b (stab_is _), Stab.b (stab_is _), Stab.b (stab_is _), Stab.b (stab_num _), Stab.b (stab_num _), Stab.b (stab_is _), Stab.b (stab_num _), Stab.b (stab_is _), Stab.b (stab_num _), Stab.b (stab_num _), Stab.b (stab_is _), Stab.b (stab_is _), Stab.b (stab_is _), Stab.b (stab_is _), Stab.b (stab_is _), Stab.b (stab_is _), trivial⟩ (by simp) ⟨?_, ?_, ?_, ?_, ?_, ?_, ?_, ?_, ?_, ?_, ?_, ?_, ?_, ?_, ?_, ?_, ?_, ?_, ?_, ?_, ?_, ?_, ?_, ?_, ?_, ?_, ?_, ?_, ?_, ?_, ?_, ?_, ?_, ?_, ?_, ?_, ?_, ?_, ?_, ?_, ?_, ?_, ?_, ?_, ?_, ?_, ?_, trivial⟩ ?_
    · intro ts W hb hB hp
      intro K hK
      simp only [fillT, Nat.zero_add, Nat.reduceAdd, List.setIfInBounds_toArray, List.set_cons_zero, List.set_cons_succ] at hK ⊢
      refine ⟨?_⟩
      refine wp_load_row _ _ rfl (g7) rfl _ _ (0, 0) _ ((hb.block _ (z7)).trans X7) Tryd.underlying29 rfl (by kernel_rfl) ?_
      exact hK _ _ rfl (Below.refl _ _)
    · intro ts W hb hB hp
      intro K hK
      simp only [fillT, Nat.zero_add, Nat.reduceAdd, List.setIfInBounds_toArray, List.set_cons_zero, List.set_cons_succ] at hK ⊢
      refine ⟨?_⟩
      refine wp_load_row _ _ rfl (g8) rfl _ _ (0, 0) _ ((hb.block _ (z8)).trans X8) Tryd.underlying29 rfl (by kernel_rfl) ?_
      exact hK _ _ rfl (Below.refl _ _)
    · intro ts W hb hB hp
      have h0 : ts 0 = _ := hp 0 (by kernel_rfl)
      have h1 : ts 1 = _ := hp 1 (by kernel_rfl)
      intro K hK
      simp only [fillT, Nat.zero_add, Nat.reduceAdd, List.setIfInBounds_toArray, List.set_cons_zero, List.set_cons_succ, h0, h1] at hK ⊢
      have HK := Lib.hid hK
      clear hK hp
      refine ⟨?_⟩
      go_simp
      refine (addN_any _ _ (xa) (xb) W (N7.below hb) (N8.below hb) 2 2 sa sb (by omega) (HT.out.below (below_trans B1 hb))).mono ?_
      rintro e W9 ⟨r9, rfl, hr9, hb9⟩
      exact HK.out _ _ hr9 hb9
    · intro ts W hb hB hp
      have h2 : IsNum W (ts 2) ((xa).add (xb)) := hp 2 (by kernel_rfl)
      intro K hK
      simp only [fillT, Nat.zero_add, Nat.reduceAdd, List.setIfInBounds_toArray, List.set_cons_zero, List.set_cons_succ] at hK ⊢
      have HK := Lib.hid hK
      clear hK hp
      refine ⟨?_⟩
      go_simp
      refine (conjN_any _ ((xa).add (xb)) W h2).mono ?_
      rintro e W9 ⟨r9, rfl, hr9, hb9⟩
      exact HK.out _ _ hr9 hb9
    · intro ts W hb hB hp
      intro K hK
      simp only [fillT, Nat.zero_add, Nat.reduceAdd, List.setIfInBounds_toArray, List.set_cons_zero, List.set_cons_succ] at hK ⊢
      refine ⟨?_⟩
      refine wp_load_row _ _ rfl (g7) rfl _ _ (0, 0) _ ((hb.block _ (z7)).trans X7) Tryd.underlying29 rfl (by kernel_rfl) ?_
      exact hK _ _ rfl (Below.refl _ _)
    · intro ts W hb hB hp
      have h4 : ts 4 = _ := hp 4 (by kernel_rfl)
      intro K hK
      simp only [fillT, Nat.zero_add, Nat.reduceAdd, List.setIfInBounds_toArray, List.set_cons_zero, List.set_cons_succ, h4] at hK ⊢
      have HK := Lib.hid hK
      clear hK hp
      refine ⟨?_⟩
      go_simp
      refine (conjN_any _ (xa) W (N7.below hb)).mono ?_
      rintro e W9 ⟨r9, rfl, hr9, hb9⟩
      exact HK.out _ _ hr9 hb9
    · intro ts W hb hB hp
      intro K hK
      simp only [fillT, Nat.zero_add, Nat.reduceAdd, List.setIfInBounds_toArray, List.set_cons_zero, List.set_cons_succ] at hK ⊢
      refine ⟨?_⟩
      refine wp_load_row _ _ rfl (g8) rfl _ _ (0, 0) _ ((hb.block _ (z8)).trans X8) Tryd.underlying29 rfl (by kernel_rfl) ?_
      exact hK _ _ rfl (Below.refl _ _)
    · intro ts W hb hB hp
      have h6 : ts 6 = _ := hp 6 (by kernel_rfl)
      intro K hK
      simp only [fillT, Nat.zero_add, Nat.reduceAdd, List.setIfInBounds_toArray, List.set_cons_zero, List.set_cons_succ, h6] at hK ⊢
      have HK := Lib.hid hK
      clear hK hp
      refine ⟨?_⟩
      go_simp
      refine (conjN_any _ (xb) W (N8.below hb)).mono ?_
      rintro e W9 ⟨r9, rfl, hr9, hb9⟩
      exact HK.out _ _ hr9 hb9
    · intro ts W hb hB hp
      have h5 : IsNum W (ts 5) ((xa).conj) := hp 5 (by kernel_rfl)
      have h7 : IsNum W (ts 7) ((xb).conj) := hp 7 (by kernel_rfl)
      intro K hK
      simp only [fillT, Nat.zero_add, Nat.reduceAdd, List.setIfInBounds_toArray, List.set_cons_zero, List.set_cons_succ] at hK ⊢
      have HK := Lib.hid hK
      clear hK hp
      refine ⟨?_⟩
      go_simp
      refine (addN_any _ _ ((xa).conj) ((xb).conj) W h5 h7 2 2 ((sa).conj) ((sb).conj) (by omega) (HT.out.below (below_trans B1 hb))).mono ?_
      rintro e W9 ⟨r9, rfl, hr9, hb9⟩
      exact HK.out _ _ hr9 hb9
    · intro ts W hb hB hp
      have h3 : IsNum W (ts 3) (((xa).add (xb)).conj) := hp 3 (by kernel_rfl)
      have h8 : IsNum W (ts 8) (((xa).conj).add ((xb).conj)) := hp 8 (by kernel_rfl)
      intro K hK
      simp only [fillT, Nat.zero_add, Nat.reduceAdd, List.setIfInBounds_toArray, List.set_cons_zero, List.set_cons_succ] at hK ⊢
      have HK := Lib.hid hK
      clear hK hp
      refine ⟨?_⟩
      go_simp
      refine (sameN_k _ _ (((xa).add (xb)).conj) (((xa).conj).add ((xb).conj)) W h3 h8 5 (Sz.mono ((((sa).add (sb))).conj) (by omega)) (Sz.mono ((((sa).conj)).add (((sb).conj))) (by omega)) (by omega) (same_t (Cx.conj_add _ _))).mono ?_
      rintro e W9 ⟨rfl, hb9⟩
      exact HK.out _ _ rfl hb9
    · intro ts W hb hB hp
      have h9 : ts 9 = _ := hp 9 (by kernel_rfl)
      intro K hK
      simp only [fillT, Nat.zero_add, Nat.reduceAdd, List.setIfInBounds_toArray, List.set_cons_zero, List.set_cons_succ, h9] at hK ⊢
      have HK := Lib.hid hK
      clear hK hp
      refine ⟨?_⟩
      go_simp
      exact HK.out _ _ rfl (Below.refl _ _)
    · intro ts W hb hB hp
      have h10 : ts 10 = _ := hp 10 (by kernel_rfl)
      refine Guarded.on h10 ?_
      clear h10
      intro K hK
      simp only [fillT, Nat.zero_add, Nat.reduceAdd, List.setIfInBounds_toArray, List.set_cons_zero, List.set_cons_succ] at hK ⊢
      refine ⟨?_⟩
      refine wp_load_row _ _ rfl (g7) rfl _ _ (0, 0) _ ((hb.block _ (z7)).trans X7) Tryd.underlying29 rfl (by kernel_rfl) ?_
      exact hK _ _ rfl (Below.refl _ _)
    · intro ts W hb hB hp
      have h10 : ts 10 = _ := hp 10 (by kernel_rfl)
      refine Guarded.on h10 ?_
      clear h10
      intro K hK
      simp only [fillT, Nat.zero_add, Nat.reduceAdd, List.setIfInBounds_toArray, List.set_cons_zero, List.set_cons_succ] at hK ⊢
      refine ⟨?_⟩
      refine wp_load_row _ _ rfl (g8) rfl _ _ (0, 0) _ ((hb.block _ (z8)).trans X8) Tryd.underlying29 rfl (by kernel_rfl) ?_
      exact hK _ _ rfl (Below.refl _ _)
    · intro ts W hb hB hp
      have h11 : ts 11 = _ := hp 11 (by kernel_rfl)
      have h12 : ts 12 = _ := hp 12 (by kernel_rfl)
      have h10 : ts 10 = _ := hp 10 (by kernel_rfl)
      refine Guarded.on h10 ?_
      clear h10
      intro K hK
      simp only [fillT, Nat.zero_add, Nat.reduceAdd, List.setIfInBounds_toArray, List.set_cons_zero, List.set_cons_succ, h11, h12] at hK ⊢
      have HK := Lib.hid hK
      clear hK hp
      refine ⟨?_⟩
      go_simp
      refine (mulN_any _ _ (xa) (xb) W (N7.below hb) (N8.below hb) 2 2 sa sb (by omega) (HT.out.below (below_trans B1 hb))).mono ?_
      rintro e W9 ⟨r9, rfl, hr9, hb9⟩
      exact HK.out _ _ hr9 hb9
    · intro ts W hb hB hp
      have h13 : IsNum W (ts 13) ((xa).mul (xb)) := hp 13 (by kernel_rfl)
      have h10 : ts 10 = _ := hp 10 (by kernel_rfl)
      refine Guarded.on h10 ?_
      clear h10
      intro K hK
      simp only [fillT, Nat.zero_add, Nat.reduceAdd, List.setIfInBounds_toArray, List.set_cons_zero, List.set_cons_succ] at hK ⊢
      have HK := Lib.hid hK
      clear hK hp
      refine ⟨?_⟩
      go_simp
      refine (conjN_any _ ((xa).mul (xb)) W h13).mono ?_
      rintro e W9 ⟨r9, rfl, hr9, hb9⟩
      exact HK.out _ _ hr9 hb9
    · intro ts W hb hB hp
      have h10 : ts 10 = _ := hp 10 (by kernel_rfl)
      refine Guarded.on h10 ?_
      clear h10
      intro K hK
      simp only [fillT, Nat.zero_add, Nat.reduceAdd, List.setIfInBounds_toArray, List.set_cons_zero, List.set_cons_succ] at hK ⊢
      refine ⟨?_⟩
      refine wp_load_row _ _ rfl (g7) rfl _ _ (0, 0) _ ((hb.block _ (z7)).trans X7) Tryd.underlying29 rfl (by kernel_rfl) ?_
      exact hK _ _ rfl (Below.refl _ _)
    · intro ts W hb hB hp
      have h15 : ts 15 = _ := hp 15 (by kernel_rfl)
      have h10 : ts 10 = _ := hp 10 (by kernel_rfl)
      refine Guarded.on h10 ?_
      clear h10
      intro K hK
      simp only [fillT, Nat.zero_add, Nat.reduceAdd, List.setIfInBounds_toArray, List.set_cons_zero, List.set_cons_succ, h15] at hK ⊢
      have HK := Lib.hid hK
      clear hK hp
      refine ⟨?_⟩
      go_simp
      refine (conjN_any _ (xa) W (N7.below hb)).mono ?_
      rintro e W9 ⟨r9, rfl, hr9, hb9⟩
      exact HK.out _ _ hr9 hb9
    · intro ts W hb hB hp
      have h10 : ts 10 = _ := hp 10 (by kernel_rfl)
      refine Guarded.on h10 ?_
      clear h10
      intro K hK
      simp only [fillT, Nat.zero_add, Nat.reduceAdd, List.setIfInBounds_toArray, List.set_cons_zero, List.set_cons_succ] at hK ⊢
      refine ⟨?_⟩
      refine wp_load_row _ _ rfl (g8) rfl _ _ (0, 0) _ ((hb.block _ (z8)).trans X8) Tryd.underlying29 rfl (by kernel_rfl) ?_
      exact hK _ _ rfl (Below.refl _ _)
    · intro ts W hb hB hp
      have h17 : ts 17 = _ := hp 17 (by kernel_rfl)
      have h10 : ts 10 = _ := hp 10 (by kernel_rfl)
      refine Guarded.on h10 ?_
      clear h10
      intro K hK
      simp only [fillT, Nat.zero_add, Nat.reduceAdd, List.setIfInBounds_toArray, List.set_cons_zero, List.set_cons_succ, h17] at hK ⊢
      have HK := Lib.hid hK
      clear hK hp
      refine ⟨?_⟩
      go_simp
      refine (conjN_any _ (xb) W (N8.below hb)).mono ?_
      rintro e W9 ⟨r9, rfl, hr9, hb9⟩
      exact HK.out _ _ hr9 hb9
    · intro ts W hb hB hp
      have h16 : IsNum W (ts 16) ((xa).conj) := hp 16 (by kernel_rfl)
      have h18 : IsNum W (ts 18) ((xb).conj) := hp 18 (by kernel_rfl)
      have h10 : ts 10 = _ := hp 10 (by kernel_rfl)
      refine Guarded.on h10 ?_
      clear h10
      intro K hK
      simp only [fillT, Nat.zero_add, Nat.reduceAdd, List.setIfInBounds_toArray, List.set_cons_zero, List.set_cons_succ] at hK ⊢
      have HK := Lib.hid hK
      clear hK hp
      refine ⟨?_⟩
      go_simp
      refine (mulN_any _ _ ((xa).conj) ((xb).conj) W h16 h18 2 2 ((sa).conj) ((sb).conj) (by omega) (HT.out.below (below_trans B1 hb))).mono ?_
      rintro e W9 ⟨r9, rfl, hr9, hb9⟩
      exact HK.out _ _ hr9 hb9
    · intro ts W hb hB hp
      have h14 : IsNum W (ts 14) (((xa).mul (xb)).conj) := hp 14 (by kernel_rfl)
      have h19 : IsNum W (ts 19) (((xa).conj).mul ((xb).conj)) := hp 19 (by kernel_rfl)
      have h10 : ts 10 = _ := hp 10 (by kernel_rfl)
      refine Guarded.on h10 ?_
      clear h10
      intro K hK
      simp only [fillT, Nat.zero_add, Nat.reduceAdd, List.setIfInBounds_toArray, List.set_cons_zero, List.set_cons_succ] at hK ⊢
      have HK := Lib.hid hK
      clear hK hp
      refine ⟨?_⟩
      go_simp
      refine (sameN_k _ _ (((xa).mul (xb)).conj) (((xa).conj).mul ((xb).conj)) W h14 h19 5 (Sz.mono ((((sa).mul (sb))).conj) (by omega)) (Sz.mono ((((sa).conj)).mul (((sb).conj))) (by omega)) (by omega) (same_t (Cx.conj_mul _ _))).mono ?_
      rintro e W9 ⟨rfl, hb9⟩
      exact HK.out _ _ rfl hb9
    · intro ts W hb hB hp
      have h10 : ts 10 = _ := hp 10 (by kernel_rfl)
      have h20 : ts 20 = _ := hp 20 (by kernel_rfl)
      intro K hK
      simp only [fillT, Nat.zero_add, Nat.reduceAdd, List.setIfInBounds_toArray, List.set_cons_zero, List.set_cons_succ, h10, h20] at hK ⊢
      have HK := Lib.hid hK
      clear hK hp
      refine ⟨?_⟩
      go_simp
      exact HK.out _ _ rfl (Below.refl _ _)
    · intro ts W hb hB hp
      have h21 : ts 21 = _ := hp 21 (by kernel_rfl)
      intro K hK
      simp only [fillT, Nat.zero_add, Nat.reduceAdd, List.setIfInBounds_toArray, List.set_cons_zero, List.set_cons_succ, h21] at hK ⊢
      have HK := Lib.hid hK
      clear hK hp
      refine ⟨?_⟩
      go_simp
      exact HK.out _ _ rfl (Below.refl _ _)
    · intro ts W hb hB hp
      have h22 : ts 22 = _ := hp 22 (by kernel_rfl)
      refine Guarded.on h22 ?_
      clear h22
      intro K hK
      simp only [fillT, Nat.zero_add, Nat.reduceAdd, List.setIfInBounds_toArray, List.set_cons_zero, List.set_cons_succ] at hK ⊢
      refine ⟨?_⟩
      refine wp_load_row _ _ rfl (g7) rfl _ _ (0, 0) _ ((hb.block _ (z7)).trans X7) Tryd.underlying29 rfl (by kernel_rfl) ?_
      exact hK _ _ rfl (Below.refl _ _)
    · intro ts W hb hB hp
      have h23 : ts 23 = _ := hp 23 (by kernel_rfl)
      have h22 : ts 22 = _ := hp 22 (by kernel_rfl)
      refine Guarded.on h22 ?_
      clear h22
      intro K hK
      simp only [fillT, Nat.zero_add, Nat.reduceAdd, List.setIfInBounds_toArray, List.set_cons_zero, List.set_cons_succ, h23] at hK ⊢
      have HK := Lib.hid hK
      clear hK hp
      refine ⟨?_⟩
      go_simp
      refine (normN_any _ (xa) W (N7.below hb) 2 sa (by omega) (HT.out.below (below_trans B1 hb))).mono ?_
      rintro e W9 ⟨r9, rfl, hr9, hb9⟩
      exact HK.out _ _ hr9 hb9
    · intro ts W hb hB hp
      have h22 : ts 22 = _ := hp 22 (by kernel_rfl)
      refine Guarded.on h22 ?_
      clear h22
      intro K hK
      simp only [fillT, Nat.zero_add, Nat.reduceAdd, List.setIfInBounds_toArray, List.set_cons_zero, List.set_cons_succ] at hK ⊢
      refine ⟨?_⟩
      refine wp_load_row _ _ rfl (g7) rfl _ _ (0, 0) _ ((hb.block _ (z7)).trans X7) Tryd.underlying29 rfl (by kernel_rfl) ?_
      exact hK _ _ rfl (Below.refl _ _)
    · intro ts W hb hB hp
      have h22 : ts 22 = _ := hp 22 (by kernel_rfl)
      refine Guarded.on h22 ?_
      clear h22
      intro K hK
      simp only [fillT, Nat.zero_add, Nat.reduceAdd, List.setIfInBounds_toArray, List.set_cons_zero, List.set_cons_succ] at hK ⊢
      refine ⟨?_⟩
      refine wp_load_row _ _ rfl (g7) rfl _ _ (0, 0) _ ((hb.block _ (z7)).trans X7) Tryd.underlying29 rfl (by kernel_rfl) ?_
      exact hK _ _ rfl (Below.refl _ _)
    · intro ts W hb hB hp
      have h26 : ts 26 = _ := hp 26 (by kernel_rfl)
      have h22 : ts 22 = _ := hp 22 (by kernel_rfl)
      refine Guarded.on h22 ?_
      clear h22
      intro K hK
      simp only [fillT, Nat.zero_add, Nat.reduceAdd, List.setIfInBounds_toArray, List.set_cons_zero, List.set_cons_succ, h26] at hK ⊢
      have HK := Lib.hid hK
      clear hK hp
      refine ⟨?_⟩
      go_simp
      refine (conjN_any _ (xa) W (N7.below hb)).mono ?_
      rintro e W9 ⟨r9, rfl, hr9, hb9⟩
      exact HK.out _ _ hr9 hb9
    · intro ts W hb hB hp
      have h25 : ts 25 = _ := hp 25 (by kernel_rfl)
      have h27 : IsNum W (ts 27) ((xa).conj) := hp 27 (by kernel_rfl)
      have h22 : ts 22 = _ := hp 22 (by kernel_rfl)
      refine Guarded.on h22 ?_
      clear h22
      intro K hK
      simp only [fillT, Nat.zero_add, Nat.reduceAdd, List.setIfInBounds_toArray, List.set_cons_zero, List.set_cons_succ, h25] at hK ⊢
      have HK := Lib.hid hK
      clear hK hp
      refine ⟨?_⟩
      go_simp
      refine (mulN_any _ _ (xa) ((xa).conj) W (N7.below hb) h27 2 2 sa ((sa).conj) (by omega) (HT.out.below (below_trans B1 hb))).mono ?_
      rintro e W9 ⟨r9, rfl, hr9, hb9⟩
      exact HK.out _ _ hr9 hb9
    · intro ts W hb hB hp
      have h24 : IsNum W (ts 24) ((xa).norm) := hp 24 (by kernel_rfl)
      have h28 : IsNum W (ts 28) ((xa).mul ((xa).conj)) := hp 28 (by kernel_rfl)
      have h22 : ts 22 = _ := hp 22 (by kernel_rfl)
      refine Guarded.on h22 ?_
      clear h22
      intro K hK
      simp only [fillT, Nat.zero_add, Nat.reduceAdd, List.setIfInBounds_toArray, List.set_cons_zero, List.set_cons_succ] at hK ⊢
      have HK := Lib.hid hK
      clear hK hp
      refine ⟨?_⟩
      go_simp
      refine (sameN_k _ _ ((xa).norm) ((xa).mul ((xa).conj)) W h24 h28 5 (Sz.mono ((sa).norm) (by omega)) (Sz.mono ((sa).mul (((sa).conj))) (by omega)) (by omega) (same_t (Cx.norm_conj _))).mono ?_
      rintro e W9 ⟨rfl, hb9⟩
      exact HK.out _ _ rfl hb9
    · intro ts W hb hB hp
      have h22 : ts 22 = _ := hp 22 (by kernel_rfl)
      have h29 : ts 29 = _ := hp 29 (by kernel_rfl)
      intro K hK
      simp only [fillT, Nat.zero_add, Nat.reduceAdd, List.setIfInBounds_toArray, List.set_cons_zero, List.set_cons_succ, h22, h29] at hK ⊢
      have HK := Lib.hid hK
      clear hK hp
      refine ⟨?_⟩
      go_simp
      exact HK.out _ _ rfl (Below.refl _ _)
    · intro ts W hb hB hp
      have h30 : ts 30 = _ := hp 30 (by kernel_rfl)
      intro K hK
      simp only [fillT, Nat.zero_add, Nat.reduceAdd, List.setIfInBounds_toArray, List.set_cons_zero, List.set_cons_succ, h30] at hK ⊢
      have HK := Lib.hid hK
      clear hK hp
      refine ⟨?_⟩
      go_simp
      exact HK.out _ _ rfl (Below.refl _ _)
    · intro ts W hb hB hp
      have h31 : ts 31 = _ := hp 31 (by kernel_rfl)
      refine Guarded.on h31 ?_
      clear h31
      intro K hK
      simp only [fillT, Nat.zero_add, Nat.reduceAdd, List.setIfInBounds_toArray, List.set_cons_zero, List.set_cons_succ] at hK ⊢
      refine ⟨?_⟩
      refine wp_load_row _ _ rfl (g7) rfl _ _ (0, 0) _ ((hb.block _ (z7)).trans X7) Tryd.underlying29 rfl (by kernel_rfl) ?_
      exact hK _ _ rfl (Below.refl _ _)
    · intro ts W hb hB hp
      have h31 : ts 31 = _ := hp 31 (by kernel_rfl)
      refine Guarded.on h31 ?_
      clear h31
      intro K hK
      simp only [fillT, Nat.zero_add, Nat.reduceAdd, List.setIfInBounds_toArray, List.set_cons_zero, List.set_cons_succ] at hK ⊢
      refine ⟨?_⟩
      refine wp_load_row _ _ rfl (g8) rfl _ _ (0, 0) _ ((hb.block _ (z8)).trans X8) Tryd.underlying29 rfl (by kernel_rfl) ?_
      exact hK _ _ rfl (Below.refl _ _)
    · intro ts W hb hB hp
      have h32 : ts 32 = _ := hp 32 (by kernel_rfl)
      have h33 : ts 33 = _ := hp 33 (by kernel_rfl)
      have h31 : ts 31 = _ := hp 31 (by kernel_rfl)
      refine Guarded.on h31 ?_
      clear h31
      intro K hK
      simp only [fillT, Nat.zero_add, Nat.reduceAdd, List.setIfInBounds_toArray, List.set_cons_zero, List.set_cons_succ, h32, h33] at hK ⊢
      have HK := Lib.hid hK
      clear hK hp
      refine ⟨?_⟩
      go_simp
      refine (mulN_any _ _ (xa) (xb) W (N7.below hb) (N8.below hb) 2 2 sa sb (by omega) (HT.out.below (below_trans B1 hb))).mono ?_
      rintro e W9 ⟨r9, rfl, hr9, hb9⟩
      exact HK.out _ _ hr9 hb9
    · intro ts W hb hB hp
      have h34 : IsNum W (ts 34) ((xa).mul (xb)) := hp 34 (by kernel_rfl)
      have h31 : ts 31 = _ := hp 31 (by kernel_rfl)
      refine Guarded.on h31 ?_
      clear h31
      intro K hK
      simp only [fillT, Nat.zero_add, Nat.reduceAdd, List.setIfInBounds_toArray, List.set_cons_zero, List.set_cons_succ] at hK ⊢
      have HK := Lib.hid hK
      clear hK hp
      refine ⟨?_⟩
      go_simp
      refine (normN_any _ ((xa).mul (xb)) W h34 5 ((sa).mul (sb)) (by omega) (HT.out.below (below_trans B1 hb))).mono ?_
      rintro e W9 ⟨r9, rfl, hr9, hb9⟩
      exact HK.out _ _ hr9 hb9
    · intro ts W hb hB hp
      have h31 : ts 31 = _ := hp 31 (by kernel_rfl)
      refine Guarded.on h31 ?_
      clear h31
      intro K hK
      simp only [fillT, Nat.zero_add, Nat.reduceAdd, List.setIfInBounds_toArray, List.set_cons_zero, List.set_cons_succ] at hK ⊢
      refine ⟨?_⟩
      refine wp_load_row _ _ rfl (g7) rfl _ _ (0, 0) _ ((hb.block _ (z7)).trans X7) Tryd.underlying29 rfl (by kernel_rfl) ?_
      exact hK _ _ rfl (Below.refl _ _)
    · intro ts W hb hB hp
      have h36 : ts 36 = _ := hp 36 (by kernel_rfl)
      have h31 : ts 31 = _ := hp 31 (by kernel_rfl)
      refine Guarded.on h31 ?_
      clear h31
      intro K hK
      simp only [fillT, Nat.zero_add, Nat.reduceAdd, List.setIfInBounds_toArray, List.set_cons_zero, List.set_cons_succ, h36] at hK ⊢
      have HK := Lib.hid hK
      clear hK hp
      refine ⟨?_⟩
      go_simp
      refine (normN_any _ (xa) W (N7.below hb) 2 sa (by omega) (HT.out.below (below_trans B1 hb))).mono ?_
      rintro e W9 ⟨r9, rfl, hr9, hb9⟩
      exact HK.out _ _ hr9 hb9
    · intro ts W hb hB hp
      have h31 : ts 31 = _ := hp 31 (by kernel_rfl)
      refine Guarded.on h31 ?_
      clear h31
      intro K hK
      simp only [fillT, Nat.zero_add, Nat.reduceAdd, List.setIfInBounds_toArray, List.set_cons_zero, List.set_cons_succ] at hK ⊢
      refine ⟨?_⟩
      refine wp_load_row _ _ rfl (g8) rfl _ _ (0, 0) _ ((hb.block _ (z8)).trans X8) Tryd.underlying29 rfl (by kernel_rfl) ?_
      exact hK _ _ rfl (Below.refl _ _)
    · intro ts W hb hB hp
      have h38 : ts 38 = _ := hp 38 (by kernel_rfl)
      have h31 : ts 31 = _ := hp 31 (by kernel_rfl)
      refine Guarded.on h31 ?_
      clear h31
      intro K hK
      simp only [fillT, Nat.zero_add, Nat.reduceAdd, List.setIfInBounds_toArray, List.set_cons_zero, List.set_cons_succ, h38] at hK ⊢
      have HK := Lib.hid hK
      clear hK hp
      refine ⟨?_⟩
      go_simp
      refine (normN_any _ (xb) W (N8.below hb) 2 sb (by omega) (HT.out.below (below_trans B1 hb))).mono ?_
      rintro e W9 ⟨r9, rfl, hr9, hb9⟩
      exact HK.out _ _ hr9 hb9
    · intro ts W hb hB hp
      have h37 : IsNum W (ts 37) ((xa).norm) := hp 37 (by kernel_rfl)
      have h39 : IsNum W (ts 39) ((xb).norm) := hp 39 (by kernel_rfl)
      have h31 : ts 31 = _ := hp 31 (by kernel_rfl)
      refine Guarded.on h31 ?_
      clear h31
      intro K hK
      simp only [fillT, Nat.zero_add, Nat.reduceAdd, List.setIfInBounds_toArray, List.set_cons_zero, List.set_cons_succ] at hK ⊢
      have HK := Lib.hid hK
      clear hK hp
      refine ⟨?_⟩
      go_simp
      refine (mulN_any _ _ ((xa).norm) ((xb).norm) W h37 h39 5 5 ((sa).norm) ((sb).norm) (by omega) (HT.out.below (below_trans B1 hb))).mono ?_
      rintro e W9 ⟨r9, rfl, hr9, hb9⟩
      exact HK.out _ _ hr9 hb9
    · intro ts W hb hB hp
      have h35 : IsNum W (ts 35) (((xa).mul (xb)).norm) := hp 35 (by kernel_rfl)
      have h40 : IsNum W (ts 40) (((xa).norm).mul ((xb).norm)) := hp 40 (by kernel_rfl)
      have h31 : ts 31 = _ := hp 31 (by kernel_rfl)
      refine Guarded.on h31 ?_
      clear h31
      intro K hK
      simp only [fillT, Nat.zero_add, Nat.reduceAdd, List.setIfInBounds_toArray, List.set_cons_zero, List.set_cons_succ] at hK ⊢
      have HK := Lib.hid hK
      clear hK hp
      refine ⟨?_⟩
      go_simp
      refine (sameN_k _ _ (((xa).mul (xb)).norm) (((xa).norm).mul ((xb).norm)) W h35 h40 11 (Sz.mono ((((sa).mul (sb))).norm) (by omega)) (Sz.mono ((((sa).norm)).mul (((sb).norm))) (by omega)) (by omega) (same_t (Cx.norm_mul _ _))).mono ?_
      rintro e W9 ⟨rfl, hb9⟩
      exact HK.out _ _ rfl hb9
    · intro ts W hb hB hp
      have h31 : ts 31 = _ := hp 31 (by kernel_rfl)
      have h41 : ts 41 = _ := hp 41 (by kernel_rfl)
      intro K hK
      simp only [fillT, Nat.zero_add, Nat.reduceAdd, List.setIfInBounds_toArray, List.set_cons_zero, List.set_cons_succ, h31, h41] at hK ⊢
      have HK := Lib.hid hK
      clear hK hp
      refine ⟨?_⟩
      go_simp
      exact HK.out _ _ rfl (Below.refl _ _)
    · intro ts W hb hB hp
      have h42 : ts 42 = _ := hp 42 (by kernel_rfl)
      intro K hK
      simp only [fillT, Nat.zero_add, Nat.reduceAdd, List.setIfInBounds_toArray, List.set_cons_zero, List.set_cons_succ, h42] at hK ⊢
      have HK := Lib.hid hK
      clear hK hp
      refine ⟨?_⟩
      go_simp
      exact HK.out _ _ rfl (Below.refl _ _)
    · intro ts W hb hB hp
      have h43 : ts 43 = _ := hp 43 (by kernel_rfl)
      refine Guarded.on h43 ?_
      clear h43
      intro K hK
      simp only [fillT, Nat.zero_add, Nat.reduceAdd, List.setIfInBounds_toArray, List.set_cons_zero, List.set_cons_succ] at hK ⊢
      have HK := Lib.hid hK
      clear hK hp
      refine ⟨?_⟩
      go_simp
      refine (awake_any W (HT.out.below (below_trans B1 hb))).mono ?_
      rintro e W9 ⟨rfl, hb9⟩
      exact HK.out _ _ rfl hb9
    · intro ts W hb hB hp
      have h43 : ts 43 = _ := hp 43 (by kernel_rfl)
      have h44 : ts 44 = _ := hp 44 (by kernel_rfl)
      intro K hK
      simp only [fillT, Nat.zero_add, Nat.reduceAdd, List.setIfInBounds_toArray, List.set_cons_zero, List.set_cons_succ, h43, h44] at hK ⊢
      have HK := Lib.hid hK
      clear hK hp
      refine ⟨?_⟩
      go_simp
      exact HK.out _ _ rfl (Below.refl _ _)
    · intro ts W hb hB hp
      have h45 : ts 45 = _ := hp 45 (by kernel_rfl)
      intro K hK
      simp only [fillT, Nat.zero_add, Nat.reduceAdd, List.setIfInBounds_toArray, List.set_cons_zero, List.set_cons_succ, h45] at hK ⊢
      have HK := Lib.hid hK
      clear hK hp
      refine ⟨?_⟩
      go_simp
      exact HK.out _ _ rfl (Below.refl _ _)
    intro ts V5 hbq hh hap
    have e46 := held_is (hh 46 (by simp)) rfl
    simp only [fillT, Nat.zero_add, Nat.reduceAdd, List.setIfInBounds_toArray, List.set_cons_zero, List.set_cons_succ, e46]
    clear hh hap e46
    generalize ts 0 = u0_V5 at *
    generalize ts 1 = u1_V5 at *
    generalize ts 2 = u2_V5 at *
    generalize ts 3 = u3_V5 at *
    generalize ts 4 = u4_V5 at *
    generalize ts 5 = u5_V5 at *
    generalize ts 6 = u6_V5 at *
    generalize ts 7 = u7_V5 at *
    generalize ts 8 = u8_V5 at *
    generalize ts 9 = u9_V5 at *
    generalize ts 10 = u10_V5 at *
    generalize ts 11 = u11_V5 at *
    generalize ts 12 = u12_V5 at *
    generalize ts 13 = u13_V5 at *
    generalize ts 14 = u14_V5 at *
    generalize ts 15 = u15_V5 at *
    generalize ts 16 = u16_V5 at *
    generalize ts 17 = u17_V5 at *
    generalize ts 18 = u18_V5 at *
    generalize ts 19 = u19_V5 at *
    generalize ts 20 = u20_V5 at *
    generalize ts 21 = u21_V5 at *
    generalize ts 22 = u22_V5 at *
    generalize ts 23 = u23_V5 at *
    generalize ts 24 = u24_V5 at *
    generalize ts 25 = u25_V5 at *
    generalize ts 26 = u26_V5 at *
    generalize ts 27 = u27_V5 at *
    generalize ts 28 = u28_V5 at *
    generalize ts 29 = u29_V5 at *
    generalize ts 30 = u30_V5 at *
    generalize ts 31 = u31_V5 at *
    generalize ts 32 = u32_V5 at *
    generalize ts 33 = u33_V5 at *
    generalize ts 34 = u34_V5 at *
    generalize ts 35 = u35_V5 at *
    generalize ts 36 = u36_V5 at *
    generalize ts 37 = u37_V5 at *
    generalize ts 38 = u38_V5 at *
    generalize ts 39 = u39_V5 at *
    generalize ts 40 = u40_V5 at *
    generalize ts 41 = u41_V5 at *
    generalize ts 42 = u42_V5 at *
    generalize ts 43 = u43_V5 at *
    generalize ts 44 = u44_V5 at *
    generalize ts 45 = u45_V5 at *
    clear ts
    replace X7 := (hbq.block _ z7).trans X7
    replace z7 := Nat.lt_of_lt_of_le z7 hbq.size
    replace X8 := (hbq.block _ z8).trans X8
    replace z8 := Nat.lt_of_lt_of_le z8 hbq.size
    replace X9 := (hbq.block _ z9).trans X9
    replace z9 := Nat.lt_of_lt_of_le z9 hbq.size
    replace X10 := (hbq.block _ z10).trans X10
    replace z10 := Nat.lt_of_lt_of_le z10 hbq.size
    replace N7 := N7.below hbq
    replace N8 := N8.below hbq
    replace N9 := N9.below hbq
    replace N10 := N10.below hbq
    replace B1 := below_trans B1 hbq
    clear hbq
    clear X7 N7 z7 X8 N8 z8 X9 N9 z9 X10 N10 z10
    go_wp2
    go_ret
    exact ⟨rfl, B1⟩
end Go.Proofs.YtbanmapedkjjdaaDoor
