import Derived.Test.YtphlmmjlpbledaaGreatDoorH43
set_option linter.unusedSimpArgs false
set_option linter.unusedVariables false
namespace Go.Proofs.YtphlmmjlpbledaaGreatDoor
open Go.RowKit
set_option maxRecDepth 100000
set_option maxHeartbeats 8000000 in
theorem numTextBack_walk (w : World) (a1 a2 a3 b1 b2 b3 c1 c2 c3 : Int) (hT : Tab w) (a10 : -9223372036854775808 ≤ a1) (a11 : a1 < 9223372036854775808) (a20 : -9223372036854775808 ≤ a2) (a21 : a2 < 9223372036854775808) (a30 : -9223372036854775808 ≤ a3) (a31 : a3 < 9223372036854775808) (b10 : -9223372036854775808 ≤ b1) (b11 : b1 < 9223372036854775808) (b20 : -9223372036854775808 ≤ b2) (b21 : b2 < 9223372036854775808) (b30 : -9223372036854775808 ≤ b3) (b31 : b3 < 9223372036854775808) (c10 : -9223372036854775808 ≤ c1) (c11 : c1 < 9223372036854775808) (c20 : -9223372036854775808 ≤ c2) (c21 : c2 < 9223372036854775808) (c30 : -9223372036854775808 ≤ c3) (c31 : c3 < 9223372036854775808) :
    Calls Tryz.prog 4 #[.agg #[.int .i64 a1, .int .i64 a2, .int .i64 a3], .agg #[.int .i64 b1, .int .i64 b2, .int .i64 b3], .agg #[.int .i64 c1, .int .i64 c2, .int .i64 c3]] w fun e w' => e = .returned (.bool true) ∧ Below w.heap.size w w' := by
  have sa := sz_of a10 a11 a20 a21 a30 a31
  have HOa := Lib.hid (fun W (hb : Below w.heap.size w W) => of_any a1 a2 a3 W a10 a11 a20 a21 a30 a31 (hT.below hb))
  clear a10 a11 a20 a21 a30 a31
  obtain ⟨xa, hxa⟩ : ∃ x, x = ofR a1 a2 a3 := ⟨_, rfl⟩
  rw [← hxa] at sa HOa
  clear hxa
  have sb := sz_of b10 b11 b20 b21 b30 b31
  have HOb := Lib.hid (fun W (hb : Below w.heap.size w W) => of_any b1 b2 b3 W b10 b11 b20 b21 b30 b31 (hT.below hb))
  clear b10 b11 b20 b21 b30 b31
  obtain ⟨xb, hxb⟩ : ∃ x, x = ofR b1 b2 b3 := ⟨_, rfl⟩
  rw [← hxb] at sb HOb
  clear hxb
  have sc := sz_of c10 c11 c20 c21 c30 c31
  have HOc := Lib.hid (fun W (hb : Below w.heap.size w W) => of_any c1 c2 c3 W c10 c11 c20 c21 c30 c31 (hT.below hb))
  clear c10 c11 c20 c21 c30 c31
  obtain ⟨xc, hxc⟩ : ∃ x, x = ofR c1 c2 c3 := ⟨_, rfl⟩
  rw [← hxc] at sc HOc
  clear hxc
  have HT := Lib.hid hT
  clear hT
  go_enter Tryz.func4, Tryz.ntmps4
  go_upto_region 1 with fail
  obtain ⟨W1, hW1⟩ : ∃ W1 : World, W1 = (((w.alloc (.cells #[.int .i64 a1, .int .i64 a2, .int .i64 a3] 41)).alloc (.cells #[.int .i64 b1, .int .i64 b2, .int .i64 b3] 41)).alloc (.cells #[.int .i64 c1, .int .i64 c2, .int .i64 c3] 41)) := ⟨_, rfl⟩
  rw [← hW1]
  have B1 : Below w.heap.size w W1 := by rw [hW1]; exact bel
  have za : w.heap.size < W1.heap.size := by rw [hW1]; simp <;> omega
  have zb : w.heap.size + 1 < W1.heap.size := by rw [hW1]; simp <;> omega
  have zc : w.heap.size + 1 + 1 < W1.heap.size := by rw [hW1]; simp <;> omega
  have Xa : W1.heap[w.heap.size]? = some (.cells #[.int .i64 a1, .int .i64 a2, .int .i64 a3] 41 (0, 0)) := by
    rw [hW1]
    rw [Below.heap_alloc _ _ _ (by simp <;> omega)]
    rw [Below.heap_alloc _ _ _ (by simp <;> omega)]
    have := heap_alloc_new w (.cells #[.int .i64 a1, .int .i64 a2, .int .i64 a3] 41 (0, 0))
    simpa using this
  have Xb : W1.heap[w.heap.size + 1]? = some (.cells #[.int .i64 b1, .int .i64 b2, .int .i64 b3] 41 (0, 0)) := by
    rw [hW1]
    rw [Below.heap_alloc _ _ _ (by simp <;> omega)]
    have := heap_alloc_new (w.alloc (.cells #[.int .i64 a1, .int .i64 a2, .int .i64 a3] 41)) (.cells #[.int .i64 b1, .int .i64 b2, .int .i64 b3] 41 (0, 0))
    simpa using this
  have Xc : W1.heap[w.heap.size + 1 + 1]? = some (.cells #[.int .i64 c1, .int .i64 c2, .int .i64 c3] 41 (0, 0)) := by
    rw [hW1]
    have := heap_alloc_new ((w.alloc (.cells #[.int .i64 a1, .int .i64 a2, .int .i64 a3] 41)).alloc (.cells #[.int .i64 b1, .int .i64 b2, .int .i64 b3] 41)) (.cells #[.int .i64 c1, .int .i64 c2, .int .i64 c3] 41 (0, 0))
    simpa using this
  clear hW1
  refine region_lin [.val (kIs (.agg #[.int .i64 a1, .int .i64 a2, .int .i64 a3])), .val (kNum (xa)), .val (kIs (.agg #[.int .i64 b1, .int .i64 b2, .int .i64 b3])), .val (kNum (xb)), .val (kNum ((xa).mul (xb))), .val (kIs (.agg #[.int .i64 a1, .int .i64 a2, .int .i64 a3])), .val (kNum (xa)), .val (kIs (.agg #[.int .i64 c1, .int .i64 c2, .int .i64 c3])), .val (kNum (xc)), .val (kNum ((xa).add (xc))), .box 28 zNum, .box 28 zNum, .put 10 4, .put 11 9]
    (by kernel_rfl) (by kernel_rfl) (by kernel_rfl) (by kernel_rfl) (by kernel_rfl) ⟨stab_is _, stab_num _, stab_is _, stab_num _, stab_num _, stab_is _, stab_num _, stab_is _, stab_num _, stab_num _, trivial⟩ (by simp) ⟨?_, ?_, ?_, ?_, ?_, ?_, ?_, ?_, ?_, ?_, alloc_num, alloc_num, store_num _, store_num _, trivial⟩ ?_
  · intro ts W hb hB hp; intro K hK; simp only [fillT, Nat.zero_add, Nat.reduceAdd, sA, sB, sC] at hK ⊢; refine ⟨?_⟩; refine wp_load_row _ _ rfl (w.heap.size) rfl _ _ (0, 0) _ ((hb.block _ (za)).trans Xa) Tryz.underlying41 rfl (by kernel_rfl) ?_; exact hK _ _ rfl (Below.refl _ _)
  · intro ts W hb hB hp; have h0 : ts 0 = _ := hp 0 (by kernel_rfl); intro K hK; simp only [fillT, Nat.zero_add, Nat.reduceAdd, sA, sB, sC, h0] at hK ⊢; have HK := Lib.hid hK; clear hK hp; refine ⟨?_⟩; go_simp; refine (HOa.out W (below_trans B1 hb)).mono ?_; rintro e W9 ⟨r9, rfl, hr9, hb9⟩; exact HK.out _ _ hr9 hb9
  · intro ts W hb hB hp; intro K hK; simp only [fillT, Nat.zero_add, Nat.reduceAdd, sA, sB, sC] at hK ⊢; refine ⟨?_⟩; refine wp_load_row _ _ rfl (w.heap.size + 1) rfl _ _ (0, 0) _ ((hb.block _ (zb)).trans Xb) Tryz.underlying41 rfl (by kernel_rfl) ?_; exact hK _ _ rfl (Below.refl _ _)
  · intro ts W hb hB hp; have h2 : ts 2 = _ := hp 2 (by kernel_rfl); intro K hK; simp only [fillT, Nat.zero_add, Nat.reduceAdd, sA, sB, sC, h2] at hK ⊢; have HK := Lib.hid hK; clear hK hp; refine ⟨?_⟩; go_simp; refine (HOb.out W (below_trans B1 hb)).mono ?_; rintro e W9 ⟨r9, rfl, hr9, hb9⟩; exact HK.out _ _ hr9 hb9
  · intro ts W hb hB hp; have h1 : IsNum W (ts 1) (xa) := hp 1 (by kernel_rfl); have h3 : IsNum W (ts 3) (xb) := hp 3 (by kernel_rfl); intro K hK; simp only [fillT, Nat.zero_add, Nat.reduceAdd, sA, sB, sC] at hK ⊢; have HK := Lib.hid hK; clear hK hp; refine ⟨?_⟩; go_simp; refine (mulN_any _ _ xa xb W h1 h3 2 2 sa sb (by omega) (HT.out.below (below_trans B1 hb))).mono ?_; rintro e W9 ⟨r9, rfl, hr9, hb9⟩; exact HK.out _ _ hr9 hb9
  · intro ts W hb hB hp; intro K hK; simp only [fillT, Nat.zero_add, Nat.reduceAdd, sA, sB, sC] at hK ⊢; refine ⟨?_⟩; refine wp_load_row _ _ rfl (w.heap.size) rfl _ _ (0, 0) _ ((hb.block _ (za)).trans Xa) Tryz.underlying41 rfl (by kernel_rfl) ?_; exact hK _ _ rfl (Below.refl _ _)
  · intro ts W hb hB hp; have h5 : ts 5 = _ := hp 5 (by kernel_rfl); intro K hK; simp only [fillT, Nat.zero_add, Nat.reduceAdd, sA, sB, sC, h5] at hK ⊢; have HK := Lib.hid hK; clear hK hp; refine ⟨?_⟩; go_simp; refine (HOa.out W (below_trans B1 hb)).mono ?_; rintro e W9 ⟨r9, rfl, hr9, hb9⟩; exact HK.out _ _ hr9 hb9
  · intro ts W hb hB hp; intro K hK; simp only [fillT, Nat.zero_add, Nat.reduceAdd, sA, sB, sC] at hK ⊢; refine ⟨?_⟩; refine wp_load_row _ _ rfl (w.heap.size + 1 + 1) rfl _ _ (0, 0) _ ((hb.block _ (zc)).trans Xc) Tryz.underlying41 rfl (by kernel_rfl) ?_; exact hK _ _ rfl (Below.refl _ _)
  · intro ts W hb hB hp; have h7 : ts 7 = _ := hp 7 (by kernel_rfl); intro K hK; simp only [fillT, Nat.zero_add, Nat.reduceAdd, sA, sB, sC, h7] at hK ⊢; have HK := Lib.hid hK; clear hK hp; refine ⟨?_⟩; go_simp; refine (HOc.out W (below_trans B1 hb)).mono ?_; rintro e W9 ⟨r9, rfl, hr9, hb9⟩; exact HK.out _ _ hr9 hb9
  · intro ts W hb hB hp; have h6 : IsNum W (ts 6) (xa) := hp 6 (by kernel_rfl); have h8 : IsNum W (ts 8) (xc) := hp 8 (by kernel_rfl); intro K hK; simp only [fillT, Nat.zero_add, Nat.reduceAdd, sA, sB, sC] at hK ⊢; have HK := Lib.hid hK; clear hK hp; refine ⟨?_⟩; go_simp; refine (addN_any _ _ xa xc W h6 h8 2 2 sa sc (by omega) (HT.out.below (below_trans B1 hb))).mono ?_; rintro e W9 ⟨r9, rfl, hr9, hb9⟩; exact HK.out _ _ hr9 hb9
  intro ts W2 hb2 hh hap
  obtain ⟨g7, A7, n7, c7, p7, A7b, n7b, c7b, p7b, A7c, n7c, c7c, e10, lo7, z7, X7, N7⟩ := held_box (x := (xa).mul (xb)) (hh 10 (by simp)) rfl (hh 12 (by simp)) rfl (hh 4 (by simp)) rfl
  obtain ⟨g8, A8, n8, c8, p8, A8b, n8b, c8b, p8b, A8c, n8c, c8c, e11, lo8, z8, X8, N8⟩ := held_box (x := (xa).add (xc)) (hh 11 (by simp)) rfl (hh 13 (by simp)) rfl (hh 9 (by simp)) rfl
  simp only [fillT, Nat.zero_add, Nat.reduceAdd, sA, sB, sC, e10, e11]
  clear hh hap e10 e11
  generalize ts 0 = u0_W2 at *
  generalize ts 1 = u1_W2 at *
  generalize ts 2 = u2_W2 at *
  generalize ts 3 = u3_W2 at *
  generalize ts 4 = u4_W2 at *
  generalize ts 5 = u5_W2 at *
  generalize ts 6 = u6_W2 at *
  generalize ts 7 = u7_W2 at *
  generalize ts 8 = u8_W2 at *
  generalize ts 9 = u9_W2 at *
  clear ts
  replace B1 := below_trans B1 hb2
  clear hb2 za zb zc Xa Xb Xc lo7 lo8 HOa HOb HOc
  have sSX : Sz ((xa).mul (xb)) 5 := sa.mul sb
  have sSY : Sz ((xa).add (xc)) 5 := sa.add sc
  have HTSX := Lib.hid (fun W v (h : IsNum W v ((xa).mul (xb))) (hT : Tab W) => text_any v _ W h hT 5 sSX (by omega))
  have HTSY := Lib.hid (fun W v (h : IsNum W v ((xa).add (xc))) (hT : Tab W) => text_any v _ W h hT 5 sSY (by omega))
  have HPSX := Lib.hid (fun W (hT : Tab W) => parse_text ((xa).mul (xb)) 5 W sSX (by omega) hT)
  have HPSY := Lib.hid (fun W (hT : Tab W) => parse_text ((xa).add (xc)) 5 W sSY (by omega) hT)
  have hq := text_eq ((xa).mul (xb)) ((xa).add (xc))
  obtain ⟨SX, hSX⟩ : ∃ S, S = strOfNums (ctext ((xa).mul (xb))) := ⟨_, rfl⟩
  obtain ⟨SY, hSY⟩ : ∃ S, S = strOfNums (ctext ((xa).add (xc))) := ⟨_, rfl⟩
  rw [← hSX] at HTSX HPSX hq
  rw [← hSY] at HTSY HPSY hq
  clear hSX hSY
  have HQ := Lib.hid hq
  clear hq
  go_upto_region 2 with fail
  refine region_lin [.val (kIs (.agg #[.slice A7 n7 c7, .bool p7, .slice A7b n7b c7b, .bool p7b, .slice A7c n7c c7c])), .val (kIs (.string SX)), .val (kTup ((xa).mul (xb)) 0), .val (kTup ((xa).mul (xb)) 0), .val (kNum ((xa).mul (xb))), .val (kIs (.int .i64 0)), .box 28 zNum, .put 6 4, .val (kIs (.int .i64 0))]
    (by kernel_rfl) (by kernel_rfl) (by kernel_rfl) (by kernel_rfl) (by kernel_rfl) ⟨stab_is _, stab_is _, stab_tup _ _, stab_tup _ _, stab_num _, stab_is _, stab_is _, trivial⟩ (by simp) ⟨?_, ?_, ?_, ?_, ?_, ?_, alloc_num, store_num _, ?_, trivial⟩ ?_
  · intro ts W hb hB hp; intro K hK; simp only [fillT, Nat.zero_add, Nat.reduceAdd, sA, sB, sC] at hK ⊢; refine ⟨?_⟩; refine wp_load_row _ _ rfl (g7) rfl _ _ (0, 0) _ ((hb.block _ (z7)).trans X7) Tryz.underlying28 rfl (by kernel_rfl) ?_; exact hK _ _ rfl (Below.refl _ _)
  · intro ts W hb hB hp; have h0 : ts 0 = _ := hp 0 (by kernel_rfl); intro K hK; simp only [fillT, Nat.zero_add, Nat.reduceAdd, sA, sB, sC, h0] at hK ⊢; have HK := Lib.hid hK; clear hK hp; refine ⟨?_⟩; go_simp; refine (HTSX.out W _ (N7.below hb) (HT.out.below (below_trans B1 hb))).mono ?_; rintro e W9 ⟨rfl, hb9⟩; exact HK.out _ _ rfl hb9
  · intro ts W hb hB hp; have h1 : ts 1 = _ := hp 1 (by kernel_rfl); intro K hK; simp only [fillT, Nat.zero_add, Nat.reduceAdd, sA, sB, sC, h1] at hK ⊢; have HK := Lib.hid hK; clear hK hp; refine ⟨?_⟩; go_simp; refine (HPSX.out W (HT.out.below (below_trans B1 hb))).mono ?_; rintro e W9 ⟨r9, rfl, hr9, hb9⟩; exact HK.out _ _ ⟨r9, rfl, hr9⟩ hb9
  · intro ts W hb hB hp; have h2 := hp 2 (by kernel_rfl); intro K hK; simp only [fillT, Nat.zero_add, Nat.reduceAdd, sA, sB, sC] at hK ⊢; have HK := Lib.hid hK; clear hK hp; refine ⟨?_⟩; go_simp; exact HK.out _ _ h2 (Below.refl _ _)
  · intro ts W hb hB hp; have h3 := hp 3 (by kernel_rfl); intro K hK; obtain ⟨u3, e3, n3⟩ := h3; simp only [fillT, Nat.zero_add, Nat.reduceAdd, sA, sB, sC, e3] at hK ⊢; have HK := Lib.hid hK; clear hK hp; refine ⟨?_⟩; go_simp; exact HK.out _ _ n3 (Below.refl _ _)
  · intro ts W hb hB hp; have h3 := hp 3 (by kernel_rfl); intro K hK; obtain ⟨u3, e3, n3⟩ := h3; simp only [fillT, Nat.zero_add, Nat.reduceAdd, sA, sB, sC, e3] at hK ⊢; have HK := Lib.hid hK; clear hK hp; refine ⟨?_⟩; go_simp; exact HK.out _ _ rfl (Below.refl _ _)
  · intro ts W hb hB hp; have h5 : ts 5 = _ := hp 5 (by kernel_rfl); intro K hK; simp only [fillT, Nat.zero_add, Nat.reduceAdd, sA, sB, sC, h5] at hK ⊢; have HK := Lib.hid hK; clear hK hp; refine ⟨?_⟩; go_simp; exact HK.out _ _ rfl (Below.refl _ _)
  intro ts V1 hbq hh hap
  obtain ⟨g9, A9, n9, c9, p9, A9b, n9b, c9b, p9b, A9c, n9c, c9c, e6, lo9, z9, X9, N9⟩ := held_box (x := (xa).mul (xb)) (hh 6 (by simp)) rfl (hh 7 (by simp)) rfl (hh 4 (by simp)) rfl
  have e8 := held_is (hh 8 (by simp)) rfl
  simp only [fillT, Nat.zero_add, Nat.reduceAdd, sA, sB, sC, e6, e8]
  clear hh hap e6 e8
  generalize ts 0 = u0_V1 at *
  generalize ts 1 = u1_V1 at *
  generalize ts 2 = u2_V1 at *
  generalize ts 3 = u3_V1 at *
  generalize ts 4 = u4_V1 at *
  generalize ts 5 = u5_V1 at *
  clear ts
  replace X7 := (hbq.block _ z7).trans X7
  replace z7 := Nat.lt_of_lt_of_le z7 hbq.size
  replace X8 := (hbq.block _ z8).trans X8
  replace z8 := Nat.lt_of_lt_of_le z8 hbq.size
  replace N7 := N7.below hbq
  replace N8 := N8.below hbq
  replace B1 := below_trans B1 hbq
  clear hbq
  clear lo9
  go_upto_region 3 with fail
  refine region_lin [.val (kIs (.agg #[.slice A8 n8 c8, .bool p8, .slice A8b n8b c8b, .bool p8b, .slice A8c n8c c8c])), .val (kIs (.string SY)), .val (kTup ((xa).add (xc)) 0), .val (kTup ((xa).add (xc)) 0), .val (kNum ((xa).add (xc))), .val (kIs (.int .i64 0)), .box 28 zNum, .put 6 4, .val (kIs (.int .i64 0))]
    (by kernel_rfl) (by kernel_rfl) (by kernel_rfl) (by kernel_rfl) (by kernel_rfl) ⟨stab_is _, stab_is _, stab_tup _ _, stab_tup _ _, stab_num _, stab_is _, stab_is _, trivial⟩ (by simp) ⟨?_, ?_, ?_, ?_, ?_, ?_, alloc_num, store_num _, ?_, trivial⟩ ?_
  · intro ts W hb hB hp; intro K hK; simp only [fillT, Nat.zero_add, Nat.reduceAdd, sA, sB, sC] at hK ⊢; refine ⟨?_⟩; refine wp_load_row _ _ rfl (g8) rfl _ _ (0, 0) _ ((hb.block _ (z8)).trans X8) Tryz.underlying28 rfl (by kernel_rfl) ?_; exact hK _ _ rfl (Below.refl _ _)
  · intro ts W hb hB hp; have h0 : ts 0 = _ := hp 0 (by kernel_rfl); intro K hK; simp only [fillT, Nat.zero_add, Nat.reduceAdd, sA, sB, sC, h0] at hK ⊢; have HK := Lib.hid hK; clear hK hp; refine ⟨?_⟩; go_simp; refine (HTSY.out W _ (N8.below hb) (HT.out.below (below_trans B1 hb))).mono ?_; rintro e W9 ⟨rfl, hb9⟩; exact HK.out _ _ rfl hb9
  · intro ts W hb hB hp; have h1 : ts 1 = _ := hp 1 (by kernel_rfl); intro K hK; simp only [fillT, Nat.zero_add, Nat.reduceAdd, sA, sB, sC, h1] at hK ⊢; have HK := Lib.hid hK; clear hK hp; refine ⟨?_⟩; go_simp; refine (HPSY.out W (HT.out.below (below_trans B1 hb))).mono ?_; rintro e W9 ⟨r9, rfl, hr9, hb9⟩; exact HK.out _ _ ⟨r9, rfl, hr9⟩ hb9
  · intro ts W hb hB hp; have h2 := hp 2 (by kernel_rfl); intro K hK; simp only [fillT, Nat.zero_add, Nat.reduceAdd, sA, sB, sC] at hK ⊢; have HK := Lib.hid hK; clear hK hp; refine ⟨?_⟩; go_simp; exact HK.out _ _ h2 (Below.refl _ _)
  · intro ts W hb hB hp; have h3 := hp 3 (by kernel_rfl); intro K hK; obtain ⟨u3, e3, n3⟩ := h3; simp only [fillT, Nat.zero_add, Nat.reduceAdd, sA, sB, sC, e3] at hK ⊢; have HK := Lib.hid hK; clear hK hp; refine ⟨?_⟩; go_simp; exact HK.out _ _ n3 (Below.refl _ _)
  · intro ts W hb hB hp; have h3 := hp 3 (by kernel_rfl); intro K hK; obtain ⟨u3, e3, n3⟩ := h3; simp only [fillT, Nat.zero_add, Nat.reduceAdd, sA, sB, sC, e3] at hK ⊢; have HK := Lib.hid hK; clear hK hp; refine ⟨?_⟩; go_simp; exact HK.out _ _ rfl (Below.refl _ _)
  · intro ts W hb hB hp; have h5 : ts 5 = _ := hp 5 (by kernel_rfl); intro K hK; simp only [fillT, Nat.zero_add, Nat.reduceAdd, sA, sB, sC, h5] at hK ⊢; have HK := Lib.hid hK; clear hK hp; refine ⟨?_⟩; go_simp; exact HK.out _ _ rfl (Below.refl _ _)
  intro ts V2 hbq hh hap
  obtain ⟨g11, A11, n11, c11, p11, A11b, n11b, c11b, p11b, A11c, n11c, c11c, e6, lo11, z11, X11, N11⟩ := held_box (x := (xa).add (xc)) (hh 6 (by simp)) rfl (hh 7 (by simp)) rfl (hh 4 (by simp)) rfl
  have e8 := held_is (hh 8 (by simp)) rfl
  simp only [fillT, Nat.zero_add, Nat.reduceAdd, sA, sB, sC, e6, e8]
  clear hh hap e6 e8
  generalize ts 0 = u0_V2 at *
  generalize ts 1 = u1_V2 at *
  generalize ts 2 = u2_V2 at *
  generalize ts 3 = u3_V2 at *
  generalize ts 4 = u4_V2 at *
  generalize ts 5 = u5_V2 at *
  clear ts
  replace X7 := (hbq.block _ z7).trans X7
  replace z7 := Nat.lt_of_lt_of_le z7 hbq.size
  replace X8 := (hbq.block _ z8).trans X8
  replace z8 := Nat.lt_of_lt_of_le z8 hbq.size
  replace X9 := (hbq.block _ z9).trans X9
  replace z9 := Nat.lt_of_lt_of_le z9 hbq.size
  replace N7 := N7.below hbq
  replace N8 := N8.below hbq
  replace N9 := N9.below hbq
  replace B1 := below_trans B1 hbq
  clear hbq
  clear lo11
  by_cases hxy : (xa).mul (xb) = (xa).add (xc)
  · have HXY := Lib.hid hxy
    have hq := HQ.out
    rw [decide_eq_true hxy] at hq
    clear hxy
    go_upto_region 4 with fail
    refine region_lin (.val (kIs (.int .i64 0)) :: .val (kIs (.bool true)) :: .val (kIs (.bool true)) :: .val (kIs (.int .i64 0)) :: .val (kIs (.bool true)) :: .val (kIs (.bool true)) :: .val (kIs (.bool true)) :: .val (kIs (.agg #[.slice A9 n9 c9, .bool p9, .slice A9b n9b c9b, .bool p9b, .slice A9c n9c c9c])) :: .val (kIs (.agg #[.slice A7 n7 c7, .bool p7, .slice A7b n7b c7b, .bool p7b, .slice A7c n7c c7c])) :: .val (kIs (.bool true)) :: .val (kIs (.bool true)) :: .val (kIs (.bool true)) :: .val (kIs (.agg #[.slice A11 n11 c11, .bool p11, .slice A11b n11b c11b, .bool p11b, .slice A11c n11c c11c])) :: .val (kIs (.agg #[.slice A8 n8 c8, .bool p8, .slice A8b n8b c8b, .bool p8b, .slice A8c n8c c8c])) :: .val (kIs (.bool true)) :: .val (kIs (.bool true)) :: .val (kIs (.bool true)) :: .val (kIs (.agg #[.slice A7 n7 c7, .bool p7, .slice A7b n7b c7b, .bool p7b, .slice A7c n7c c7c])) :: .val (kIs (.string SX)) :: .val (kIs (.agg #[.slice A8 n8 c8, .bool p8, .slice A8b n8b c8b, .bool p8b, .slice A8c n8c c8c])) :: .val (kIs (.string SY)) :: .val (kIs (.bool true)) :: .val (kIs (.agg #[.slice A7 n7 c7, .bool p7, .slice A7b n7b c7b, .bool p7b, .slice A7c n7c c7c])) :: .val (kIs (.agg #[.slice A8 n8 c8, .bool p8, .slice A8b n8b c8b, .bool p8b, .slice A8c n8c c8c])) :: .val (kIs (.bool true)) :: .val (kIs (.bool true)) :: .val (kIs (.bool true)) :: .val (kIs (.bool true)) :: .val (kIs (.bool true)) :: .val (kIs (.bool true)) :: .val (kIs (.bool true)) :: [])
      (by kernel_rfl) (by kernel_rfl) (by kernel_rfl) (by kernel_rfl) (by kernel_rfl) ⟨Stab.b (stab_is _), Stab.b (stab_is _), Stab.b (stab_is _), Stab.b (stab_is _), Stab.b (stab_is _), Stab.b (stab_is _), Stab.b (stab_is _), Stab.b (stab_is _), Stab.b (stab_is _), Stab.b (stab_is _), Stab.b (stab_is _), Stab.b (stab_is _), Stab.b (stab_is _), Stab.b (stab_is _), Stab.b (stab_is _), Stab.b (stab_is _), Stab.b (stab_is _), Stab.b (stab_is _), Stab.b (stab_is _), Stab.b (stab_is _), Stab.b (stab_is _), Stab.b (stab_is _), Stab.b (stab_is _), Stab.b (stab_is _), Stab.b (stab_is _), Stab.b (stab_is _), Stab.b (stab_is _), Stab.b (stab_is _), Stab.b (stab_is _), Stab.b (stab_is _), Stab.b (stab_is _), trivial⟩ (by simp) ⟨?_, ?_, ?_, ?_, ?_, ?_, ?_, ?_, ?_, ?_, ?_, ?_, ?_, ?_, ?_, ?_, ?_, ?_, ?_, ?_, ?_, ?_, ?_, ?_, ?_, ?_, ?_, ?_, ?_, ?_, ?_, trivial⟩ ?_
    · exact obp
    · intro ts W hb hB hp; have h0 : ts 0 = _ := hp 0 (by kernel_rfl); intro K hK; simp only [fillT, Nat.zero_add, Nat.reduceAdd, sA, sB, sC, h0] at hK ⊢; have HK := Lib.hid hK; clear hK hp; refine ⟨?_⟩; go_simp; exact HK.out _ _ rfl (Below.refl _ _)
    · intro ts W hb hB hp; have h1 : ts 1 = _ := hp 1 (by kernel_rfl); intro K hK; simp only [fillT, Nat.zero_add, Nat.reduceAdd, sA, sB, sC, h1] at hK ⊢; have HK := Lib.hid hK; clear hK hp; refine ⟨?_⟩; go_simp; exact HK.out _ _ rfl (Below.refl _ _)
    · intro ts W hb hB hp; have h2 : ts 2 = _ := hp 2 (by kernel_rfl); refine Guarded.on h2 ?_; clear h2; intro K hK; simp only [fillT, Nat.zero_add, Nat.reduceAdd, sA, sB, sC] at hK ⊢; have HK := Lib.hid hK; clear hK hp; refine ⟨?_⟩; go_simp; exact HK.out _ _ rfl (Below.refl _ _)
    · intro ts W hb hB hp; have h3 : ts 3 = _ := hp 3 (by kernel_rfl); have h2 : ts 2 = _ := hp 2 (by kernel_rfl); refine Guarded.on h2 ?_; clear h2; intro K hK; simp only [fillT, Nat.zero_add, Nat.reduceAdd, sA, sB, sC, h3] at hK ⊢; have HK := Lib.hid hK; clear hK hp; refine ⟨?_⟩; go_simp; exact HK.out _ _ rfl (Below.refl _ _)
    · intro ts W hb hB hp; have h2 : ts 2 = _ := hp 2 (by kernel_rfl); have h4 : ts 4 = _ := hp 4 (by kernel_rfl); intro K hK; simp only [fillT, Nat.zero_add, Nat.reduceAdd, sA, sB, sC, h2, h4] at hK ⊢; have HK := Lib.hid hK; clear hK hp; refine ⟨?_⟩; go_simp; exact HK.out _ _ rfl (Below.refl _ _)
    · intro ts W hb hB hp; have h5 : ts 5 = _ := hp 5 (by kernel_rfl); intro K hK; simp only [fillT, Nat.zero_add, Nat.reduceAdd, sA, sB, sC, h5] at hK ⊢; have HK := Lib.hid hK; clear hK hp; refine ⟨?_⟩; go_simp; exact HK.out _ _ rfl (Below.refl _ _)
    · intro ts W hb hB hp; have h6 : ts 6 = _ := hp 6 (by kernel_rfl); refine Guarded.on h6 ?_; clear h6; intro K hK; simp only [fillT, Nat.zero_add, Nat.reduceAdd, sA, sB, sC] at hK ⊢; refine ⟨?_⟩; refine wp_load_row _ _ rfl (g9) rfl _ _ (0, 0) _ ((hb.block _ (z9)).trans X9) Tryz.underlying28 rfl (by kernel_rfl) ?_; exact hK _ _ rfl (Below.refl _ _)
    · intro ts W hb hB hp; have h6 : ts 6 = _ := hp 6 (by kernel_rfl); refine Guarded.on h6 ?_; clear h6; intro K hK; simp only [fillT, Nat.zero_add, Nat.reduceAdd, sA, sB, sC] at hK ⊢; refine ⟨?_⟩; refine wp_load_row _ _ rfl (g7) rfl _ _ (0, 0) _ ((hb.block _ (z7)).trans X7) Tryz.underlying28 rfl (by kernel_rfl) ?_; exact hK _ _ rfl (Below.refl _ _)
    · intro ts W hb hB hp; have h7 : ts 7 = _ := hp 7 (by kernel_rfl); have h8 : ts 8 = _ := hp 8 (by kernel_rfl); have h6 : ts 6 = _ := hp 6 (by kernel_rfl); refine Guarded.on h6 ?_; clear h6; intro K hK; simp only [fillT, Nat.zero_add, Nat.reduceAdd, sA, sB, sC, h7, h8] at hK ⊢; have HK := Lib.hid hK; clear hK hp; refine ⟨?_⟩; go_simp; refine (sameN_k _ _ ((xa).mul (xb)) ((xa).mul (xb)) W (N9.below hb) (N7.below hb) 5 (Sz.mono sSX (by omega)) (Sz.mono sSX (by omega)) (by omega) (same_t rfl)).mono ?_; rintro e W9 ⟨rfl, hb9⟩; exact HK.out _ _ rfl hb9
    · intro ts W hb hB hp; have h6 : ts 6 = _ := hp 6 (by kernel_rfl); have h9 : ts 9 = _ := hp 9 (by kernel_rfl); intro K hK; simp only [fillT, Nat.zero_add, Nat.reduceAdd, sA, sB, sC, h6, h9] at hK ⊢; have HK := Lib.hid hK; clear hK hp; refine ⟨?_⟩; go_simp; exact HK.out _ _ rfl (Below.refl _ _)
    · intro ts W hb hB hp; have h10 : ts 10 = _ := hp 10 (by kernel_rfl); intro K hK; simp only [fillT, Nat.zero_add, Nat.reduceAdd, sA, sB, sC, h10] at hK ⊢; have HK := Lib.hid hK; clear hK hp; refine ⟨?_⟩; go_simp; exact HK.out _ _ rfl (Below.refl _ _)
    · intro ts W hb hB hp; have h11 : ts 11 = _ := hp 11 (by kernel_rfl); refine Guarded.on h11 ?_; clear h11; intro K hK; simp only [fillT, Nat.zero_add, Nat.reduceAdd, sA, sB, sC] at hK ⊢; refine ⟨?_⟩; refine wp_load_row _ _ rfl (g11) rfl _ _ (0, 0) _ ((hb.block _ (z11)).trans X11) Tryz.underlying28 rfl (by kernel_rfl) ?_; exact hK _ _ rfl (Below.refl _ _)
    · intro ts W hb hB hp; have h11 : ts 11 = _ := hp 11 (by kernel_rfl); refine Guarded.on h11 ?_; clear h11; intro K hK; simp only [fillT, Nat.zero_add, Nat.reduceAdd, sA, sB, sC] at hK ⊢; refine ⟨?_⟩; refine wp_load_row _ _ rfl (g8) rfl _ _ (0, 0) _ ((hb.block _ (z8)).trans X8) Tryz.underlying28 rfl (by kernel_rfl) ?_; exact hK _ _ rfl (Below.refl _ _)
    · intro ts W hb hB hp; have h12 : ts 12 = _ := hp 12 (by kernel_rfl); have h13 : ts 13 = _ := hp 13 (by kernel_rfl); have h11 : ts 11 = _ := hp 11 (by kernel_rfl); refine Guarded.on h11 ?_; clear h11; intro K hK; simp only [fillT, Nat.zero_add, Nat.reduceAdd, sA, sB, sC, h12, h13] at hK ⊢; have HK := Lib.hid hK; clear hK hp; refine ⟨?_⟩; go_simp; refine (sameN_k _ _ ((xa).add (xc)) ((xa).add (xc)) W (N11.below hb) (N8.below hb) 5 (Sz.mono sSY (by omega)) (Sz.mono sSY (by omega)) (by omega) (same_t rfl)).mono ?_; rintro e W9 ⟨rfl, hb9⟩; exact HK.out _ _ rfl hb9
    · intro ts W hb hB hp; have h11 : ts 11 = _ := hp 11 (by kernel_rfl); have h14 : ts 14 = _ := hp 14 (by kernel_rfl); intro K hK; simp only [fillT, Nat.zero_add, Nat.reduceAdd, sA, sB, sC, h11, h14] at hK ⊢; have HK := Lib.hid hK; clear hK hp; refine ⟨?_⟩; go_simp; exact HK.out _ _ rfl (Below.refl _ _)
    · intro ts W hb hB hp; have h15 : ts 15 = _ := hp 15 (by kernel_rfl); intro K hK; simp only [fillT, Nat.zero_add, Nat.reduceAdd, sA, sB, sC, h15] at hK ⊢; have HK := Lib.hid hK; clear hK hp; refine ⟨?_⟩; go_simp; exact HK.out _ _ rfl (Below.refl _ _)
    · intro ts W hb hB hp; have h16 : ts 16 = _ := hp 16 (by kernel_rfl); refine Guarded.on h16 ?_; clear h16; intro K hK; simp only [fillT, Nat.zero_add, Nat.reduceAdd, sA, sB, sC] at hK ⊢; refine ⟨?_⟩; refine wp_load_row _ _ rfl (g7) rfl _ _ (0, 0) _ ((hb.block _ (z7)).trans X7) Tryz.underlying28 rfl (by kernel_rfl) ?_; exact hK _ _ rfl (Below.refl _ _)
    · intro ts W hb hB hp; have h17 : ts 17 = _ := hp 17 (by kernel_rfl); have h16 : ts 16 = _ := hp 16 (by kernel_rfl); refine Guarded.on h16 ?_; clear h16; intro K hK; simp only [fillT, Nat.zero_add, Nat.reduceAdd, sA, sB, sC, h17] at hK ⊢; have HK := Lib.hid hK; clear hK hp; refine ⟨?_⟩; go_simp; refine (HTSX.out W _ (N7.below hb) (HT.out.below (below_trans B1 hb))).mono ?_; rintro e W9 ⟨rfl, hb9⟩; exact HK.out _ _ rfl hb9
    · intro ts W hb hB hp; have h16 : ts 16 = _ := hp 16 (by kernel_rfl); refine Guarded.on h16 ?_; clear h16; intro K hK; simp only [fillT, Nat.zero_add, Nat.reduceAdd, sA, sB, sC] at hK ⊢; refine ⟨?_⟩; refine wp_load_row _ _ rfl (g8) rfl _ _ (0, 0) _ ((hb.block _ (z8)).trans X8) Tryz.underlying28 rfl (by kernel_rfl) ?_; exact hK _ _ rfl (Below.refl _ _)
    · intro ts W hb hB hp; have h19 : ts 19 = _ := hp 19 (by kernel_rfl); have h16 : ts 16 = _ := hp 16 (by kernel_rfl); refine Guarded.on h16 ?_; clear h16; intro K hK; simp only [fillT, Nat.zero_add, Nat.reduceAdd, sA, sB, sC, h19] at hK ⊢; have HK := Lib.hid hK; clear hK hp; refine ⟨?_⟩; go_simp; refine (HTSY.out W _ (N8.below hb) (HT.out.below (below_trans B1 hb))).mono ?_; rintro e W9 ⟨rfl, hb9⟩; exact HK.out _ _ rfl hb9
    · intro ts W hb hB hp; have h18 : ts 18 = _ := hp 18 (by kernel_rfl); have h20 : ts 20 = _ := hp 20 (by kernel_rfl); have h16 : ts 16 = _ := hp 16 (by kernel_rfl); refine Guarded.on h16 ?_; clear h16; intro K hK; simp only [fillT, Nat.zero_add, Nat.reduceAdd, sA, sB, sC, h18, h20] at hK ⊢; have HK := Lib.hid hK; clear hK hp; refine ⟨?_⟩; go_simp; exact HK.out _ _ rfl (Below.refl _ _)
    · intro ts W hb hB hp; have h16 : ts 16 = _ := hp 16 (by kernel_rfl); refine Guarded.on h16 ?_; clear h16; intro K hK; simp only [fillT, Nat.zero_add, Nat.reduceAdd, sA, sB, sC] at hK ⊢; refine ⟨?_⟩; refine wp_load_row _ _ rfl (g7) rfl _ _ (0, 0) _ ((hb.block _ (z7)).trans X7) Tryz.underlying28 rfl (by kernel_rfl) ?_; exact hK _ _ rfl (Below.refl _ _)
    · intro ts W hb hB hp; have h16 : ts 16 = _ := hp 16 (by kernel_rfl); refine Guarded.on h16 ?_; clear h16; intro K hK; simp only [fillT, Nat.zero_add, Nat.reduceAdd, sA, sB, sC] at hK ⊢; refine ⟨?_⟩; refine wp_load_row _ _ rfl (g8) rfl _ _ (0, 0) _ ((hb.block _ (z8)).trans X8) Tryz.underlying28 rfl (by kernel_rfl) ?_; exact hK _ _ rfl (Below.refl _ _)
    · intro ts W hb hB hp; have h22 : ts 22 = _ := hp 22 (by kernel_rfl); have h23 : ts 23 = _ := hp 23 (by kernel_rfl); have h16 : ts 16 = _ := hp 16 (by kernel_rfl); refine Guarded.on h16 ?_; clear h16; intro K hK; simp only [fillT, Nat.zero_add, Nat.reduceAdd, sA, sB, sC, h22, h23] at hK ⊢; have HK := Lib.hid hK; clear hK hp; refine ⟨?_⟩; go_simp; refine (sameN_k _ _ ((xa).mul (xb)) ((xa).add (xc)) W (N7.below hb) (N8.below hb) 5 (Sz.mono sSX (by omega)) (Sz.mono sSY (by omega)) (by omega) (same_t HXY.out)).mono ?_; rintro e W9 ⟨rfl, hb9⟩; exact HK.out _ _ rfl hb9
    · intro ts W hb hB hp; have h21 : ts 21 = _ := hp 21 (by kernel_rfl); have h24 : ts 24 = _ := hp 24 (by kernel_rfl); have h16 : ts 16 = _ := hp 16 (by kernel_rfl); refine Guarded.on h16 ?_; clear h16; intro K hK; simp only [fillT, Nat.zero_add, Nat.reduceAdd, sA, sB, sC, h21, h24] at hK ⊢; have HK := Lib.hid hK; clear hK hp; refine ⟨?_⟩; go_simp; exact HK.out _ _ rfl (Below.refl _ _)
    · intro ts W hb hB hp; have h16 : ts 16 = _ := hp 16 (by kernel_rfl); have h25 : ts 25 = _ := hp 25 (by kernel_rfl); intro K hK; simp only [fillT, Nat.zero_add, Nat.reduceAdd, sA, sB, sC, h16, h25] at hK ⊢; have HK := Lib.hid hK; clear hK hp; refine ⟨?_⟩; go_simp; exact HK.out _ _ rfl (Below.refl _ _)
    · intro ts W hb hB hp; have h26 : ts 26 = _ := hp 26 (by kernel_rfl); intro K hK; simp only [fillT, Nat.zero_add, Nat.reduceAdd, sA, sB, sC, h26] at hK ⊢; have HK := Lib.hid hK; clear hK hp; refine ⟨?_⟩; go_simp; exact HK.out _ _ rfl (Below.refl _ _)
    · intro ts W hb hB hp; have h27 : ts 27 = _ := hp 27 (by kernel_rfl); refine Guarded.on h27 ?_; clear h27; intro K hK; simp only [fillT, Nat.zero_add, Nat.reduceAdd, sA, sB, sC] at hK ⊢; have HK := Lib.hid hK; clear hK hp; refine ⟨?_⟩; go_simp; refine (awake_any W (HT.out.below (below_trans B1 hb))).mono ?_; rintro e W9 ⟨rfl, hb9⟩; exact HK.out _ _ rfl hb9
    · intro ts W hb hB hp; have h27 : ts 27 = _ := hp 27 (by kernel_rfl); have h28 : ts 28 = _ := hp 28 (by kernel_rfl); intro K hK; simp only [fillT, Nat.zero_add, Nat.reduceAdd, sA, sB, sC, h27, h28] at hK ⊢; have HK := Lib.hid hK; clear hK hp; refine ⟨?_⟩; go_simp; exact HK.out _ _ rfl (Below.refl _ _)
    · intro ts W hb hB hp; have h29 : ts 29 = _ := hp 29 (by kernel_rfl); intro K hK; simp only [fillT, Nat.zero_add, Nat.reduceAdd, sA, sB, sC, h29] at hK ⊢; have HK := Lib.hid hK; clear hK hp; refine ⟨?_⟩; go_simp; exact HK.out _ _ rfl (Below.refl _ _)
    intro ts V3 hbq hh hap
    have e30 := held_is (hh 30 (by simp)) rfl
    simp only [fillT, Nat.zero_add, Nat.reduceAdd, sA, sB, sC, e30]
    clear hh hap e30
    generalize ts 0 = u0_V3 at *
    generalize ts 1 = u1_V3 at *
    generalize ts 2 = u2_V3 at *
    generalize ts 3 = u3_V3 at *
    generalize ts 4 = u4_V3 at *
    generalize ts 5 = u5_V3 at *
    generalize ts 6 = u6_V3 at *
    generalize ts 7 = u7_V3 at *
    generalize ts 8 = u8_V3 at *
    generalize ts 9 = u9_V3 at *
    generalize ts 10 = u10_V3 at *
    generalize ts 11 = u11_V3 at *
    generalize ts 12 = u12_V3 at *
    generalize ts 13 = u13_V3 at *
    generalize ts 14 = u14_V3 at *
    generalize ts 15 = u15_V3 at *
    generalize ts 16 = u16_V3 at *
    generalize ts 17 = u17_V3 at *
    generalize ts 18 = u18_V3 at *
    generalize ts 19 = u19_V3 at *
    generalize ts 20 = u20_V3 at *
    generalize ts 21 = u21_V3 at *
    generalize ts 22 = u22_V3 at *
    generalize ts 23 = u23_V3 at *
    generalize ts 24 = u24_V3 at *
    generalize ts 25 = u25_V3 at *
    generalize ts 26 = u26_V3 at *
    generalize ts 27 = u27_V3 at *
    generalize ts 28 = u28_V3 at *
    generalize ts 29 = u29_V3 at *
    clear ts
    replace X7 := (hbq.block _ z7).trans X7
    replace z7 := Nat.lt_of_lt_of_le z7 hbq.size
    replace X8 := (hbq.block _ z8).trans X8
    replace z8 := Nat.lt_of_lt_of_le z8 hbq.size
    replace X9 := (hbq.block _ z9).trans X9
    replace z9 := Nat.lt_of_lt_of_le z9 hbq.size
    replace X11 := (hbq.block _ z11).trans X11
    replace z11 := Nat.lt_of_lt_of_le z11 hbq.size
    replace N7 := N7.below hbq
    replace N8 := N8.below hbq
    replace N9 := N9.below hbq
    replace N11 := N11.below hbq
    replace B1 := below_trans B1 hbq
    clear hbq
    clear X7 N7 z7 X8 N8 z8 X9 N9 z9 X11 N11 z11
    go_wp2
    go_ret
    exact ⟨rfl, B1⟩
  · have HXY := Lib.hid hxy
    have hq := HQ.out
    rw [decide_eq_false hxy] at hq
    clear hxy
    go_upto_region 4 with fail
    refine region_lin (.val (kIs (.int .i64 0)) :: .val (kIs (.bool true)) :: .val (kIs (.bool true)) :: .val (kIs (.int .i64 0)) :: .val (kIs (.bool true)) :: .val (kIs (.bool true)) :: .val (kIs (.bool true)) :: .val (kIs (.agg #[.slice A9 n9 c9, .bool p9, .slice A9b n9b c9b, .bool p9b, .slice A9c n9c c9c])) :: .val (kIs (.agg #[.slice A7 n7 c7, .bool p7, .slice A7b n7b c7b, .bool p7b, .slice A7c n7c c7c])) :: .val (kIs (.bool true)) :: .val (kIs (.bool true)) :: .val (kIs (.bool true)) :: .val (kIs (.agg #[.slice A11 n11 c11, .bool p11, .slice A11b n11b c11b, .bool p11b, .slice A11c n11c c11c])) :: .val (kIs (.agg #[.slice A8 n8 c8, .bool p8, .slice A8b n8b c8b, .bool p8b, .slice A8c n8c c8c])) :: .val (kIs (.bool true)) :: .val (kIs (.bool true)) :: .val (kIs (.bool true)) :: .val (kIs (.agg #[.slice A7 n7 c7, .bool p7, .slice A7b n7b c7b, .bool p7b, .slice A7c n7c c7c])) :: .val (kIs (.string SX)) :: .val (kIs (.agg #[.slice A8 n8 c8, .bool p8, .slice A8b n8b c8b, .bool p8b, .slice A8c n8c c8c])) :: .val (kIs (.string SY)) :: .val (kIs (.bool false)) :: .val (kIs (.agg #[.slice A7 n7 c7, .bool p7, .slice A7b n7b c7b, .bool p7b, .slice A7c n7c c7c])) :: .val (kIs (.agg #[.slice A8 n8 c8, .bool p8, .slice A8b n8b c8b, .bool p8b, .slice A8c n8c c8c])) :: .val (kIs (.bool false)) :: .val (kIs (.bool true)) :: .val (kIs (.bool true)) :: .val (kIs (.bool true)) :: .val (kIs (.bool true)) :: .val (kIs (.bool true)) :: .val (kIs (.bool true)) :: [])
      (by kernel_rfl) (by kernel_rfl) (by kernel_rfl) (by kernel_rfl) (by kernel_rfl) ⟨Stab.b (stab_is _), Stab.b (stab_is _), Stab.b (stab_is _), Stab.b (stab_is _), Stab.b (stab_is _), Stab.b (stab_is _), Stab.b (stab_is _), Stab.b (stab_is _), Stab.b (stab_is _), Stab.b (stab_is _), Stab.b (stab_is _), Stab.b (stab_is _), Stab.b (stab_is _), Stab.b (stab_is _), Stab.b (stab_is _), Stab.b (stab_is _), Stab.b (stab_is _), Stab.b (stab_is _), Stab.b (stab_is _), Stab.b (stab_is _), Stab.b (stab_is _), Stab.b (stab_is _), Stab.b (stab_is _), Stab.b (stab_is _), Stab.b (stab_is _), Stab.b (stab_is _), Stab.b (stab_is _), Stab.b (stab_is _), Stab.b (stab_is _), Stab.b (stab_is _), Stab.b (stab_is _), trivial⟩ (by simp) ⟨?_, ?_, ?_, ?_, ?_, ?_, ?_, ?_, ?_, ?_, ?_, ?_, ?_, ?_, ?_, ?_, ?_, ?_, ?_, ?_, ?_, ?_, ?_, ?_, ?_, ?_, ?_, ?_, ?_, ?_, ?_, trivial⟩ ?_
    · exact obp
    · intro ts W hb hB hp; have h0 : ts 0 = _ := hp 0 (by kernel_rfl); intro K hK; simp only [fillT, Nat.zero_add, Nat.reduceAdd, sA, sB, sC, h0] at hK ⊢; have HK := Lib.hid hK; clear hK hp; refine ⟨?_⟩; go_simp; exact HK.out _ _ rfl (Below.refl _ _)
    · intro ts W hb hB hp; have h1 : ts 1 = _ := hp 1 (by kernel_rfl); intro K hK; simp only [fillT, Nat.zero_add, Nat.reduceAdd, sA, sB, sC, h1] at hK ⊢; have HK := Lib.hid hK; clear hK hp; refine ⟨?_⟩; go_simp; exact HK.out _ _ rfl (Below.refl _ _)
    · intro ts W hb hB hp; have h2 : ts 2 = _ := hp 2 (by kernel_rfl); refine Guarded.on h2 ?_; clear h2; intro K hK; simp only [fillT, Nat.zero_add, Nat.reduceAdd, sA, sB, sC] at hK ⊢; have HK := Lib.hid hK; clear hK hp; refine ⟨?_⟩; go_simp; exact HK.out _ _ rfl (Below.refl _ _)
    · intro ts W hb hB hp; have h3 : ts 3 = _ := hp 3 (by kernel_rfl); have h2 : ts 2 = _ := hp 2 (by kernel_rfl); refine Guarded.on h2 ?_; clear h2; intro K hK; simp only [fillT, Nat.zero_add, Nat.reduceAdd, sA, sB, sC, h3] at hK ⊢; have HK := Lib.hid hK; clear hK hp; refine ⟨?_⟩; go_simp; exact HK.out _ _ rfl (Below.refl _ _)
    · intro ts W hb hB hp; have h2 : ts 2 = _ := hp 2 (by kernel_rfl); have h4 : ts 4 = _ := hp 4 (by kernel_rfl); intro K hK; simp only [fillT, Nat.zero_add, Nat.reduceAdd, sA, sB, sC, h2, h4] at hK ⊢; have HK := Lib.hid hK; clear hK hp; refine ⟨?_⟩; go_simp; exact HK.out _ _ rfl (Below.refl _ _)
    · intro ts W hb hB hp; have h5 : ts 5 = _ := hp 5 (by kernel_rfl); intro K hK; simp only [fillT, Nat.zero_add, Nat.reduceAdd, sA, sB, sC, h5] at hK ⊢; have HK := Lib.hid hK; clear hK hp; refine ⟨?_⟩; go_simp; exact HK.out _ _ rfl (Below.refl _ _)
    · intro ts W hb hB hp; have h6 : ts 6 = _ := hp 6 (by kernel_rfl); refine Guarded.on h6 ?_; clear h6; intro K hK; simp only [fillT, Nat.zero_add, Nat.reduceAdd, sA, sB, sC] at hK ⊢; refine ⟨?_⟩; refine wp_load_row _ _ rfl (g9) rfl _ _ (0, 0) _ ((hb.block _ (z9)).trans X9) Tryz.underlying28 rfl (by kernel_rfl) ?_; exact hK _ _ rfl (Below.refl _ _)
    · intro ts W hb hB hp; have h6 : ts 6 = _ := hp 6 (by kernel_rfl); refine Guarded.on h6 ?_; clear h6; intro K hK; simp only [fillT, Nat.zero_add, Nat.reduceAdd, sA, sB, sC] at hK ⊢; refine ⟨?_⟩; refine wp_load_row _ _ rfl (g7) rfl _ _ (0, 0) _ ((hb.block _ (z7)).trans X7) Tryz.underlying28 rfl (by kernel_rfl) ?_; exact hK _ _ rfl (Below.refl _ _)
    · intro ts W hb hB hp; have h7 : ts 7 = _ := hp 7 (by kernel_rfl); have h8 : ts 8 = _ := hp 8 (by kernel_rfl); have h6 : ts 6 = _ := hp 6 (by kernel_rfl); refine Guarded.on h6 ?_; clear h6; intro K hK; simp only [fillT, Nat.zero_add, Nat.reduceAdd, sA, sB, sC, h7, h8] at hK ⊢; have HK := Lib.hid hK; clear hK hp; refine ⟨?_⟩; go_simp; refine (sameN_k _ _ ((xa).mul (xb)) ((xa).mul (xb)) W (N9.below hb) (N7.below hb) 5 (Sz.mono sSX (by omega)) (Sz.mono sSX (by omega)) (by omega) (same_t rfl)).mono ?_; rintro e W9 ⟨rfl, hb9⟩; exact HK.out _ _ rfl hb9
    · intro ts W hb hB hp; have h6 : ts 6 = _ := hp 6 (by kernel_rfl); have h9 : ts 9 = _ := hp 9 (by kernel_rfl); intro K hK; simp only [fillT, Nat.zero_add, Nat.reduceAdd, sA, sB, sC, h6, h9] at hK ⊢; have HK := Lib.hid hK; clear hK hp; refine ⟨?_⟩; go_simp; exact HK.out _ _ rfl (Below.refl _ _)
    · intro ts W hb hB hp; have h10 : ts 10 = _ := hp 10 (by kernel_rfl); intro K hK; simp only [fillT, Nat.zero_add, Nat.reduceAdd, sA, sB, sC, h10] at hK ⊢; have HK := Lib.hid hK; clear hK hp; refine ⟨?_⟩; go_simp; exact HK.out _ _ rfl (Below.refl _ _)
    · intro ts W hb hB hp; have h11 : ts 11 = _ := hp 11 (by kernel_rfl); refine Guarded.on h11 ?_; clear h11; intro K hK; simp only [fillT, Nat.zero_add, Nat.reduceAdd, sA, sB, sC] at hK ⊢; refine ⟨?_⟩; refine wp_load_row _ _ rfl (g11) rfl _ _ (0, 0) _ ((hb.block _ (z11)).trans X11) Tryz.underlying28 rfl (by kernel_rfl) ?_; exact hK _ _ rfl (Below.refl _ _)
    · intro ts W hb hB hp; have h11 : ts 11 = _ := hp 11 (by kernel_rfl); refine Guarded.on h11 ?_; clear h11; intro K hK; simp only [fillT, Nat.zero_add, Nat.reduceAdd, sA, sB, sC] at hK ⊢; refine ⟨?_⟩; refine wp_load_row _ _ rfl (g8) rfl _ _ (0, 0) _ ((hb.block _ (z8)).trans X8) Tryz.underlying28 rfl (by kernel_rfl) ?_; exact hK _ _ rfl (Below.refl _ _)
    · intro ts W hb hB hp; have h12 : ts 12 = _ := hp 12 (by kernel_rfl); have h13 : ts 13 = _ := hp 13 (by kernel_rfl); have h11 : ts 11 = _ := hp 11 (by kernel_rfl); refine Guarded.on h11 ?_; clear h11; intro K hK; simp only [fillT, Nat.zero_add, Nat.reduceAdd, sA, sB, sC, h12, h13] at hK ⊢; have HK := Lib.hid hK; clear hK hp; refine ⟨?_⟩; go_simp; refine (sameN_k _ _ ((xa).add (xc)) ((xa).add (xc)) W (N11.below hb) (N8.below hb) 5 (Sz.mono sSY (by omega)) (Sz.mono sSY (by omega)) (by omega) (same_t rfl)).mono ?_; rintro e W9 ⟨rfl, hb9⟩; exact HK.out _ _ rfl hb9
    · intro ts W hb hB hp; have h11 : ts 11 = _ := hp 11 (by kernel_rfl); have h14 : ts 14 = _ := hp 14 (by kernel_rfl); intro K hK; simp only [fillT, Nat.zero_add, Nat.reduceAdd, sA, sB, sC, h11, h14] at hK ⊢; have HK := Lib.hid hK; clear hK hp; refine ⟨?_⟩; go_simp; exact HK.out _ _ rfl (Below.refl _ _)
    · intro ts W hb hB hp; have h15 : ts 15 = _ := hp 15 (by kernel_rfl); intro K hK; simp only [fillT, Nat.zero_add, Nat.reduceAdd, sA, sB, sC, h15] at hK ⊢; have HK := Lib.hid hK; clear hK hp; refine ⟨?_⟩; go_simp; exact HK.out _ _ rfl (Below.refl _ _)
    · intro ts W hb hB hp; have h16 : ts 16 = _ := hp 16 (by kernel_rfl); refine Guarded.on h16 ?_; clear h16; intro K hK; simp only [fillT, Nat.zero_add, Nat.reduceAdd, sA, sB, sC] at hK ⊢; refine ⟨?_⟩; refine wp_load_row _ _ rfl (g7) rfl _ _ (0, 0) _ ((hb.block _ (z7)).trans X7) Tryz.underlying28 rfl (by kernel_rfl) ?_; exact hK _ _ rfl (Below.refl _ _)
    · intro ts W hb hB hp; have h17 : ts 17 = _ := hp 17 (by kernel_rfl); have h16 : ts 16 = _ := hp 16 (by kernel_rfl); refine Guarded.on h16 ?_; clear h16; intro K hK; simp only [fillT, Nat.zero_add, Nat.reduceAdd, sA, sB, sC, h17] at hK ⊢; have HK := Lib.hid hK; clear hK hp; refine ⟨?_⟩; go_simp; refine (HTSX.out W _ (N7.below hb) (HT.out.below (below_trans B1 hb))).mono ?_; rintro e W9 ⟨rfl, hb9⟩; exact HK.out _ _ rfl hb9
    · intro ts W hb hB hp; have h16 : ts 16 = _ := hp 16 (by kernel_rfl); refine Guarded.on h16 ?_; clear h16; intro K hK; simp only [fillT, Nat.zero_add, Nat.reduceAdd, sA, sB, sC] at hK ⊢; refine ⟨?_⟩; refine wp_load_row _ _ rfl (g8) rfl _ _ (0, 0) _ ((hb.block _ (z8)).trans X8) Tryz.underlying28 rfl (by kernel_rfl) ?_; exact hK _ _ rfl (Below.refl _ _)
    · intro ts W hb hB hp; have h19 : ts 19 = _ := hp 19 (by kernel_rfl); have h16 : ts 16 = _ := hp 16 (by kernel_rfl); refine Guarded.on h16 ?_; clear h16; intro K hK; simp only [fillT, Nat.zero_add, Nat.reduceAdd, sA, sB, sC, h19] at hK ⊢; have HK := Lib.hid hK; clear hK hp; refine ⟨?_⟩; go_simp; refine (HTSY.out W _ (N8.below hb) (HT.out.below (below_trans B1 hb))).mono ?_; rintro e W9 ⟨rfl, hb9⟩; exact HK.out _ _ rfl hb9
    · intro ts W hb hB hp; have h18 : ts 18 = _ := hp 18 (by kernel_rfl); have h20 : ts 20 = _ := hp 20 (by kernel_rfl); have h16 : ts 16 = _ := hp 16 (by kernel_rfl); refine Guarded.on h16 ?_; clear h16; intro K hK; simp only [fillT, Nat.zero_add, Nat.reduceAdd, sA, sB, sC, h18, h20] at hK ⊢; have HK := Lib.hid hK; clear hK hp; refine ⟨?_⟩; go_simp; exact HK.out _ _ rfl (Below.refl _ _)
    · intro ts W hb hB hp; have h16 : ts 16 = _ := hp 16 (by kernel_rfl); refine Guarded.on h16 ?_; clear h16; intro K hK; simp only [fillT, Nat.zero_add, Nat.reduceAdd, sA, sB, sC] at hK ⊢; refine ⟨?_⟩; refine wp_load_row _ _ rfl (g7) rfl _ _ (0, 0) _ ((hb.block _ (z7)).trans X7) Tryz.underlying28 rfl (by kernel_rfl) ?_; exact hK _ _ rfl (Below.refl _ _)
    · intro ts W hb hB hp; have h16 : ts 16 = _ := hp 16 (by kernel_rfl); refine Guarded.on h16 ?_; clear h16; intro K hK; simp only [fillT, Nat.zero_add, Nat.reduceAdd, sA, sB, sC] at hK ⊢; refine ⟨?_⟩; refine wp_load_row _ _ rfl (g8) rfl _ _ (0, 0) _ ((hb.block _ (z8)).trans X8) Tryz.underlying28 rfl (by kernel_rfl) ?_; exact hK _ _ rfl (Below.refl _ _)
    · intro ts W hb hB hp; have h22 : ts 22 = _ := hp 22 (by kernel_rfl); have h23 : ts 23 = _ := hp 23 (by kernel_rfl); have h16 : ts 16 = _ := hp 16 (by kernel_rfl); refine Guarded.on h16 ?_; clear h16; intro K hK; simp only [fillT, Nat.zero_add, Nat.reduceAdd, sA, sB, sC, h22, h23] at hK ⊢; have HK := Lib.hid hK; clear hK hp; refine ⟨?_⟩; go_simp; refine (sameN_k _ _ ((xa).mul (xb)) ((xa).add (xc)) W (N7.below hb) (N8.below hb) 5 (Sz.mono sSX (by omega)) (Sz.mono sSY (by omega)) (by omega) (decide_eq_false HXY.out)).mono ?_; rintro e W9 ⟨rfl, hb9⟩; exact HK.out _ _ rfl hb9
    · intro ts W hb hB hp; have h21 : ts 21 = _ := hp 21 (by kernel_rfl); have h24 : ts 24 = _ := hp 24 (by kernel_rfl); have h16 : ts 16 = _ := hp 16 (by kernel_rfl); refine Guarded.on h16 ?_; clear h16; intro K hK; simp only [fillT, Nat.zero_add, Nat.reduceAdd, sA, sB, sC, h21, h24] at hK ⊢; have HK := Lib.hid hK; clear hK hp; refine ⟨?_⟩; go_simp; exact HK.out _ _ rfl (Below.refl _ _)
    · intro ts W hb hB hp; have h16 : ts 16 = _ := hp 16 (by kernel_rfl); have h25 : ts 25 = _ := hp 25 (by kernel_rfl); intro K hK; simp only [fillT, Nat.zero_add, Nat.reduceAdd, sA, sB, sC, h16, h25] at hK ⊢; have HK := Lib.hid hK; clear hK hp; refine ⟨?_⟩; go_simp; exact HK.out _ _ rfl (Below.refl _ _)
    · intro ts W hb hB hp; have h26 : ts 26 = _ := hp 26 (by kernel_rfl); intro K hK; simp only [fillT, Nat.zero_add, Nat.reduceAdd, sA, sB, sC, h26] at hK ⊢; have HK := Lib.hid hK; clear hK hp; refine ⟨?_⟩; go_simp; exact HK.out _ _ rfl (Below.refl _ _)
    · intro ts W hb hB hp; have h27 : ts 27 = _ := hp 27 (by kernel_rfl); refine Guarded.on h27 ?_; clear h27; intro K hK; simp only [fillT, Nat.zero_add, Nat.reduceAdd, sA, sB, sC] at hK ⊢; have HK := Lib.hid hK; clear hK hp; refine ⟨?_⟩; go_simp; refine (awake_any W (HT.out.below (below_trans B1 hb))).mono ?_; rintro e W9 ⟨rfl, hb9⟩; exact HK.out _ _ rfl hb9
    · intro ts W hb hB hp; have h27 : ts 27 = _ := hp 27 (by kernel_rfl); have h28 : ts 28 = _ := hp 28 (by kernel_rfl); intro K hK; simp only [fillT, Nat.zero_add, Nat.reduceAdd, sA, sB, sC, h27, h28] at hK ⊢; have HK := Lib.hid hK; clear hK hp; refine ⟨?_⟩; go_simp; exact HK.out _ _ rfl (Below.refl _ _)
    · intro ts W hb hB hp; have h29 : ts 29 = _ := hp 29 (by kernel_rfl); intro K hK; simp only [fillT, Nat.zero_add, Nat.reduceAdd, sA, sB, sC, h29] at hK ⊢; have HK := Lib.hid hK; clear hK hp; refine ⟨?_⟩; go_simp; exact HK.out _ _ rfl (Below.refl _ _)
    intro ts V3 hbq hh hap
    have e30 := held_is (hh 30 (by simp)) rfl
    simp only [fillT, Nat.zero_add, Nat.reduceAdd, sA, sB, sC, e30]
    clear hh hap e30
    generalize ts 0 = u0_V3 at *
    generalize ts 1 = u1_V3 at *
    generalize ts 2 = u2_V3 at *
    generalize ts 3 = u3_V3 at *
    generalize ts 4 = u4_V3 at *
    generalize ts 5 = u5_V3 at *
    generalize ts 6 = u6_V3 at *
    generalize ts 7 = u7_V3 at *
    generalize ts 8 = u8_V3 at *
    generalize ts 9 = u9_V3 at *
    generalize ts 10 = u10_V3 at *
    generalize ts 11 = u11_V3 at *
    generalize ts 12 = u12_V3 at *
    generalize ts 13 = u13_V3 at *
    generalize ts 14 = u14_V3 at *
    generalize ts 15 = u15_V3 at *
    generalize ts 16 = u16_V3 at *
    generalize ts 17 = u17_V3 at *
    generalize ts 18 = u18_V3 at *
    generalize ts 19 = u19_V3 at *
    generalize ts 20 = u20_V3 at *
    generalize ts 21 = u21_V3 at *
    generalize ts 22 = u22_V3 at *
    generalize ts 23 = u23_V3 at *
    generalize ts 24 = u24_V3 at *
    generalize ts 25 = u25_V3 at *
    generalize ts 26 = u26_V3 at *
    generalize ts 27 = u27_V3 at *
    generalize ts 28 = u28_V3 at *
    generalize ts 29 = u29_V3 at *
    clear ts
    replace X7 := (hbq.block _ z7).trans X7
    replace z7 := Nat.lt_of_lt_of_le z7 hbq.size
    replace X8 := (hbq.block _ z8).trans X8
    replace z8 := Nat.lt_of_lt_of_le z8 hbq.size
    replace X9 := (hbq.block _ z9).trans X9
    replace z9 := Nat.lt_of_lt_of_le z9 hbq.size
    replace X11 := (hbq.block _ z11).trans X11
    replace z11 := Nat.lt_of_lt_of_le z11 hbq.size
    replace N7 := N7.below hbq
    replace N8 := N8.below hbq
    replace N9 := N9.below hbq
    replace N11 := N11.below hbq
    replace B1 := below_trans B1 hbq
    clear hbq
    clear X7 N7 z7 X8 N8 z8 X9 N9 z9 X11 N11 z11
    go_wp2
    go_ret
    exact ⟨rfl, B1⟩
end Go.Proofs.YtphlmmjlpbledaaGreatDoor
