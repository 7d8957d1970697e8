
/- Walk of the reference's dyadic. -/
import Derived.Test.YtphlmmjlpbledaaGreatDoorK37
import Derived.Test.YtphlmmjlpbledaaGreatDoorFy
import Derived.Test.YtphlmmjlpbledaaGreatDoorFb
import Derived.Test.YtphlmmjlpbledaaGreatDoorFi
import Derived.Test.YtphlmmjlpbledaaGreatDoorK30
import Derived.Test.YtphlmmjlpbledaaGreatDoorK33
import Derived.Test.YtphlmmjlpbledaaGreatDoorFb
import Derived.Test.YtphlmmjlpbledaaGreatDoorFi
set_option linter.unusedSimpArgs false
set_option linter.unusedVariables false
namespace Go.Proofs.YtphlmmjlpbledaaGreatDoor
open Go.RowKit
set_option maxRecDepth 100000

theorem one_run (W : World) : (Instr.buildSlice 23 1 #[(0, .int .u32 1)]).run Tryz.prog W =
    .ok (.slice (some ⟨W.heap.size, 0, none⟩) 1 1) (W.alloc (.cells #[.int .u32 1] 56)) := by simp [go_sem]
theorem oneNat (W : World) : IsNat (W.alloc (.cells #[.int .u32 1] 56)) (.slice (some ⟨W.heap.size, 0, none⟩) 1 1) 1 := IsNat.one _ _ (by simp) (by simp [go_sem]) 1 (Nat.le_refl _)
theorem top_bit {b : Nat} (hb : b < 18446744073709551616) : ((b : Int) / 9223372036854775808 == 1) = fneg b := by
  unfold fneg
  rw [Bool.eq_iff_iff]
  simp
  omega
theorem fS_neg' (b : Nat) : (fneg b && decide (0 < fmag b)) = decide (fS b < 0) := by
  rw [fS_neg]
  congr 1
  rw [decide_eq_decide]
  omega
theorem fS_up (b k : Nat) : (fS b * ((2 ^ k : Nat) : Int)).natAbs = fmag b * 2 ^ k ∧ (decide (fS b < 0) && decide (0 < fmag b * 2 ^ k)) = decide (fS b * ((2 ^ k : Nat) : Int) < 0) := by
  have hk := Nat.pow_pos (a := 2) (n := k) (by omega)
  refine ⟨by rw [Int.natAbs_mul, fS_abs, Int.natAbs_natCast], ?_⟩
  have ha := fS_abs b
  generalize fS b = z at *
  generalize fmag b = m at *
  generalize 2 ^ k = c at *
  rcases Int.lt_or_le z 0 with h | h
  · have h1 : z * (c : Int) < 0 := Int.mul_neg_of_neg_of_pos h (by omega)
    have h2 : 0 < m * c := Nat.mul_pos (by omega) hk
    simp [h, h1, h2]
  · have h1 : 0 ≤ z * (c : Int) := Int.mul_nonneg h (by omega)
    have h3 : ¬ z * (c : Int) < 0 := by omega
    have h4 : ¬ z < 0 := by omega
    simp [h4, h3]
set_option maxHeartbeats 1000000 in
theorem dyadic_sub (b k : Nat) (w : World) (hb : b < 18446744073709551616) (hx : fx b ≠ 2047) (h0 : fx b = 0) (hk : fup b + k = 1074) :
    Calls Tryz.prog 83 #[.float .f64 b] w (RetQ w (dy b)) := by
  have hfb := floatbits_run
  have h1 := fx_bits b hb
  have h2 := fm_bits b hb
  have hml := fmag_lt b
  have hul : fup b ≤ 2045 := by have := fx_lt b; unfold fup; omega
  have hsg := top_bit hb
  have hmag : fmag b = fm b := by unfold fmag; rw [if_pos h0]
  have hE : fup b = 0 := by unfold fup; rw [h0]
  rw [h0] at h1
  rw [← hmag] at h2
  have h3 : IntKind.i64.wrap ((0 : Nat) : Int) = 0 := by decide
  have HN := Lib.hid (fun W => rNatOf_any (fmag b) W (by omega))
  have HG := Lib.hid (fun W v (h : IsNat W v (fmag b)) => rsigned_any (fneg b) v (fmag b) (fS b) W h (fS_abs b) (fS_neg' b))
  have hwl : wl (fmag b) ≤ 2 := wl_le_of (by omega)
  have HS := Lib.hid (show (1074 : Int) = (k : Int) by omega)
  have HD1 : decide ((1075 : Int) ≤ 1) = false := decide_eq_false (by omega)
  have hkl : k ≤ 1074 := by omega
  have HSH := Lib.hid (fun W v (h : IsNat W v 1) => rNatShl_any v 1 k W h (by rw [wl_one]; omega) (by omega))
  have HMK := Lib.hid (fun W v u (h : IsRI W u (fS b)) (h3 : IsNat W v (1 * 2 ^ k)) => rMake_any u (.agg #[.bool false, .slice none 0 0]) v (fS b) 0 (1 * 2 ^ k) (dy b) W h (IsRI.zero _ _ _) h3 (by rw [Nat.one_mul]; exact Nat.pow_pos (by omega)) (by rw [Nat.one_mul]; exact dy_small hk) (by rw [Nat.one_mul]; exact dy_im b k) (by rw [fS_abs]; omega) (by simp [wl_zero]) (Nat.lt_of_le_of_lt (wl_of_two (k := k + 1) (n := 34) (by rw [Nat.one_mul]; exact Nat.pow_lt_pow_right (by omega) (Nat.lt_succ_self _)) (by omega)) (by omega)))
  have hmz : (fmag b : Int) = (fmag b : Int) := rfl
  clear hml hul hb hx hk hwl hkl hE hmag
  generalize hmg : fmag b = m at *
  have HMG := Lib.hid hmg
  clear hmg
  go_enter Tryz.func83, Tryz.ntmps83
  go_wp2_with fail
  refine (HN.out _).mono ?_
  rintro e w1 ⟨v1, rfl, hn1, hb1⟩
  have X0 := (hb1.block w.heap.size (by simp)).trans (heap_alloc_new w _)
  have z0 : w.heap.size < w1.heap.size := Nat.lt_of_lt_of_le (by simp) hb1.size
  have B0 := Lib.hid (below_trans (below_alloc w _) hb1)
  have HN1 := Lib.hid hn1
  clear hn1 hb1
  go_wp2_with fail
  refine (HG.out _ _ HN1.out).mono ?_
  rintro e w2 ⟨v2, rfl, hr2, hb2⟩
  obtain ⟨A1, n1, c1, rfl, -, hs2⟩ := hr2.parts
  rw [fS_abs, HMG.out] at hs2
  generalize decide (fS b < 0) = p1 at *
  replace X0 := (hb2.block w.heap.size z0).trans X0
  replace z0 := Nat.lt_of_lt_of_le z0 hb2.size
  have B2 := Lib.hid (below_trans B0.out hb2)
  have HR2 := Lib.hid hr2
  have HS2 := Lib.hid hs2
  clear hr2 hs2 hb2 B0 HN1
  go_upto_region 10 with fail
  obtain ⟨W1, hW1⟩ : ∃ W, W = w2.alloc (.cells #[.bool p1, .slice A1 n1 c1] 33) := ⟨_, rfl⟩
  rw [← hW1]
  have X10 : W1.heap[w2.heap.size]? = some (.cells #[.bool p1, .slice A1 n1 c1] 33 (0, 0)) := by rw [hW1]; exact heap_alloc_new w2 _
  have z10 : w2.heap.size < W1.heap.size := by rw [hW1]; simp
  replace X0 := (heap_alloc_old w2 (.cells #[.bool p1, .slice A1 n1 c1] 33) z0).trans X0
  rw [← hW1] at X0
  replace z0 := Nat.lt_trans z0 z10
  have H2 : IsRI W1 (.agg #[.bool p1, .slice A1 n1 c1]) (fS b) := by rw [hW1]; exact HR2.out.below (below_alloc _ _)
  have H1 : IsNat W1 (.slice A1 n1 c1) m := by rw [hW1]; exact HS2.out.below (below_alloc _ _)
  have B1 : Below w.heap.size w W1 := by rw [hW1]; exact below_trans B2.out (below_alloc _ _)
  clear hW1 B2 HR2 HS2
  refine region_last [.val (kIs (.agg #[.bool p1, .slice A1 n1 c1])), .val (kIs (.agg #[.bool false, .slice none 0 0])), .val (kNat 1), .val (kIs (.int .i64 1)), .val (kIs (.int .i64 (k : Int))), .val (kNat (1 * 2 ^ k)), .val (kQ (dy b))]
    (by kernel_rfl) (by kernel_rfl) (by kernel_rfl) (by kernel_rfl) (by kernel_rfl) ⟨Stab.b (stab_is _), Stab.b (stab_is _), stabB_nat _, Stab.b (stab_is _), Stab.b (stab_is _), stabB_nat _, stabB_q _, trivial⟩ (by simp) (ol := _) rfl (by kernel_rfl) ⟨?_, ?_, ?_, ?_, ?_, ?_, ?_, trivial⟩ ?_
  · intro ts W hb hB hp; intro K hK; simp only [fillT, Nat.zero_add, Nat.reduceAdd, List.setIfInBounds_toArray, List.set_cons_zero, List.set_cons_succ] at hK ⊢; have HK := Lib.hid hK; clear hK hp; obtain ⟨f0, f1, -, -⟩ := bx2 ((hb.block _ z10).trans X10); refine ⟨?_⟩; go_simp; exact HK.out _ _ rfl (Below.refl _ _)
  · intro ts W hb hB hp; intro K hK; simp only [fillT, Nat.zero_add, Nat.reduceAdd, List.setIfInBounds_toArray, List.set_cons_zero, List.set_cons_succ] at hK ⊢; have HK := Lib.hid hK; clear hK hp; refine ⟨?_⟩; go_simp; exact HK.out _ _ rfl (Below.refl _ _)
  · intro ts W hb hB hp; intro K hK; simp only [fillT, Nat.zero_add, Nat.reduceAdd, List.setIfInBounds_toArray, List.set_cons_zero, List.set_cons_succ] at hK ⊢; have HK := Lib.hid hK; clear hK hp; refine ⟨?_⟩; exact wp_buildSlice rfl (by simp [Act.eval]) (one_run W) (HK.out _ _ (oneNat W) (below_alloc _ _))
  · intro ts W hb hB hp; intro K hK; simp only [fillT, Nat.zero_add, Nat.reduceAdd, List.setIfInBounds_toArray, List.set_cons_zero, List.set_cons_succ] at hK ⊢; have HK := Lib.hid hK; clear hK hp; refine ⟨?_⟩; go_simp; exact HK.out _ _ rfl (Below.refl _ _)
  · intro ts W hb hB hp; have h3 : ts 3 = _ := hp 3 (by kernel_rfl); intro K hK; simp only [fillT, Nat.zero_add, Nat.reduceAdd, List.setIfInBounds_toArray, List.set_cons_zero, List.set_cons_succ, h3] at hK ⊢; have HK := Lib.hid hK; clear hK hp; refine ⟨?_⟩; go_simp; exact HK.out _ _ (by have h := HS.out; simp [kIs]; rw [show IntKind.i64.wrap 1074 = 1074 by decide]; exact h) (Below.refl _ _)
  · intro ts W hb hB hp; have h2 := hp 2 (by kernel_rfl); have h4 : ts 4 = _ := hp 4 (by kernel_rfl); intro K hK; simp only [fillT, Nat.zero_add, Nat.reduceAdd, List.setIfInBounds_toArray, List.set_cons_zero, List.set_cons_succ, h4] at hK ⊢; have HK := Lib.hid hK; clear hK hp; refine ⟨?_⟩; go_simp; refine (HSH.out W _ h2).mono ?_; rintro e W9 ⟨r9, rfl, hr9, hb9⟩; exact HK.out _ _ hr9 hb9
  · intro ts W hb hB hp; have h0 : ts 0 = _ := hp 0 (by kernel_rfl); have h1 : ts 1 = _ := hp 1 (by kernel_rfl); have h5 := hp 5 (by kernel_rfl); intro K hK; simp only [fillT, Nat.zero_add, Nat.reduceAdd, List.setIfInBounds_toArray, List.set_cons_zero, List.set_cons_succ, h0, h1] at hK ⊢; have HK := Lib.hid hK; clear hK hp; refine ⟨?_⟩; go_simp; refine (HMK.out W _ _ (IsRI.below H2 hb) h5).mono ?_; rintro e W9 ⟨r9, rfl, hr9, hb9⟩; exact HK.out _ _ hr9 hb9
  intro ts W2 hb2 hh hap K hK
  have hq : IsQ W2 (ts 6) (dy b) := hh 6 (by simp)
  obtain ⟨A9, n9, c9, p9, A9b, n9b, c9b, p9b, A9c, n9c, c9c, qa, qb, qd, hqe, -⟩ := hq.parts
  have Y0 := (hb2.block (w.heap.size) (by omega)).trans X0
  have HK := Lib.hid hK
  clear hK
  simp only [fillT, Nat.zero_add, Nat.reduceAdd, List.setIfInBounds_toArray, List.set_cons_zero, List.set_cons_succ, hqe]
  rw [hqe] at hq
  clear hh hap hqe
  refine ⟨?_⟩
  refine wp_store_row _ _ _ rfl (w.heap.size) _ rfl rfl _ _ Y0 (by kernel_rfl) rfl (by simp [Value.oneCell']) (HK.out _ _ ?_)
  have hput := putAt_setRow (cs := #[.bool p9, .slice A9 n9 c9, .bool p9b, .slice A9b n9b c9b, .slice A9c n9c c9c]) Y0
  have hext := hput.ext Y0 (by decide)
  have B2 := hput.below (below_trans B1 hb2) (by omega)
  generalize W2.setRow (w.heap.size) #[.bool p9, .slice A9 n9 c9, .bool p9b, .slice A9b n9b c9b, .slice A9c n9c c9c] = W3 at *
  have h5 := hq.ext hext
  obtain ⟨f0, f1, f2, f3, f4, y0, y1, y2, y3, y4⟩ := bx5 hput.here
  clear hput hext hq Y0 HK
  go_wp2
  refine bodyPost_ret (v := .agg #[.bool p9, .slice A9 n9 c9, .bool p9b, .slice A9b n9b c9b, .slice A9c n9c c9c]) (by simp [results, Tryz.results83, go_sem, f0, f1, f2, f3, f4]) rfl ?_
  exact ⟨_, rfl, h5, B2⟩
set_option maxHeartbeats 1000000 in
theorem dyadic_small (b k : Nat) (w : World) (hb : b < 18446744073709551616) (hx : fx b ≠ 2047) (h0 : 0 < fx b) (hk : fup b + k = 1074 ∧ 0 < k) :
    Calls Tryz.prog 83 #[.float .f64 b] w (RetQ w (dy b)) := by
  have hfb := floatbits_run
  have h1 := fx_bits b hb
  have h2 := fm_bits b hb
  have hml := fmag_lt b
  have hul : fup b ≤ 2045 := by have := fx_lt b; unfold fup; omega
  have hsg := top_bit hb
  obtain ⟨hk, hk0⟩ := hk
  have hor := or_52 (fm_lt b)
  have hmag : fmag b = fm b + 4503599627370496 := by unfold fmag; rw [if_neg (by omega)]
  rw [← hmag] at hor
  obtain ⟨X, hX⟩ : ∃ X, fx b = X := ⟨_, rfl⟩
  have hE : fup b + 1 = X := by unfold fup; omega
  have hXl := fx_lt b
  rw [hX] at h1 h0 hXl
  have hX0 : ((X : Int) == 0) = false := by simp; omega
  have hwX : IntKind.i64.wrap (X : Int) = (X : Int) := IntWalk.i64_in _ (by omega)
  have HN := Lib.hid (fun W => rNatOf_any (fmag b) W (by omega))
  have HG := Lib.hid (fun W v (h : IsNat W v (fmag b)) => rsigned_any (fneg b) v (fmag b) (fS b) W h (fS_abs b) (fS_neg' b))
  have hwl : wl (fmag b) ≤ 2 := wl_le_of (by omega)
  have HS := Lib.hid (show IntKind.i64.wrap (1075 - (X : Int)) = (k : Int) by rw [IntWalk.i64_in _ (by omega)]; omega)
  have HD1 : decide ((1075 : Int) ≤ (X : Int)) = false := decide_eq_false (by omega)
  have hkl : k ≤ 1074 := by omega
  have HSH := Lib.hid (fun W v (h : IsNat W v 1) => rNatShl_any v 1 k W h (by rw [wl_one]; omega) (by omega))
  have HMK := Lib.hid (fun W v u (h : IsRI W u (fS b)) (h3 : IsNat W v (1 * 2 ^ k)) => rMake_any u (.agg #[.bool false, .slice none 0 0]) v (fS b) 0 (1 * 2 ^ k) (dy b) W h (IsRI.zero _ _ _) h3 (by rw [Nat.one_mul]; exact Nat.pow_pos (by omega)) (by rw [Nat.one_mul]; exact dy_small hk) (by rw [Nat.one_mul]; exact dy_im b k) (by rw [fS_abs]; omega) (by simp [wl_zero]) (Nat.lt_of_le_of_lt (wl_of_two (k := k + 1) (n := 34) (by rw [Nat.one_mul]; exact Nat.pow_lt_pow_right (by omega) (Nat.lt_succ_self _)) (by omega)) (by omega)))
  have hmz : (fmag b : Int) = (fmag b : Int) := rfl
  clear hml hul hb hx hk hwl hkl hE hmag hXl hX h0 hk0
  generalize hmg : fmag b = m at *
  have HMG := Lib.hid hmg
  clear hmg
  go_enter Tryz.func83, Tryz.ntmps83
  go_wp2_with fail
  refine (HN.out _).mono ?_
  rintro e w1 ⟨v1, rfl, hn1, hb1⟩
  have X0 := (hb1.block w.heap.size (by simp)).trans (heap_alloc_new w _)
  have z0 : w.heap.size < w1.heap.size := Nat.lt_of_lt_of_le (by simp) hb1.size
  have B0 := Lib.hid (below_trans (below_alloc w _) hb1)
  have HN1 := Lib.hid hn1
  clear hn1 hb1
  go_wp2_with fail
  refine (HG.out _ _ HN1.out).mono ?_
  rintro e w2 ⟨v2, rfl, hr2, hb2⟩
  obtain ⟨A1, n1, c1, rfl, -, hs2⟩ := hr2.parts
  rw [fS_abs, HMG.out] at hs2
  generalize decide (fS b < 0) = p1 at *
  replace X0 := (hb2.block w.heap.size z0).trans X0
  replace z0 := Nat.lt_of_lt_of_le z0 hb2.size
  have B2 := Lib.hid (below_trans B0.out hb2)
  have HR2 := Lib.hid hr2
  have HS2 := Lib.hid hs2
  clear hr2 hs2 hb2 B0 HN1
  go_upto_region 10 with fail
  obtain ⟨W1, hW1⟩ : ∃ W, W = w2.alloc (.cells #[.bool p1, .slice A1 n1 c1] 33) := ⟨_, rfl⟩
  rw [← hW1]
  have X10 : W1.heap[w2.heap.size]? = some (.cells #[.bool p1, .slice A1 n1 c1] 33 (0, 0)) := by rw [hW1]; exact heap_alloc_new w2 _
  have z10 : w2.heap.size < W1.heap.size := by rw [hW1]; simp
  replace X0 := (heap_alloc_old w2 (.cells #[.bool p1, .slice A1 n1 c1] 33) z0).trans X0
  rw [← hW1] at X0
  replace z0 := Nat.lt_trans z0 z10
  have H2 : IsRI W1 (.agg #[.bool p1, .slice A1 n1 c1]) (fS b) := by rw [hW1]; exact HR2.out.below (below_alloc _ _)
  have H1 : IsNat W1 (.slice A1 n1 c1) m := by rw [hW1]; exact HS2.out.below (below_alloc _ _)
  have B1 : Below w.heap.size w W1 := by rw [hW1]; exact below_trans B2.out (below_alloc _ _)
  clear hW1 B2 HR2 HS2
  refine region_last [.val (kIs (.agg #[.bool p1, .slice A1 n1 c1])), .val (kIs (.agg #[.bool false, .slice none 0 0])), .val (kNat 1), .val (kIs (.int .i64 (X : Int))), .val (kIs (.int .i64 (k : Int))), .val (kNat (1 * 2 ^ k)), .val (kQ (dy b))]
    (by kernel_rfl) (by kernel_rfl) (by kernel_rfl) (by kernel_rfl) (by kernel_rfl) ⟨Stab.b (stab_is _), Stab.b (stab_is _), stabB_nat _, Stab.b (stab_is _), Stab.b (stab_is _), stabB_nat _, stabB_q _, trivial⟩ (by simp) (ol := _) rfl (by kernel_rfl) ⟨?_, ?_, ?_, ?_, ?_, ?_, ?_, trivial⟩ ?_
  · intro ts W hb hB hp; intro K hK; simp only [fillT, Nat.zero_add, Nat.reduceAdd, List.setIfInBounds_toArray, List.set_cons_zero, List.set_cons_succ] at hK ⊢; have HK := Lib.hid hK; clear hK hp; obtain ⟨f0, f1, -, -⟩ := bx2 ((hb.block _ z10).trans X10); refine ⟨?_⟩; go_simp; exact HK.out _ _ rfl (Below.refl _ _)
  · intro ts W hb hB hp; intro K hK; simp only [fillT, Nat.zero_add, Nat.reduceAdd, List.setIfInBounds_toArray, List.set_cons_zero, List.set_cons_succ] at hK ⊢; have HK := Lib.hid hK; clear hK hp; refine ⟨?_⟩; go_simp; exact HK.out _ _ rfl (Below.refl _ _)
  · intro ts W hb hB hp; intro K hK; simp only [fillT, Nat.zero_add, Nat.reduceAdd, List.setIfInBounds_toArray, List.set_cons_zero, List.set_cons_succ] at hK ⊢; have HK := Lib.hid hK; clear hK hp; refine ⟨?_⟩; exact wp_buildSlice rfl (by simp [Act.eval]) (one_run W) (HK.out _ _ (oneNat W) (below_alloc _ _))
  · intro ts W hb hB hp; intro K hK; simp only [fillT, Nat.zero_add, Nat.reduceAdd, List.setIfInBounds_toArray, List.set_cons_zero, List.set_cons_succ] at hK ⊢; have HK := Lib.hid hK; clear hK hp; refine ⟨?_⟩; go_simp; exact HK.out _ _ rfl (Below.refl _ _)
  · intro ts W hb hB hp; have h3 : ts 3 = _ := hp 3 (by kernel_rfl); intro K hK; simp only [fillT, Nat.zero_add, Nat.reduceAdd, List.setIfInBounds_toArray, List.set_cons_zero, List.set_cons_succ, h3] at hK ⊢; have HK := Lib.hid hK; clear hK hp; refine ⟨?_⟩; go_simp; exact HK.out _ _ (by simp [kIs, HS.out]) (Below.refl _ _)
  · intro ts W hb hB hp; have h2 := hp 2 (by kernel_rfl); have h4 : ts 4 = _ := hp 4 (by kernel_rfl); intro K hK; simp only [fillT, Nat.zero_add, Nat.reduceAdd, List.setIfInBounds_toArray, List.set_cons_zero, List.set_cons_succ, h4] at hK ⊢; have HK := Lib.hid hK; clear hK hp; refine ⟨?_⟩; go_simp; refine (HSH.out W _ h2).mono ?_; rintro e W9 ⟨r9, rfl, hr9, hb9⟩; exact HK.out _ _ hr9 hb9
  · intro ts W hb hB hp; have h0 : ts 0 = _ := hp 0 (by kernel_rfl); have h1 : ts 1 = _ := hp 1 (by kernel_rfl); have h5 := hp 5 (by kernel_rfl); intro K hK; simp only [fillT, Nat.zero_add, Nat.reduceAdd, List.setIfInBounds_toArray, List.set_cons_zero, List.set_cons_succ, h0, h1] at hK ⊢; have HK := Lib.hid hK; clear hK hp; refine ⟨?_⟩; go_simp; refine (HMK.out W _ _ (IsRI.below H2 hb) h5).mono ?_; rintro e W9 ⟨r9, rfl, hr9, hb9⟩; exact HK.out _ _ hr9 hb9
  intro ts W2 hb2 hh hap K hK
  have hq : IsQ W2 (ts 6) (dy b) := hh 6 (by simp)
  obtain ⟨A9, n9, c9, p9, A9b, n9b, c9b, p9b, A9c, n9c, c9c, qa, qb, qd, hqe, -⟩ := hq.parts
  have Y0 := (hb2.block (w.heap.size) (by omega)).trans X0
  have HK := Lib.hid hK
  clear hK
  simp only [fillT, Nat.zero_add, Nat.reduceAdd, List.setIfInBounds_toArray, List.set_cons_zero, List.set_cons_succ, hqe]
  rw [hqe] at hq
  clear hh hap hqe
  refine ⟨?_⟩
  refine wp_store_row _ _ _ rfl (w.heap.size) _ rfl rfl _ _ Y0 (by kernel_rfl) rfl (by simp [Value.oneCell']) (HK.out _ _ ?_)
  have hput := putAt_setRow (cs := #[.bool p9, .slice A9 n9 c9, .bool p9b, .slice A9b n9b c9b, .slice A9c n9c c9c]) Y0
  have hext := hput.ext Y0 (by decide)
  have B2 := hput.below (below_trans B1 hb2) (by omega)
  generalize W2.setRow (w.heap.size) #[.bool p9, .slice A9 n9 c9, .bool p9b, .slice A9b n9b c9b, .slice A9c n9c c9c] = W3 at *
  have h5 := hq.ext hext
  obtain ⟨f0, f1, f2, f3, f4, y0, y1, y2, y3, y4⟩ := bx5 hput.here
  clear hput hext hq Y0 HK
  go_wp2
  refine bodyPost_ret (v := .agg #[.bool p9, .slice A9 n9 c9, .bool p9b, .slice A9b n9b c9b, .slice A9c n9c c9c]) (by simp [results, Tryz.results83, go_sem, f0, f1, f2, f3, f4]) rfl ?_
  exact ⟨_, rfl, h5, B2⟩
set_option maxHeartbeats 1000000 in
theorem dyadic_big (b k : Nat) (w : World) (hb : b < 18446744073709551616) (hx : fx b ≠ 2047) (h0 : 0 < fx b) (hk : fup b = 1074 + k) :
    Calls Tryz.prog 83 #[.float .f64 b] w (RetQ w (dy b)) := by
  have hfb := floatbits_run
  have h1 := fx_bits b hb
  have h2 := fm_bits b hb
  have hml := fmag_lt b
  have hul : fup b ≤ 2045 := by have := fx_lt b; unfold fup; omega
  have hsg := top_bit hb
  have hor := or_52 (fm_lt b)
  have hmag : fmag b = fm b + 4503599627370496 := by unfold fmag; rw [if_neg (by omega)]
  rw [← hmag] at hor
  obtain ⟨X, hX⟩ : ∃ X, fx b = X := ⟨_, rfl⟩
  have hE : fup b + 1 = X := by unfold fup; omega
  have hXl := fx_lt b
  rw [hX] at h1 h0 hXl
  have hX0 : ((X : Int) == 0) = false := by simp; omega
  have hwX : IntKind.i64.wrap (X : Int) = (X : Int) := IntWalk.i64_in _ (by omega)
  have HN := Lib.hid (fun W => rNatOf_any (fmag b) W (by omega))
  have HG := Lib.hid (fun W v (h : IsNat W v (fmag b)) => rsigned_any (fneg b) v (fmag b) (fS b) W h (fS_abs b) (fS_neg' b))
  have hwl : wl (fmag b) ≤ 2 := wl_le_of (by omega)
  have HS := Lib.hid (show IntKind.i64.wrap ((X : Int) - 1075) = (k : Int) by rw [IntWalk.i64_in _ (by omega)]; omega)
  have HD1 : decide ((1075 : Int) ≤ (X : Int)) = true := decide_eq_true (by omega)
  have HL := Lib.hid (dy_big hk)
  have hkl : k ≤ 2045 := by omega
  have HSH := Lib.hid (fun W v (h : IsNat W v (fmag b)) => rNatShl_any v (fmag b) k W h (by omega) (by omega))
  have HSG := Lib.hid (fun W v (h : IsNat W v (fmag b * 2 ^ k)) => rsigned_any (decide (fS b < 0)) v _ _ W h (fS_up b k).1 (fS_up b k).2)
  have hmz : (fmag b : Int) = (fmag b : Int) := rfl
  clear hml hul hb hx hk hwl hkl hE hmag hXl hX h0
  generalize hmg : fmag b = m at *
  have HMG := Lib.hid hmg
  clear hmg
  go_enter Tryz.func83, Tryz.ntmps83
  go_wp2_with fail
  refine (HN.out _).mono ?_
  rintro e w1 ⟨v1, rfl, hn1, hb1⟩
  have X0 := (hb1.block w.heap.size (by simp)).trans (heap_alloc_new w _)
  have z0 : w.heap.size < w1.heap.size := Nat.lt_of_lt_of_le (by simp) hb1.size
  have B0 := Lib.hid (below_trans (below_alloc w _) hb1)
  have HN1 := Lib.hid hn1
  clear hn1 hb1
  go_wp2_with fail
  refine (HG.out _ _ HN1.out).mono ?_
  rintro e w2 ⟨v2, rfl, hr2, hb2⟩
  obtain ⟨A1, n1, c1, rfl, -, hs2⟩ := hr2.parts
  rw [fS_abs, HMG.out] at hs2
  generalize decide (fS b < 0) = p1 at *
  replace X0 := (hb2.block w.heap.size z0).trans X0
  replace z0 := Nat.lt_of_lt_of_le z0 hb2.size
  have B2 := Lib.hid (below_trans B0.out hb2)
  have HR2 := Lib.hid hr2
  have HS2 := Lib.hid hs2
  clear hr2 hs2 hb2 B0 HN1
  go_upto_region 9 with fail
  obtain ⟨W1, hW1⟩ : ∃ W, W = w2.alloc (.cells #[.bool p1, .slice A1 n1 c1] 33) := ⟨_, rfl⟩
  rw [← hW1]
  have X10 : W1.heap[w2.heap.size]? = some (.cells #[.bool p1, .slice A1 n1 c1] 33 (0, 0)) := by rw [hW1]; exact heap_alloc_new w2 _
  have z10 : w2.heap.size < W1.heap.size := by rw [hW1]; simp
  replace X0 := (heap_alloc_old w2 (.cells #[.bool p1, .slice A1 n1 c1] 33) z0).trans X0
  rw [← hW1] at X0
  replace z0 := Nat.lt_trans z0 z10
  have H2 : IsRI W1 (.agg #[.bool p1, .slice A1 n1 c1]) (fS b) := by rw [hW1]; exact HR2.out.below (below_alloc _ _)
  have H1 : IsNat W1 (.slice A1 n1 c1) m := by rw [hW1]; exact HS2.out.below (below_alloc _ _)
  have B1 : Below w.heap.size w W1 := by rw [hW1]; exact below_trans B2.out (below_alloc _ _)
  clear hW1 B2 HR2 HS2
  refine region_last [.val (kIs (.pointer (some ⟨w2.heap.size, 0, none⟩))), .val (kIs (.bool p1)), .val (kIs (.pointer (some ⟨w2.heap.size, 1, none⟩))), .val (kIs (.slice A1 n1 c1)), .val (kIs (.int .i64 (X : Int))), .val (kIs (.int .i64 (k : Int))), .val (kNat (m * 2 ^ k)), .val (kRI (fS b * ((2 ^ k : Nat) : Int))), .val (kIs (.agg #[.bool false, .slice none 0 0])), .val (kNat 1), .val (kQ (dy b))]
    (by kernel_rfl) (by kernel_rfl) (by kernel_rfl) (by kernel_rfl) (by kernel_rfl) ⟨Stab.b (stab_is _), Stab.b (stab_is _), Stab.b (stab_is _), Stab.b (stab_is _), Stab.b (stab_is _), Stab.b (stab_is _), stabB_nat _, stabB_ri _, Stab.b (stab_is _), stabB_nat _, stabB_q _, trivial⟩ (by simp) (ol := _) rfl (by kernel_rfl) ⟨?_, ?_, ?_, ?_, ?_, ?_, ?_, ?_, ?_, ?_, ?_, trivial⟩ ?_
  · intro ts W hb hB hp; intro K hK; simp only [fillT, Nat.zero_add, Nat.reduceAdd, List.setIfInBounds_toArray, List.set_cons_zero, List.set_cons_succ] at hK ⊢; have HK := Lib.hid hK; clear hK hp; refine ⟨?_⟩; go_simp; exact HK.out _ _ rfl (Below.refl _ _)
  · intro ts W hb hB hp; have h0 : ts 0 = _ := hp 0 (by kernel_rfl); intro K hK; simp only [fillT, Nat.zero_add, Nat.reduceAdd, List.setIfInBounds_toArray, List.set_cons_zero, List.set_cons_succ, h0] at hK ⊢; have HK := Lib.hid hK; clear hK hp; obtain ⟨f0, f1, -, -⟩ := bx2 ((hb.block _ z10).trans X10); refine ⟨?_⟩; go_simp; exact HK.out _ _ rfl (Below.refl _ _)
  · intro ts W hb hB hp; intro K hK; simp only [fillT, Nat.zero_add, Nat.reduceAdd, List.setIfInBounds_toArray, List.set_cons_zero, List.set_cons_succ] at hK ⊢; have HK := Lib.hid hK; clear hK hp; refine ⟨?_⟩; go_simp; exact HK.out _ _ rfl (Below.refl _ _)
  · intro ts W hb hB hp; have h2 : ts 2 = _ := hp 2 (by kernel_rfl); intro K hK; simp only [fillT, Nat.zero_add, Nat.reduceAdd, List.setIfInBounds_toArray, List.set_cons_zero, List.set_cons_succ, h2] at hK ⊢; have HK := Lib.hid hK; clear hK hp; obtain ⟨f0, f1, -, -⟩ := bx2 ((hb.block _ z10).trans X10); refine ⟨?_⟩; go_simp; exact HK.out _ _ rfl (Below.refl _ _)
  · intro ts W hb hB hp; intro K hK; simp only [fillT, Nat.zero_add, Nat.reduceAdd, List.setIfInBounds_toArray, List.set_cons_zero, List.set_cons_succ] at hK ⊢; have HK := Lib.hid hK; clear hK hp; refine ⟨?_⟩; go_simp; exact HK.out _ _ rfl (Below.refl _ _)
  · intro ts W hb hB hp; have h4 : ts 4 = _ := hp 4 (by kernel_rfl); intro K hK; simp only [fillT, Nat.zero_add, Nat.reduceAdd, List.setIfInBounds_toArray, List.set_cons_zero, List.set_cons_succ, h4] at hK ⊢; have HK := Lib.hid hK; clear hK hp; refine ⟨?_⟩; go_simp; exact HK.out _ _ (by simp [kIs, HS.out]) (Below.refl _ _)
  · intro ts W hb hB hp; have h3 : ts 3 = _ := hp 3 (by kernel_rfl); have h5 : ts 5 = _ := hp 5 (by kernel_rfl); intro K hK; simp only [fillT, Nat.zero_add, Nat.reduceAdd, List.setIfInBounds_toArray, List.set_cons_zero, List.set_cons_succ, h3, h5] at hK ⊢; have HK := Lib.hid hK; clear hK hp; refine ⟨?_⟩; go_simp; refine (HSH.out W _ (IsNat.below H1 hb)).mono ?_; rintro e W9 ⟨r9, rfl, hr9, hb9⟩; exact HK.out _ _ hr9 hb9
  · intro ts W hb hB hp; have h1 : ts 1 = _ := hp 1 (by kernel_rfl); have h6 := hp 6 (by kernel_rfl); intro K hK; simp only [fillT, Nat.zero_add, Nat.reduceAdd, List.setIfInBounds_toArray, List.set_cons_zero, List.set_cons_succ, h1] at hK ⊢; have HK := Lib.hid hK; clear hK hp; refine ⟨?_⟩; go_simp; refine (HSG.out W _ h6).mono ?_; rintro e W9 ⟨r9, rfl, hr9, hb9⟩; exact HK.out _ _ hr9 hb9
  · intro ts W hb hB hp; intro K hK; simp only [fillT, Nat.zero_add, Nat.reduceAdd, List.setIfInBounds_toArray, List.set_cons_zero, List.set_cons_succ] at hK ⊢; have HK := Lib.hid hK; clear hK hp; refine ⟨?_⟩; go_simp; exact HK.out _ _ rfl (Below.refl _ _)
  · intro ts W hb hB hp; intro K hK; simp only [fillT, Nat.zero_add, Nat.reduceAdd, List.setIfInBounds_toArray, List.set_cons_zero, List.set_cons_succ] at hK ⊢; have HK := Lib.hid hK; clear hK hp; refine ⟨?_⟩; exact wp_buildSlice rfl (by simp [Act.eval]) (one_run W) (HK.out _ _ (oneNat W) (below_alloc _ _))
  · intro ts W hb hB hp; have h7 := hp 7 (by kernel_rfl); have h8 : ts 8 = _ := hp 8 (by kernel_rfl); have h9 := hp 9 (by kernel_rfl); intro K hK; have i7 := h7; have i9 := h9; obtain ⟨A7, m7, c7, e7, -⟩ := IsRI.parts i7; obtain ⟨A8, m8, c8, e8, -⟩ := IsNat.ex i9; rw [e7] at i7; rw [e8] at i9; simp only [fillT, Nat.zero_add, Nat.reduceAdd, List.setIfInBounds_toArray, List.set_cons_zero, List.set_cons_succ, h8, e7, e8] at hK ⊢; have HK := Lib.hid hK; clear hK hp; refine ⟨?_⟩; go_simp; exact HK.out _ _ (IsQ.mk HL.out i7 (IsRI.zero _ _ _) i9) (Below.refl _ _)
  intro ts W2 hb2 hh hap K hK
  have hq : IsQ W2 (ts 10) (dy b) := hh 10 (by simp)
  obtain ⟨A9, n9, c9, p9, A9b, n9b, c9b, p9b, A9c, n9c, c9c, qa, qb, qd, hqe, -⟩ := hq.parts
  have Y0 := (hb2.block (w.heap.size) (by omega)).trans X0
  have HK := Lib.hid hK
  clear hK
  simp only [fillT, Nat.zero_add, Nat.reduceAdd, List.setIfInBounds_toArray, List.set_cons_zero, List.set_cons_succ, hqe]
  rw [hqe] at hq
  clear hh hap hqe
  refine ⟨?_⟩
  refine wp_store_row _ _ _ rfl (w.heap.size) _ rfl rfl _ _ Y0 (by kernel_rfl) rfl (by simp [Value.oneCell']) (HK.out _ _ ?_)
  have hput := putAt_setRow (cs := #[.bool p9, .slice A9 n9 c9, .bool p9b, .slice A9b n9b c9b, .slice A9c n9c c9c]) Y0
  have hext := hput.ext Y0 (by decide)
  have B2 := hput.below (below_trans B1 hb2) (by omega)
  generalize W2.setRow (w.heap.size) #[.bool p9, .slice A9 n9 c9, .bool p9b, .slice A9b n9b c9b, .slice A9c n9c c9c] = W3 at *
  have h5 := hq.ext hext
  obtain ⟨f0, f1, f2, f3, f4, y0, y1, y2, y3, y4⟩ := bx5 hput.here
  clear hput hext hq Y0 HK
  go_wp2
  refine bodyPost_ret (v := .agg #[.bool p9, .slice A9 n9 c9, .bool p9b, .slice A9b n9b c9b, .slice A9c n9c c9c]) (by simp [results, Tryz.results83, go_sem, f0, f1, f2, f3, f4]) rfl ?_
  exact ⟨_, rfl, h5, B2⟩
theorem rdyadic_any (b : Nat) (w : World) (hb : b < 18446744073709551616) (hx : fx b ≠ 2047) : Calls Tryz.prog 83 #[.float .f64 b] w (RetQ w (dy b)) := by
  have hul : fup b ≤ 2045 := by have := fx_lt b; unfold fup; omega
  rcases Nat.eq_zero_or_pos (fx b) with h0 | h0
  · exact dyadic_sub b 1074 w hb hx h0 (by unfold fup; omega)
  · rcases Nat.lt_or_ge (fup b) 1074 with h1 | h1
    · exact dyadic_small b (1074 - fup b) w hb hx h0 ⟨by omega, by omega⟩
    · exact dyadic_big b (fup b - 1074) w hb hx h0 (by omega)
end Go.Proofs.YtphlmmjlpbledaaGreatDoor
