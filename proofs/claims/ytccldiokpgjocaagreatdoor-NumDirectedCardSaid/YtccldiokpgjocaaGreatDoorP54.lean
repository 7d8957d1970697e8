/-
  What is proved: for all numbers given as plain data and all exponents, the law NumDirected returns true (the real part lies between Below and Above, which are equal exactly if it is a float64, and otherwise neighbours), and its arguments read afterwards as before.
  Conditions: those of the given card alone: the tables math/bits.deBruijn32tab and math/bits.deBruijn64tab lie as the program's text lays them (the card ties them).
-/
import Derived.Test.YtccldiokpgjocaaGreatDoorP28
import Derived.Test.YtccldiokpgjocaaGreatDoorP44
import Derived.Test.YtccldiokpgjocaaGreatDoorP45
import Derived.Test.YtccldiokpgjocaaGreatDoorP48
import Derived.Test.YtccldiokpgjocaaGreatDoorP51
set_option linter.unusedSimpArgs false
set_option linter.unusedVariables false
namespace Go.Proofs.YtccldiokpgjocaaGreatDoor
open Go.RowKit
set_option maxRecDepth 100000
theorem bc5 {W : World} {g : Nat} {T : TypeId} {v0 v1 v2 v3 v4 : Value} (h : W.heap[g]? = some (.cells #[v0, v1, v2, v3, v4] T (0, 0))) :
    W.cell? ⟨g, 0, none⟩ = some v0 ∧ W.cell? ⟨g, 1, none⟩ = some v1 ∧ W.cell? ⟨g, 2, none⟩ = some v2 ∧ W.cell? ⟨g, 3, none⟩ = some v3 ∧ W.cell? ⟨g, 4, none⟩ = some v4 := by
  simp [World.cell?, h]
theorem nz_zero : (0 : Nat) < 18446744073709551616 := by omega
set_option maxHeartbeats 4000000 in
theorem numDirected_walk (w : World) (p q r s : Int) (hp : -9223372036854775808 ≤ p) (hp' : p < 9223372036854775808) (hq : -9223372036854775808 ≤ q) (hq' : q < 9223372036854775808) (hr : -9223372036854775808 ≤ r) (hr' : r < 9223372036854775808) (hs : -32768 ≤ s) (hs' : s < 32768) (hT : Tab w) (hT6 : Tab64 w) :
    Calls Tryz.prog 4 #[.agg #[.int .i64 p, .int .i64 q, .int .i64 r], .int .i16 s] w fun e w' => e = .returned (.bool true) ∧ Below w.heap.size w w' := by
  have HSC := hid (fun W (hb : Below w.heap.size w W) => scaledL_any p q r s W hp hp' hq hq' hr hr' hs hs' (hT.below hb))
  have HT := hid hT
  have HT6 := hid hT6
  clear hp hp' hq hq' hr hr' hs hs' hT hT6
  go_enter Tryz.func4, Tryz.ntmps4
  go_wp2_with fail
  refine (HSC.out _ bel).mono ?_
  rintro e W2 ⟨x, v, u, hx, rfl, hv, hu, hb2⟩
  obtain ⟨A1, n1, c1, p1, A1b, n1b, c1b, p1b, A1c, n1c, c1c, a, b, d, rfl, hl, -⟩ := hv.parts
  obtain ⟨A2, n2, c2, p2, A2b, n2b, c2b, p2b, A2c, n2c, c2c, a2, b2, d2, rfl, -⟩ := hu.parts
  have HX := hid hx
  have HV := hid hv
  have HL := hid hl
  have B2 : Below w.heap.size w W2 := below_trans (below_alloc _ _) hb2
  clear hx hv hu hl HSC hb2
  go_upto_region 2 with fail
  obtain ⟨W3, hW3⟩ : ∃ W3 : World, W3 = (W2.alloc (.cells #[.slice A1 n1 c1, .bool p1, .slice A1b n1b c1b, .bool p1b, .slice A1c n1c c1c] 30)).alloc (.cells #[.bool p2, .slice A2 n2 c2, .bool p2b, .slice A2b n2b c2b, .slice A2c n2c c2c] 34) := ⟨_, rfl⟩
  rw [← hW3]
  have D3 : Below W2.heap.size W2 W3 := by rw [hW3]; exact bel
  have z5 : W2.heap.size < W3.heap.size := by rw [hW3]; simp <;> omega
  have X5 : W3.heap[W2.heap.size]? = some (.cells #[.slice A1 n1 c1, .bool p1, .slice A1b n1b c1b, .bool p1b, .slice A1c n1c c1c] 30 (0, 0)) := by
    rw [hW3]
    rw [Below.heap_alloc _ _ _ (by simp <;> omega)]
    exact heap_alloc_new _ _
  have HV3 := hid (HV.out.below D3)
  have B3 := below_trans B2 D3
  clear hW3 HV D3 B2
  obtain ⟨f0, f1, f2, f3, f4⟩ := bc5 X5
  go_wp2_with fail
  refine (reN_any _ x W3 HV3.out (HT.out.below B3) 20000 HX.out (by omega)).mono ?_
  rintro e W4 ⟨v4, rfl, hn4, hb4⟩
  obtain ⟨A7, n7, c7, p7, A7b, n7b, c7b, p7b, A7c, n7c, c7c, a7, b7, d7, rfl, -⟩ := hn4.parts
  have B4 := below_trans B3 hb4
  have HN4 := hid hn4
  clear hn4 f0 f1 f2 f3 f4
  go_upto_region 3 with fail
  obtain ⟨W5, hW5⟩ : ∃ W5 : World, W5 = W4.alloc (.cells #[.slice A7 n7 c7, .bool p7, .slice A7b n7b c7b, .bool p7b, .slice A7c n7c c7c] 30) := ⟨_, rfl⟩
  rw [← hW5]
  have D5 : Below W4.heap.size W4 W5 := by rw [hW5]; exact below_alloc _ _
  have z7 : W4.heap.size < W5.heap.size := by rw [hW5]; simp
  have X7 : W5.heap[W4.heap.size]? = some (.cells #[.slice A7 n7 c7, .bool p7, .slice A7b n7b c7b, .bool p7b, .slice A7c n7c c7c] 30 (0, 0)) := by rw [hW5]; exact heap_alloc_new _ _
  have K7 := hid (fun W (hb : Below W5.heap.size W5 W) => bc5 ((hb.block _ z7).trans X7))
  have KN7 := hid (fun W (hb : Below W5.heap.size W5 W) => (HN4.out.below D5).below hb)
  replace X5 := ((below_trans hb4 D5).block _ z5).trans X5
  replace z5 : W2.heap.size < W5.heap.size := Nat.lt_of_lt_of_le z5 (below_trans hb4 D5).size
  have HV5 := hid (HV3.out.below (below_trans hb4 D5))
  have B5 := below_trans B4 D5
  clear hW5 X7 z7 D5 HN4 HV3 B4 hb4 B3
  obtain ⟨ha9, hb9, hd9⟩ := HX.out a b d HL.out
  have AR := around_of a HL.out.pos
  have HBL := hid (fun W (hb : Below W5.heap.size W5 W) => belowN_any _ x a b d W (HV5.out.below hb) HL.out (by omega) (by omega))
  have HBH := hid (fun W (hb : Below W5.heap.size W5 W) => aboveN_any _ x a b d W (HV5.out.below hb) HL.out (by omega) (by omega))
  generalize rdB64 a d (if a < 0 then 1 else 0) = L at *
  generalize rdB64 a d (if a < 0 then 0 else 1) = H at *
  clear ha9 hb9 hd9
  refine region_lin [.val (kIs (.agg #[.slice A1 n1 c1, .bool p1, .slice A1b n1b c1b, .bool p1b, .slice A1c n1c c1c])), .val (kIs (.float .f64 L)), .val (kIs (.agg #[.slice A1 n1 c1, .bool p1, .slice A1b n1b c1b, .bool p1b, .slice A1c n1c c1c])), .val (kIs (.float .f64 H)), .val (kIs (.float .f64 L)), .val (kIs (.float .f64 H))]
    (by kernel_rfl) (by kernel_rfl) (by kernel_rfl) (by kernel_rfl) (by kernel_rfl) ⟨Stab.b (stab_is _), Stab.b (stab_is _), Stab.b (stab_is _), Stab.b (stab_is _), Stab.b (stab_is _), Stab.b (stab_is _), trivial⟩ (by simp) ⟨?_, ?_, ?_, ?_, ?_, ?_, trivial⟩ ?_
  · intro ts W hb hB hp; intro K hK; simp only [fillT, Nat.zero_add, Nat.reduceAdd, sA, sB, sC] at hK ⊢; have HK := hid hK; clear hK hp; obtain ⟨f0, f1, f2, f3, f4⟩ := bc5 ((hb.block _ z5).trans X5); refine ⟨?_⟩; go_simp; exact HK.out _ _ rfl rfB
  · intro ts W hb hB hp; have h0 : ts 0 = _ := hp 0 (by kernel_rfl); intro K hK; simp only [fillT, Nat.zero_add, Nat.reduceAdd, sA, sB, sC, h0] at hK ⊢; have HK := hid hK; clear hK hp; refine ⟨?_⟩; go_simp; refine (HBL.out W hb).mono ?_; rintro e W9 ⟨rfl, hb9⟩; exact HK.out _ _ rfl hb9
  · intro ts W hb hB hp; intro K hK; simp only [fillT, Nat.zero_add, Nat.reduceAdd, sA, sB, sC] at hK ⊢; have HK := hid hK; clear hK hp; obtain ⟨f0, f1, f2, f3, f4⟩ := bc5 ((hb.block _ z5).trans X5); refine ⟨?_⟩; go_simp; exact HK.out _ _ rfl rfB
  · intro ts W hb hB hp; have h2 : ts 2 = _ := hp 2 (by kernel_rfl); intro K hK; simp only [fillT, Nat.zero_add, Nat.reduceAdd, sA, sB, sC, h2] at hK ⊢; have HK := hid hK; clear hK hp; refine ⟨?_⟩; go_simp; refine (HBH.out W hb).mono ?_; rintro e W9 ⟨rfl, hb9⟩; exact HK.out _ _ rfl hb9
  · intro ts W hb hB hp; have h1 : ts 1 = _ := hp 1 (by kernel_rfl); intro K hK; simp only [fillT, Nat.zero_add, Nat.reduceAdd, sA, sB, sC, h1] at hK ⊢; have HK := hid hK; clear hK hp; refine ⟨?_⟩; go_simp; exact HK.out _ _ rfl rfB
  · intro ts W hb hB hp; have h3 : ts 3 = _ := hp 3 (by kernel_rfl); intro K hK; simp only [fillT, Nat.zero_add, Nat.reduceAdd, sA, sB, sC, h3] at hK ⊢; have HK := hid hK; clear hK hp; refine ⟨?_⟩; go_simp; exact HK.out _ _ rfl rfB
  intro ts W2 hb2 hh hap
  have e4 := held_is (hh 4 (by simp)) rfl
  have e5 := held_is (hh 5 (by simp)) rfl
  simp only [fillT, Nat.zero_add, Nat.reduceAdd, sA, sB, sC, e4, e5]
  clear hh hap e4 e5
  generalize ts 0 = u0_W2 at *
  generalize ts 1 = u1_W2 at *
  generalize ts 2 = u2_W2 at *
  generalize ts 3 = u3_W2 at *
  clear ts
  clear HBL HBH HV5 X5 z5
  have B6 := hb2
  have HCLg := hid (fun (hx : fx L ≠ 2047) W (hb : Below W5.heap.size W5 W) => complex_good L 0 W AR.l64 nz_zero (HT6.out.below (below_trans B5 hb)) hx (by decide))
  have HCLb := hid (fun (hx : fx L = 2047) W (hb : Below W5.heap.size W5 W) => complex_bad L 0 W AR.l64 nz_zero (HT6.out.below (below_trans B5 hb)) (.inl hx))
  have HCHg := hid (fun (hx : fx H ≠ 2047) W (hb : Below W5.heap.size W5 W) => complex_good H 0 W AR.h64 nz_zero (HT6.out.below (below_trans B5 hb)) hx (by decide))
  have HCHb := hid (fun (hx : fx H = 2047) W (hb : Below W5.heap.size W5 W) => complex_bad H 0 W AR.h64 nz_zero (HT6.out.below (below_trans B5 hb)) (.inl hx))
  have HDLg := hid (fun (hx : fx L ≠ 2047) => dir_low HL.out (AR.low hx))
  have HDHg := hid (fun (hx : fx H ≠ 2047) => dir_high HL.out (AR.high hx))
  have HSTEP := hid AR.step
  have HLI := hid AR.lowI
  have HHI := hid AR.highI
  have HL64 := hid AR.l64
  clear AR HT6 hb2
  by_cases xl : fx L = 2047
  · obtain rfl := HLI.out xl
    have hst : ¬ (18442240474082181120 = H ∧ fx 18442240474082181120 ≠ 2047 ∧ IsF 18442240474082181120 a d) := fun h => h.2.1 (by decide)
    obtain ⟨oe, N, on, hN⟩ := nextafter_any (HSTEP.out.resolve_left hst)
    have xh : fx H ≠ 2047 := by
      rcases HSTEP.out with h | h | ⟨m, h1, h2, h3⟩
      · exact absurd h hst
      · omega
      · rw [h3]
        split
        · decide
        · exact fx_fin' h1
    have HCL := hid (HCLb.out xl)
    have HCH := hid (HCHg.out xh)
    have HDH := hid (HDHg.out xh)
    have HOE := hid oe
    have HON := hid on
    have HNX := hid hN
    clear HCLb HCLg HCHb HCHg HDLg HDHg HSTEP HLI HHI HL64 xl xh oe on hN hst
    go_wp2_with fail
    refine (HCL.out _ bel).mono ?_
    rintro e W10 ⟨v10, rfl, hn10, hb10⟩
    have B10 : Below W5.heap.size W5 W10 := below_trans B6 hb10
    obtain ⟨A10, n10, c10, p10, A10b, n10b, c10b, p10b, A10c, n10c, c10c, a10, b10, d10, rfl, -⟩ := hn10.parts
    have HN10 := hid hn10
    clear hn10
    go_upto_region 5 with fail
    obtain ⟨V10, hV10⟩ : ∃ V : World, V = W10.alloc (.cells #[.slice A10 n10 c10, .bool p10, .slice A10b n10b c10b, .bool p10b, .slice A10c n10c c10c] 30) := ⟨_, rfl⟩
    rw [← hV10]
    have D10 : Below W10.heap.size W10 V10 := by rw [hV10]; exact below_alloc _ _
    have E10 := below_trans B10 D10
    have X10 : V10.heap[W10.heap.size]? = some (.cells #[.slice A10 n10 c10, .bool p10, .slice A10b n10b c10b, .bool p10b, .slice A10c n10c c10c] 30 (0, 0)) := by rw [hV10]; exact heap_alloc_new _ _
    have KN10 := hid (HN10.out.below D10)
    clear hV10 HN10
    clear X10
    go_wp2_with fail
    refine (isInf_neg _).mono ?_
    rintro e Wz ⟨rfl, rfl⟩
    go_wp2_with fail
    refine (HCH.out _ bel).mono ?_
    rintro e W12 ⟨v12, rfl, hn12, hb12⟩
    have B12 : Below W5.heap.size W5 W12 := below_trans E10 hb12
    obtain ⟨A12, n12, c12, p12, A12b, n12b, c12b, p12b, A12c, n12c, c12c, a12, b12, d12, rfl, -⟩ := hn12.parts
    have HN12 := hid hn12
    clear hn12
    go_upto_region 8 with fail
    obtain ⟨V12, hV12⟩ : ∃ V : World, V = W12.alloc (.cells #[.slice A12 n12 c12, .bool p12, .slice A12b n12b c12b, .bool p12b, .slice A12c n12c c12c] 30) := ⟨_, rfl⟩
    rw [← hV12]
    have D12 : Below W12.heap.size W12 V12 := by rw [hV12]; exact below_alloc _ _
    have E12 := below_trans B12 D12
    have X12 : V12.heap[W12.heap.size]? = some (.cells #[.slice A12 n12 c12, .bool p12, .slice A12b n12b c12b, .bool p12b, .slice A12c n12c c12c] 30 (0, 0)) := by rw [hV12]; exact heap_alloc_new _ _
    have KN12 := hid (HN12.out.below D12)
    clear hV12 HN12
    obtain ⟨f0, f1, f2, f3, f4⟩ := K7.out _ E12
    obtain ⟨g0, g1, g2, g3, g4⟩ := bc5 X12
    go_wp2_with fail
    refine (cmpN_any' _ _ (cf H 0) x.real V12 KN12.out (KN7.out _ E12) 67 20000 (cf_sz _ _) (Sz.real HX.out) (by omega)).mono ?_
    rintro e Wc12 ⟨rfl, hbc12⟩
    have Ec12 := below_trans E12 hbc12
    clear f0 f1 f2 f3 f4 g0 g1 g2 g3 g4 X12 hbc12
    have hk12 := HDH.out
    obtain ⟨k12, ek12⟩ : ∃ k, k = cmpC (cf H 0) x.real := ⟨_, rfl⟩
    rw [← ek12] at hk12 ⊢
    clear ek12
    have oeq := HOE.out
    go_wp2_with fail
    refine (inf_one _).mono ?_
    rintro e Wy ⟨rfl, rfl⟩
    go_wp2_with fail
    refine (HNX.out _).mono ?_
    rintro e Wy ⟨rfl, rfl⟩
    have one := HON.out
    go_wp2_with fail
    refine (awake_any _ (HT.out.below (below_trans B5 Ec12))).mono ?_
    rintro e W16 ⟨rfl, hb16⟩
    go_wp2
    go_ret
    exact ⟨rfl, below_trans (below_trans B5 Ec12) hb16⟩
  · by_cases xh : fx H = 2047
    · obtain rfl := HHI.out xh
      have hst : ¬ (L = 9218868437227405312 ∧ fx L ≠ 2047 ∧ IsF L a d) := fun h => by
        rw [h.1] at xl
        exact xl (by decide)
      obtain ⟨oe, N, on, hN⟩ := nextafter_any (HSTEP.out.resolve_left hst)
      have HCL := hid (HCLg.out xl)
      have HCH := hid (HCHb.out xh)
      have HDL := hid (HDLg.out xl)
      have HOE := hid oe
      have HON := hid on
      have HNX := hid hN
      clear HCLb HCLg HCHb HCHg HDLg HDHg HSTEP HLI HHI HL64 xl xh oe on hN hst
      go_wp2_with fail
      refine (HCL.out _ bel).mono ?_
      rintro e W10 ⟨v10, rfl, hn10, hb10⟩
      have B10 : Below W5.heap.size W5 W10 := below_trans B6 hb10
      obtain ⟨A10, n10, c10, p10, A10b, n10b, c10b, p10b, A10c, n10c, c10c, a10, b10, d10, rfl, -⟩ := hn10.parts
      have HN10 := hid hn10
      clear hn10
      go_upto_region 5 with fail
      obtain ⟨V10, hV10⟩ : ∃ V : World, V = W10.alloc (.cells #[.slice A10 n10 c10, .bool p10, .slice A10b n10b c10b, .bool p10b, .slice A10c n10c c10c] 30) := ⟨_, rfl⟩
      rw [← hV10]
      have D10 : Below W10.heap.size W10 V10 := by rw [hV10]; exact below_alloc _ _
      have E10 := below_trans B10 D10
      have X10 : V10.heap[W10.heap.size]? = some (.cells #[.slice A10 n10 c10, .bool p10, .slice A10b n10b c10b, .bool p10b, .slice A10c n10c c10c] 30 (0, 0)) := by rw [hV10]; exact heap_alloc_new _ _
      have KN10 := hid (HN10.out.below D10)
      clear hV10 HN10
      obtain ⟨f0, f1, f2, f3, f4⟩ := K7.out _ E10
      obtain ⟨g0, g1, g2, g3, g4⟩ := bc5 X10
      go_wp2_with fail
      refine (cmpN_any' _ _ (cf L 0) x.real V10 KN10.out (KN7.out _ E10) 67 20000 (cf_sz _ _) (Sz.real HX.out) (by omega)).mono ?_
      rintro e Wc10 ⟨rfl, hbc10⟩
      have Ec10 := below_trans E10 hbc10
      clear f0 f1 f2 f3 f4 g0 g1 g2 g3 g4 X10 hbc10
      have hk10 := HDL.out
      obtain ⟨k10, ek10⟩ : ∃ k, k = cmpC (cf L 0) x.real := ⟨_, rfl⟩
      rw [← ek10] at hk10 ⊢
      clear ek10
      go_wp2_with fail
      refine (HCH.out _ bel).mono ?_
      rintro e W12 ⟨v12, rfl, hn12, hb12⟩
      have B12 : Below W5.heap.size W5 W12 := below_trans Ec10 hb12
      obtain ⟨A12, n12, c12, p12, A12b, n12b, c12b, p12b, A12c, n12c, c12c, a12, b12, d12, rfl, -⟩ := hn12.parts
      have HN12 := hid hn12
      clear hn12
      go_upto_region 8 with fail
      obtain ⟨V12, hV12⟩ : ∃ V : World, V = W12.alloc (.cells #[.slice A12 n12 c12, .bool p12, .slice A12b n12b c12b, .bool p12b, .slice A12c n12c c12c] 30) := ⟨_, rfl⟩
      rw [← hV12]
      have D12 : Below W12.heap.size W12 V12 := by rw [hV12]; exact below_alloc _ _
      have E12 := below_trans B12 D12
      have X12 : V12.heap[W12.heap.size]? = some (.cells #[.slice A12 n12 c12, .bool p12, .slice A12b n12b c12b, .bool p12b, .slice A12c n12c c12c] 30 (0, 0)) := by rw [hV12]; exact heap_alloc_new _ _
      have KN12 := hid (HN12.out.below D12)
      clear hV12 HN12
      clear X12
      go_wp2_with fail
      refine (isInf_pos _).mono ?_
      rintro e Wz ⟨rfl, rfl⟩
      have oeq := HOE.out
      go_wp2_with fail
      refine (inf_one _).mono ?_
      rintro e Wy ⟨rfl, rfl⟩
      go_wp2_with fail
      refine (HNX.out _).mono ?_
      rintro e Wy ⟨rfl, rfl⟩
      have one := HON.out
      go_wp2_with fail
      refine (awake_any _ (HT.out.below (below_trans B5 E12))).mono ?_
      rintro e W16 ⟨rfl, hb16⟩
      go_wp2
      go_ret
      exact ⟨rfl, below_trans (below_trans B5 E12) hb16⟩
    · have HCL := hid (HCLg.out xl)
      have HCH := hid (HCHg.out xh)
      have HDL := hid (HDLg.out xl)
      have HDH := hid (HDHg.out xh)
      rcases HSTEP.out with ⟨rfl, -, hF⟩ | h
      · have HOE := hid (show (FloatKind.f64.format.order L L == some Ordering.eq) = true by rw [ord_self HL64.out xl]; rfl)
        have HSM := hid (dir_same HL.out hF)
        clear HCLb HCLg HCHb HCHg HDLg HDHg HSTEP HLI HHI HL64 xl xh hF
        go_wp2_with fail
        refine (HCL.out _ bel).mono ?_
        rintro e W10 ⟨v10, rfl, hn10, hb10⟩
        have B10 : Below W5.heap.size W5 W10 := below_trans B6 hb10
        obtain ⟨A10, n10, c10, p10, A10b, n10b, c10b, p10b, A10c, n10c, c10c, a10, b10, d10, rfl, -⟩ := hn10.parts
        have HN10 := hid hn10
        clear hn10
        go_upto_region 5 with fail
        obtain ⟨V10, hV10⟩ : ∃ V : World, V = W10.alloc (.cells #[.slice A10 n10 c10, .bool p10, .slice A10b n10b c10b, .bool p10b, .slice A10c n10c c10c] 30) := ⟨_, rfl⟩
        rw [← hV10]
        have D10 : Below W10.heap.size W10 V10 := by rw [hV10]; exact below_alloc _ _
        have E10 := below_trans B10 D10
        have X10 : V10.heap[W10.heap.size]? = some (.cells #[.slice A10 n10 c10, .bool p10, .slice A10b n10b c10b, .bool p10b, .slice A10c n10c c10c] 30 (0, 0)) := by rw [hV10]; exact heap_alloc_new _ _
        have KN10 := hid (HN10.out.below D10)
        clear hV10 HN10
        obtain ⟨f0, f1, f2, f3, f4⟩ := K7.out _ E10
        obtain ⟨g0, g1, g2, g3, g4⟩ := bc5 X10
        go_wp2_with fail
        refine (cmpN_any' _ _ (cf L 0) x.real V10 KN10.out (KN7.out _ E10) 67 20000 (cf_sz _ _) (Sz.real HX.out) (by omega)).mono ?_
        rintro e Wc10 ⟨rfl, hbc10⟩
        have Ec10 := below_trans E10 hbc10
        clear f0 f1 f2 f3 f4 g0 g1 g2 g3 g4 X10 hbc10
        have hk10 := HDL.out
        obtain ⟨k10, ek10⟩ : ∃ k, k = cmpC (cf L 0) x.real := ⟨_, rfl⟩
        rw [← ek10] at hk10 ⊢
        clear ek10
        go_wp2_with fail
        refine (HCH.out _ bel).mono ?_
        rintro e W12 ⟨v12, rfl, hn12, hb12⟩
        have B12 : Below W5.heap.size W5 W12 := below_trans Ec10 hb12
        obtain ⟨A12, n12, c12, p12, A12b, n12b, c12b, p12b, A12c, n12c, c12c, a12, b12, d12, rfl, -⟩ := hn12.parts
        have HN12 := hid hn12
        clear hn12
        go_upto_region 8 with fail
        obtain ⟨V12, hV12⟩ : ∃ V : World, V = W12.alloc (.cells #[.slice A12 n12 c12, .bool p12, .slice A12b n12b c12b, .bool p12b, .slice A12c n12c c12c] 30) := ⟨_, rfl⟩
        rw [← hV12]
        have D12 : Below W12.heap.size W12 V12 := by rw [hV12]; exact below_alloc _ _
        have E12 := below_trans B12 D12
        have X12 : V12.heap[W12.heap.size]? = some (.cells #[.slice A12 n12 c12, .bool p12, .slice A12b n12b c12b, .bool p12b, .slice A12c n12c c12c] 30 (0, 0)) := by rw [hV12]; exact heap_alloc_new _ _
        have KN12 := hid (HN12.out.below D12)
        clear hV12 HN12
        obtain ⟨f0, f1, f2, f3, f4⟩ := K7.out _ E12
        obtain ⟨g0, g1, g2, g3, g4⟩ := bc5 X12
        go_wp2_with fail
        refine (cmpN_any' _ _ (cf L 0) x.real V12 KN12.out (KN7.out _ E12) 67 20000 (cf_sz _ _) (Sz.real HX.out) (by omega)).mono ?_
        rintro e Wc12 ⟨rfl, hbc12⟩
        have Ec12 := below_trans E12 hbc12
        clear f0 f1 f2 f3 f4 g0 g1 g2 g3 g4 X12 hbc12
        have hk12 := HDH.out
        obtain ⟨k12, ek12⟩ : ∃ k, k = cmpC (cf L 0) x.real := ⟨_, rfl⟩
        rw [← ek12] at hk12 ⊢
        clear ek12
        have oeq := HOE.out
        go_wp2_with fail
        refine (HCL.out _ bel).mono ?_
        rintro e W14 ⟨v14, rfl, hn14, hb14⟩
        have B14 : Below W5.heap.size W5 W14 := below_trans Ec12 hb14
        obtain ⟨A14, n14, c14, p14, A14b, n14b, c14b, p14b, A14c, n14c, c14c, a14, b14, d14, rfl, -⟩ := hn14.parts
        have HN14 := hid hn14
        clear hn14
        go_upto_region 12 with fail
        obtain ⟨V14, hV14⟩ : ∃ V : World, V = W14.alloc (.cells #[.slice A14 n14 c14, .bool p14, .slice A14b n14b c14b, .bool p14b, .slice A14c n14c c14c] 30) := ⟨_, rfl⟩
        rw [← hV14]
        have D14 : Below W14.heap.size W14 V14 := by rw [hV14]; exact below_alloc _ _
        have E14 := below_trans B14 D14
        have X14 : V14.heap[W14.heap.size]? = some (.cells #[.slice A14 n14 c14, .bool p14, .slice A14b n14b c14b, .bool p14b, .slice A14c n14c c14c] 30 (0, 0)) := by rw [hV14]; exact heap_alloc_new _ _
        have KN14 := hid (HN14.out.below D14)
        clear hV14 HN14
        obtain ⟨f0, f1, f2, f3, f4⟩ := K7.out _ E14
        obtain ⟨g0, g1, g2, g3, g4⟩ := bc5 X14
        go_wp2_with fail
        refine (sameN_any _ _ (cf L 0) x.real V14 KN14.out (KN7.out _ E14) 20000 ((cf_sz _ _).mono (by omega)) (Sz.real HX.out) (by omega)).mono ?_
        rintro e W15 ⟨rfl, hb15⟩
        have B15 := below_trans E14 hb15
        have hsm := HSM.out
        clear f0 f1 f2 f3 f4 g0 g1 g2 g3 g4 X14 hb15
        go_wp2_with fail
        refine (awake_any _ (HT.out.below (below_trans B5 B15))).mono ?_
        rintro e W16 ⟨rfl, hb16⟩
        go_wp2
        go_ret
        exact ⟨rfl, below_trans (below_trans B5 B15) hb16⟩
      · obtain ⟨oe, N, on, hN⟩ := nextafter_any h
        have HOE := hid oe
        have HON := hid on
        have HNX := hid hN
        clear HCLb HCLg HCHb HCHg HDLg HDHg HSTEP HLI HHI HL64 xl xh oe on hN h
        go_wp2_with fail
        refine (HCL.out _ bel).mono ?_
        rintro e W10 ⟨v10, rfl, hn10, hb10⟩
        have B10 : Below W5.heap.size W5 W10 := below_trans B6 hb10
        obtain ⟨A10, n10, c10, p10, A10b, n10b, c10b, p10b, A10c, n10c, c10c, a10, b10, d10, rfl, -⟩ := hn10.parts
        have HN10 := hid hn10
        clear hn10
        go_upto_region 5 with fail
        obtain ⟨V10, hV10⟩ : ∃ V : World, V = W10.alloc (.cells #[.slice A10 n10 c10, .bool p10, .slice A10b n10b c10b, .bool p10b, .slice A10c n10c c10c] 30) := ⟨_, rfl⟩
        rw [← hV10]
        have D10 : Below W10.heap.size W10 V10 := by rw [hV10]; exact below_alloc _ _
        have E10 := below_trans B10 D10
        have X10 : V10.heap[W10.heap.size]? = some (.cells #[.slice A10 n10 c10, .bool p10, .slice A10b n10b c10b, .bool p10b, .slice A10c n10c c10c] 30 (0, 0)) := by rw [hV10]; exact heap_alloc_new _ _
        have KN10 := hid (HN10.out.below D10)
        clear hV10 HN10
        obtain ⟨f0, f1, f2, f3, f4⟩ := K7.out _ E10
        obtain ⟨g0, g1, g2, g3, g4⟩ := bc5 X10
        go_wp2_with fail
        refine (cmpN_any' _ _ (cf L 0) x.real V10 KN10.out (KN7.out _ E10) 67 20000 (cf_sz _ _) (Sz.real HX.out) (by omega)).mono ?_
        rintro e Wc10 ⟨rfl, hbc10⟩
        have Ec10 := below_trans E10 hbc10
        clear f0 f1 f2 f3 f4 g0 g1 g2 g3 g4 X10 hbc10
        have hk10 := HDL.out
        obtain ⟨k10, ek10⟩ : ∃ k, k = cmpC (cf L 0) x.real := ⟨_, rfl⟩
        rw [← ek10] at hk10 ⊢
        clear ek10
        go_wp2_with fail
        refine (HCH.out _ bel).mono ?_
        rintro e W12 ⟨v12, rfl, hn12, hb12⟩
        have B12 : Below W5.heap.size W5 W12 := below_trans Ec10 hb12
        obtain ⟨A12, n12, c12, p12, A12b, n12b, c12b, p12b, A12c, n12c, c12c, a12, b12, d12, rfl, -⟩ := hn12.parts
        have HN12 := hid hn12
        clear hn12
        go_upto_region 8 with fail
        obtain ⟨V12, hV12⟩ : ∃ V : World, V = W12.alloc (.cells #[.slice A12 n12 c12, .bool p12, .slice A12b n12b c12b, .bool p12b, .slice A12c n12c c12c] 30) := ⟨_, rfl⟩
        rw [← hV12]
        have D12 : Below W12.heap.size W12 V12 := by rw [hV12]; exact below_alloc _ _
        have E12 := below_trans B12 D12
        have X12 : V12.heap[W12.heap.size]? = some (.cells #[.slice A12 n12 c12, .bool p12, .slice A12b n12b c12b, .bool p12b, .slice A12c n12c c12c] 30 (0, 0)) := by rw [hV12]; exact heap_alloc_new _ _
        have KN12 := hid (HN12.out.below D12)
        clear hV12 HN12
        obtain ⟨f0, f1, f2, f3, f4⟩ := K7.out _ E12
        obtain ⟨g0, g1, g2, g3, g4⟩ := bc5 X12
        go_wp2_with fail
        refine (cmpN_any' _ _ (cf H 0) x.real V12 KN12.out (KN7.out _ E12) 67 20000 (cf_sz _ _) (Sz.real HX.out) (by omega)).mono ?_
        rintro e Wc12 ⟨rfl, hbc12⟩
        have Ec12 := below_trans E12 hbc12
        clear f0 f1 f2 f3 f4 g0 g1 g2 g3 g4 X12 hbc12
        have hk12 := HDH.out
        obtain ⟨k12, ek12⟩ : ∃ k, k = cmpC (cf H 0) x.real := ⟨_, rfl⟩
        rw [← ek12] at hk12 ⊢
        clear ek12
        have oeq := HOE.out
        go_wp2_with fail
        refine (inf_one _).mono ?_
        rintro e Wy ⟨rfl, rfl⟩
        go_wp2_with fail
        refine (HNX.out _).mono ?_
        rintro e Wy ⟨rfl, rfl⟩
        have one := HON.out
        go_wp2_with fail
        refine (awake_any _ (HT.out.below (below_trans B5 Ec12))).mono ?_
        rintro e W16 ⟨rfl, hb16⟩
        go_wp2
        go_ret
        exact ⟨rfl, below_trans (below_trans B5 Ec12) hb16⟩
end Go.Proofs.YtccldiokpgjocaaGreatDoor
set_option linter.unusedSimpArgs false
set_option linter.unusedVariables false
namespace Go.Proofs.YtccldiokpgjocaaGreatDoor
open Go Go.ChangeShapes Go.WideShapes Go.ChangeAt Go.WideMaps Go.WideElems Go.RowKit Go.Joins
set_option maxRecDepth 100000
theorem door_met2 (os : Os) (args : Array Value) : laidMetH Tryz.prog [("math/bits.deBruijn32tab", Rows.laid_math_bits_deBruijn32tab), ("math/bits.deBruijn64tab", Rows.laid_math_bits_deBruijn64tab)] ((World.doorLaid Tryz.prog 400 os).forCall (fun _ _ => 0) ⟨#[], args, []⟩).memory :=
  laidMetH_of_parts3 (fuel := 8) (laidMet_of_run' 8 (by kernel_rfl) (by kernel_rfl)) (by kernel_rfl) (by kernel_rfl)
theorem ratio_cells : Tryz.prog.cellsOf 23 = 3 := by kernel_rfl
theorem open_ratio {H : Type} {enc : TypeId × Value → H} {W : World} {base : Nat} {v : Value} {d : DataW H} {p : List MemPlace} {b0 : Nat} (hv : Value.okWide Tryz.prog W .any b0 23 v) (h : DataW.Trod enc Tryz.prog W base (fun _ => true) true 23 v d p) :
    ∃ r i q : Int, v = .agg #[.int .i64 r, .int .i64 i, .int .i64 q] ∧ (-9223372036854775808 ≤ r ∧ r < 9223372036854775808) ∧ (-9223372036854775808 ≤ i ∧ i < 9223372036854775808) ∧ (-9223372036854775808 ≤ q ∧ q < 9223372036854775808) := by
  obtain ⟨c0, c1, c2, y0, y1, y2, m, rfl, -, -, h0, h1, h2⟩ := open_agg3 Tryz.underlying23 (by kernel_rfl) ratio_cells hv h
  obtain ⟨n0, e0, -, w0⟩ := DataW.trod_int Tryz.underlying2 h0
  obtain ⟨n1, e1, -, w1⟩ := DataW.trod_int Tryz.underlying2 h1
  obtain ⟨n2, e2, -, w2⟩ := DataW.trod_int Tryz.underlying2 h2
  simp at e0 e1 e2
  subst e0 e1 e2
  have bd : ∀ n : Int, (Lit.int .i64 n).wf = true → -9223372036854775808 ≤ n ∧ n < 9223372036854775808 := fun n hw => by
    have hw' : (decide (IntKind.i64.min ≤ n) && decide (n ≤ IntKind.i64.max)) = true := hw
    simp only [Bool.and_eq_true] at hw'
    have e1 : IntKind.i64.min = -9223372036854775808 := by decide
    have e2 : IntKind.i64.max = 9223372036854775807 := by decide
    have h1 := of_decide_eq_true hw'.1
    have h2 := of_decide_eq_true hw'.2
    omega
  exact ⟨n0, n1, n2, rfl, bd _ w0, bd _ w1, bd _ w2⟩
theorem open_int16 {H : Type} {enc : TypeId × Value → H} {W : World} {base : Nat} {v : Value} {d : DataW H} {p : List MemPlace} {b0 : Nat} (hv : Value.okWide Tryz.prog W .any b0 24 v) (h : DataW.Trod enc Tryz.prog W base (fun _ => true) true 24 v d p) :
    ∃ n : Int, v = .int .i16 n ∧ -32768 ≤ n ∧ n < 32768 := by
  obtain ⟨z, rfl⟩ := okWide_int Tryz.underlying24 hv
  obtain ⟨fuel, hf⟩ := h
  obtain ⟨n, hn, -, hw⟩ := DataW.trod_int Tryz.underlying24 hf
  simp [Value.cells] at hn
  subst hn
  have hw' : (decide (IntKind.i16.min ≤ z) && decide (z ≤ IntKind.i16.max)) = true := hw
  simp only [Bool.and_eq_true] at hw'
  have e1 : IntKind.i16.min = -32768 := by decide
  have e2 : IntKind.i16.max = 32768 - 1 := by decide
  have h1 := of_decide_eq_true hw'.1
  have h2 := of_decide_eq_true hw'.2
  exact ⟨z, rfl, by omega, by omega⟩
theorem numDirected_lifted (os : Os) (started : os.Started) (H : Type) (enc : TypeId × Value → H) :
    ReturnsInHanded {} Tryz.checked os 4 .any (fun w args => (Rows.numDirectedSpec.pre enc Tryz.prog Tryz.f4 [] false w args ∧ laidMetH Tryz.prog [("math/bits.deBruijn32tab", Rows.laid_math_bits_deBruijn32tab), ("math/bits.deBruijn64tab", Rows.laid_math_bits_deBruijn64tab)] w) ∧ sizedMet enc Tryz.prog Tryz.f4 (OpenSpec.ofChange Rows.numDirectedSpec) false w args)
      (Rows.numDirectedSpec.post enc Tryz.prog Tryz.f4 false true false false) := by
  refine returnsInHanded_of_change_and (C := Tryz.checked) (X := fun w _ => laidMetH Tryz.prog [("math/bits.deBruijn32tab", Rows.laid_math_bits_deBruijn32tab), ("math/bits.deBruijn64tab", Rows.laid_math_bits_deBruijn64tab)] w) (fun _ _ _ hh h => h.of_heap hh) own_knob started (by kernel_rfl) Tryz.func4
    (ChangeSpec.witness_shaped (enc := enc) (C := Tryz.checked) (os := os) (X := fun w _ => laidMetH Tryz.prog [("math/bits.deBruijn32tab", Rows.laid_math_bits_deBruijn32tab), ("math/bits.deBruijn64tab", Rows.laid_math_bits_deBruijn64tab)] w) false (World.doorLaid Tryz.prog 400 os) #[.agg #[.int .i64 0, .int .i64 0, .int .i64 1], .int .i16 0] 8 rfl (World.shaped_of_RefB (by kernel_rfl) (by kernel_rfl)) (by kernel_rfl) (by kernel_rfl) (by kernel_rfl) (door_met2 os _)) ?_
  intro W base args ds gs before hval0 hW _ _ hL _
  have hval : ∀ (j : Nat) t v, Tryz.f4.params[j]? = some t → args[j]? = some v → Value.okWide Tryz.prog W .any base t v := hval0
  have hWW := hW
  obtain ⟨p, q, hA0, hV, rfl, hfz, hnd⟩ := hW
  have hA : DataW.TrodAll enc Tryz.prog W 0 (fun _ => true) true Tryz.f4.params.toList args.toList ds p := hA0
  rw [Tryz.params4] at hA hval
  obtain ⟨v0, v1, d0, d1, q0, q1, rfl, rfl, rfl, h0, h1⟩ := trodAll_two hA
  obtain ⟨a0, b0, c0, rfl, ha0, hb0, hc0⟩ := open_ratio (hval 0 _ _ rfl rfl) h0
  obtain ⟨n1, rfl, hn1, hm1⟩ := open_int16 (hval 1 _ _ rfl rfl) h1
  have hT := tab_of_tabs hL
  have hT6 := tab64_of_tabs hL
  obtain ⟨rfl, rfl⟩ := trodVars_none hV
  refine (numDirected_walk W a0 b0 c0 n1 ha0.1 ha0.2 hb0.1 hb0.2 hc0.1 hc0.2 hn1 hm1 hT hT6).mono fun e W' ⟨he, hb⟩ => ?_
  subst he
  exact ⟨_, rfl, law_post rfl rfl (by kernel_rfl) ⟨rfl, rfl, rfl⟩ hWW hb⟩
theorem numDirected_said : Rows.NumDirectedSaid :=
  OpenClaim.holds_of_wide 4 Tryz.f4 rfl rfl rfl rfl rfl rfl rfl ⟨rfl, rfl, rfl, rfl, rfl⟩ rfl rfl rfl rfl rfl (by kernel_rfl) Tryz.func4 (by kernel_rfl)
    (of_decide_eq_true (by kernel_rfl)) (by unfold Func.isWrapper; first | (rw [if_pos (by decide +kernel)]; kernel_rfl) | (rw [if_neg (by decide +kernel)]; exact ⟨rfl, rfl⟩))
    (fun os started H enc _ => numDirected_lifted os started H enc)
theorem numDirected_holds : Rows.NumDirectedCardSaid :=
  Claim7.holds_tied_plain_at .later [] [.data, .data] true Rows.numDirectedCard.stood.harness false
    numDirected_said (fun _ h => by cases h) (by kernel_rfl) (fun _ h => by cases h) numDirected_row_tie rfl ⟨rfl, rfl⟩ (by kernel_rfl) rfl
    (fun f fn hf hfn => by
      obtain rfl : f = 4 := Option.some.inj ((show Tryz.prog.funcNamed "waveport/waveportlaw01.NumDirected" = some 4 by kernel_rfl).symm.trans hf) |>.symm
      obtain rfl : fn = Tryz.f4 := (Option.some.inj (Tryz.func4.symm.trans hfn)).symm
      exact ⟨by kernel_rfl, fun j t ht => by
        rw [Tryz.params4] at ht
        have hm : t ∈ [23, 24] := by simpa using Array.mem_of_getElem? ht
        have hall : ([23, 24].all fun u => !Tryz.prog.wantsStandIn u) = true := by kernel_rfl
        exact (show Tryz.prog.wantsStandIn t = false by simpa using List.all_eq_true.1 hall t hm)⟩)
    (by kernel_rfl)
end Go.Proofs.YtccldiokpgjocaaGreatDoor
