/-
  What is proved: for all numbers given as plain data and all exponents, the law NumFloor returns true (Floor returns the number of the reference for any number and exponent; its parts are multiples of 2^-k and less than one of them below), and its arguments read afterwards as before.
  Conditions: those of the given card alone: the table math/bits.deBruijn32tab lies as the program's text lays it (the card ties it).
-/
import Derived.Test.YtccldiokpgjocaaGreatDoorP28
import Derived.Test.YtccldiokpgjocaaGreatDoorP30
import Derived.Test.YtccldiokpgjocaaGreatDoorP36
import Derived.Test.YtccldiokpgjocaaGreatDoorP48
import Derived.Test.YtccldiokpgjocaaGreatDoorP53
set_option linter.unusedSimpArgs false
set_option linter.unusedVariables false
namespace Go.Proofs.YtccldiokpgjocaaGreatDoor
open Go.RowKit
set_option maxRecDepth 100000
set_option maxHeartbeats 8000000 in
theorem numFloor_walk (w : World) (p q r s k : Int) (hp : -9223372036854775808 ≤ p) (hp' : p < 9223372036854775808) (hq : -9223372036854775808 ≤ q) (hq' : q < 9223372036854775808) (hr : -9223372036854775808 ≤ r) (hr' : r < 9223372036854775808) (hs : -32768 ≤ s) (hs' : s < 32768) (hT : Tab w) :
    Calls Tryz.prog 5 #[.agg #[.int .i64 p, .int .i64 q, .int .i64 r], .int .i16 s, .int .i64 k] w fun e w' => e = .returned (.bool true) ∧ Below w.heap.size w w' := by
  have HSC := hid (fun W (hb : Below w.heap.size w W) => scaledL_any p q r s W hp hp' hq hq' hr hr' hs hs' (hT.below hb))
  have HT := hid hT
  clear hp hp' hq hq' hr hr' hs hs' hT
  go_enter Tryz.func5, Tryz.ntmps5
  go_wp2_with fail
  refine (HSC.out _ bel).mono ?_
  rintro e W2 ⟨x, v, u, hx, rfl, hv, hu, hb2⟩
  obtain ⟨A7, n7, c7, p7, A7b, n7b, c7b, p7b, A7c, n7c, c7c, a, b, d, rfl, -⟩ := hv.parts
  obtain ⟨A8, n8, c8, p8, A8b, n8b, c8b, p8b, A8c, n8c, c8c, a2, b2, d2, rfl, -⟩ := hu.parts
  have HX := hid hx
  have B2 : Below w.heap.size w W2 := below_trans (below_alloc _ _) hb2
  clear hx HSC hb2
  go_upto_region 2 with fail
  obtain ⟨W3, hW3⟩ : ∃ W3 : World, W3 = (W2.alloc (.cells #[.slice A7 n7 c7, .bool p7, .slice A7b n7b c7b, .bool p7b, .slice A7c n7c c7c] 30)).alloc (.cells #[.bool p8, .slice A8 n8 c8, .bool p8b, .slice A8b n8b c8b, .slice A8c n8c c8c] 34) := ⟨_, rfl⟩
  rw [← hW3]
  have D3 : Below W2.heap.size W2 W3 := by rw [hW3]; exact bel
  have z7 : W2.heap.size < W3.heap.size := by rw [hW3]; simp <;> omega
  have z8 : W2.heap.size + 1 < W3.heap.size := by rw [hW3]; simp <;> omega
  have X7 : W3.heap[W2.heap.size]? = some (.cells #[.slice A7 n7 c7, .bool p7, .slice A7b n7b c7b, .bool p7b, .slice A7c n7c c7c] 30 (0, 0)) := by
    rw [hW3]
    rw [Below.heap_alloc _ _ _ (by simp <;> omega)]
    exact heap_alloc_new _ _
  have X8 : W3.heap[W2.heap.size + 1]? = some (.cells #[.bool p8, .slice A8 n8 c8, .bool p8b, .slice A8b n8b c8b, .slice A8c n8c c8c] 34 (0, 0)) := by
    rw [hW3]
    have := heap_alloc_new (W2.alloc (.cells #[.slice A7 n7 c7, .bool p7, .slice A7b n7b c7b, .bool p7b, .slice A7c n7c c7c] 30)) (.cells #[.bool p8, .slice A8 n8 c8, .bool p8b, .slice A8b n8b c8b, .slice A8c n8c c8c] 34 (0, 0))
    simpa using this
  have N7 := hv.below D3
  have N8 := IsQ.below hu D3
  have B1 := below_trans B2 D3
  clear hW3 hv hu D3 B2
  generalize W2.heap.size = g7 at *
  -- the numbers
  obtain ⟨N, hN, hN64⟩ : ∃ N : Nat, min (max k 0) 64 = (N : Int) ∧ N ≤ 64 := ⟨(min (max k 0) 64).toNat, by omega, by omega⟩
  have hkN : kcl (N : Int) = N := by unfold kcl; omega
  obtain ⟨na, hna⟩ : ∃ na, na = N / 2 := ⟨_, rfl⟩
  obtain ⟨nb, hnb⟩ : ∃ nb, nb = N - N / 2 := ⟨_, rfl⟩
  have hpa := shl_lt (n := na) (by omega)
  have hpb := shl_lt (n := nb) (by omega)
  have HQ := hid (show IntKind.i64.wrap ((N : Int) / 2) = (na : Int) by rw [wrap_sm (by omega) (by omega)]; omega)
  have HNB := hid (show IntKind.i64.wrap ((N : Int) - (na : Int)) = (nb : Int) by rw [wrap_sm (by omega) (by omega)]; omega)
  have HSF := hid (Sz.flr HX.out (kcl k))
  have HSG := hid (Sz.flr HX.out (kcl (N : Int)))
  have hkk : kcl k ≤ 1000 := (kcl_eq k).2
  have HFk := hid (fun W (hb : Below w.heap.size w W) v (h : IsNum W v x) => floorN_any v x k W h 20000 HX.out (by omega) (HT.out.below hb))
  have HRk := hid (fun W v (h : IsQ W v x) => rFloor_any v x k W h 20000 HX.out (by omega))
  have HIs := hid (fun W (hb : Below w.heap.size w W) v u (h : IsNum W v (x.flr (kcl k))) (h' : IsQ W u (x.flr (kcl k))) => is_any v u (x.flr (kcl k)) W h h' (HT.out.below hb) _ HSF.out (by omega))
  obtain ⟨F, hF⟩ : ∃ F, x.flr (kcl k) = F := ⟨_, rfl⟩
  rw [hF] at HFk HRk HIs
  clear hF HSF
  obtain ⟨sa, hsa⟩ : ∃ sa, sa = 2 ^ na := ⟨_, rfl⟩
  obtain ⟨sb, hsb⟩ : ∃ sb, sb = 2 ^ nb := ⟨_, rfl⟩
  have HSA := hid (show IntKind.i64.wrap ((2 : Int) ^ (min na 64)) = (sa : Int) by rw [Nat.min_eq_left (by omega)]; exact shl_one na sa hsa hpa)
  have HSB := hid (show IntKind.i64.wrap ((2 : Int) ^ (min nb 64)) = (sb : Int) by rw [Nat.min_eq_left (by omega)]; exact shl_one nb sb hsb hpb)
  have hOa := fun W (hb : Below w.heap.size w W) => of_any 1 0 (sa : Int) W (by omega) (by omega) (by omega) (by omega) (by omega) (by rw [hsa]; omega) (HT.out.below hb)
  have hOb := fun W (hb : Below w.heap.size w W) => of_any 1 0 (sb : Int) W (by omega) (by omega) (by omega) (by omega) (by omega) (by rw [hsb]; omega) (HT.out.below hb)
  have hza := sz_of (p := 1) (q := 0) (r := (sa : Int)) (by omega) (by omega) (by omega) (by omega) (by omega) (by rw [hsa]; omega)
  have hzb := sz_of (p := 1) (q := 0) (r := (sb : Int)) (by omega) (by omega) (by omega) (by omega) (by omega) (by rw [hsb]; omega)
  have hst := step_eq (N := N) (na := na) (nb := nb) (by omega) hsa hsb
  obtain ⟨Ta, hTa⟩ : ∃ Ta, ofR 1 0 (sa : Int) = Ta := ⟨_, rfl⟩
  obtain ⟨Tb, hTb⟩ : ∃ Tb, ofR 1 0 (sb : Int) = Tb := ⟨_, rfl⟩
  rw [hTa, hTb] at hst
  rw [hTa] at hza hOa
  rw [hTb] at hzb hOb
  have HOa := hid hOa
  have HOb := hid hOb
  have HMl := hid (fun W (hb : Below w.heap.size w W) v u (h : IsNum W v Ta) (h' : IsNum W u Tb) => mulN_any v u Ta Tb W h h' 2 2 hza hzb (by omega) (HT.out.below hb))
  have hzS : Sz (Ta.mul Tb) 5 := Sz.mul hza hzb
  obtain ⟨S, hS⟩ : ∃ S, Ta.mul Tb = S := ⟨_, rfl⟩
  rw [hS] at hst hzS HMl
  have HFg := hid (fun W (hb : Below w.heap.size w W) v (h : IsNum W v x) => floorN_any v x (N : Int) W h 20000 HX.out (by omega) (HT.out.below hb))
  rw [hkN] at HSG HFg
  obtain ⟨c1, c2, c3, c4, c5, c6⟩ := floor_law (x := x) (N := N) hst
  have hzG := HSG.out
  obtain ⟨G, hG⟩ : ∃ G, x.flr N = G := ⟨_, rfl⟩
  rw [hG] at HFg hzG c1 c2 c3 c4 c5
  clear HSG
  have HSb := hid (fun W (hb : Below w.heap.size w W) v u (h : IsNum W v x) (h' : IsNum W u G) => subN_any v u x G W h h' 20000 _ HX.out hzG (by omega) (HT.out.below hb))
  have hzR := Sz.sub HX.out hzG
  have HDv := hid (fun W (hb : Below w.heap.size w W) v u (h : IsNum W v G) (h' : IsNum W u S) => (divN_any v u G S W h h' _ 5 hzG hzS (by omega) (HT.out.below hb)))
  rw [if_neg c6] at HDv
  have hzW := Sz.div hzG hzS
  obtain ⟨R, hR⟩ : ∃ R, x.sub G = R := ⟨_, rfl⟩
  rw [hR] at HSb hzR c1 c2 c3 c4
  obtain ⟨Wh, hWh⟩ : ∃ Wh, G.div S = Wh := ⟨_, rfl⟩
  rw [hWh] at HDv hzW c5
  have HRe := hid (fun W (hb : Below w.heap.size w W) v (h : IsNum W v R) => reN_any v R W h (HT.out.below hb) _ hzR (by omega))
  have HIm := hid (fun W (hb : Below w.heap.size w W) v (h : IsNum W v R) => imN_any v R W h (HT.out.below hb) _ hzR (by omega))
  have HI0 := hid (fun W => int_any 0 W (by omega) (by omega))
  have hz0 : Sz (Cx.int 0) 1 := Sz.int (by decide +kernel) (by omega)
  have HCa := hid (fun W v u (h : IsNum W v R.real) (h' : IsNum W u (Cx.int 0)) => cmpN_any' v u R.real (Cx.int 0) W h h' _ 1 (Sz.real hzR) hz0 (by omega))
  have HCb := hid (fun W v u (h : IsNum W v R.imag) (h' : IsNum W u (Cx.int 0)) => cmpN_any' v u R.imag (Cx.int 0) W h h' _ 1 (Sz.imag hzR) hz0 (by omega))
  have HCc := hid (fun W v u (h : IsNum W v R.real) (h' : IsNum W u S) => cmpN_any' v u R.real S W h h' _ 5 (Sz.real hzR) hzS (by omega))
  have HCd := hid (fun W v u (h : IsNum W v R.imag) (h' : IsNum W u S) => cmpN_any' v u R.imag S W h h' _ 5 (Sz.imag hzR) hzS (by omega))
  generalize cmpC R.real (Cx.int 0) = k1 at c1 HCa
  generalize cmpC R.imag (Cx.int 0) = k2 at c2 HCb
  generalize cmpC R.real S = k3 at c3 HCc
  generalize cmpC R.imag S = k4 at c4 HCd
  have HK1 := hid c1
  have HK2 := hid c2
  have HK3 := hid c3
  have HK4 := hid c4
  have HF0 := hid (fun W (hb : Below w.heap.size w W) v (h : IsNum W v Wh) => (floorN_any v Wh 0 W h _ hzW (by omega) (HT.out.below hb)).mono (R' := RetNum W Wh) fun e w' h => by rw [c5] at h; exact h)
  have HSm := hid (fun W v u (h : IsNum W v Wh) (h' : IsNum W u Wh) => (sameN_any v u Wh Wh W h h' _ hzW hzW (by omega)).mono (R' := fun e w' => e = .returned (.bool true) ∧ Below W.heap.size W w') fun e w' h => by simpa using h)
  clear hst hzS hzR hzW hzG hza hzb hOa hOb c1 c2 c3 c4 c5 c6 hR hWh hG hS hTa hTb hsa hsb hpa hpb hz0 hkN hkk hna hnb
  refine region_lin [.val (kIs (.agg #[.slice A7 n7 c7, .bool p7, .slice A7b n7b c7b, .bool p7b, .slice A7c n7c c7c])), .val (kIs (.int .i64 k)), .val (kNum (F)), .box 30 zNum, .put 3 2]
    (by kernel_rfl) (by kernel_rfl) (by kernel_rfl) (by kernel_rfl) (by kernel_rfl) ⟨stab_is _, stab_is _, stab_num _, trivial⟩ (by simp) ⟨?_, ?_, ?_, alloc_num, store_num _, trivial⟩ ?_
  · intro ts W hb hB hp; intro K hK; simp only [fillT, Nat.zero_add, Nat.reduceAdd, sA, sB, sC] at hK ⊢; refine ⟨?_⟩; refine wp_load_row _ _ rfl (g7) rfl _ _ (0, 0) _ ((hb.block _ (z7)).trans X7) Tryz.underlying30 rfl (by kernel_rfl) ?_; exact hK _ _ rfl rfB
  · exact obp
  · intro ts W hb hB hp; have h0 : ts 0 = _ := hp 0 (by kernel_rfl); have h1 : ts 1 = _ := hp 1 (by kernel_rfl); intro K hK; simp only [fillT, Nat.zero_add, Nat.reduceAdd, sA, sB, sC, h0, h1] at hK ⊢; have HK := hid hK; clear hK hp; refine ⟨?_⟩; go_simp; refine (HFk.out W (below_trans B1 hb) _ (N7.below hb)).mono ?_; rintro e W9 ⟨r9, rfl, hr9, hb9⟩; exact HK.out _ _ hr9 hb9
  intro ts V1 hbq hh hap
  obtain ⟨g9, A9, n9, c9, p9, A9b, n9b, c9b, p9b, A9c, n9c, c9c, e3, lo9, z9, X9, N9⟩ := held_box (x := F) (hh 3 (by simp)) rfl (hh 4 (by simp)) rfl (hh 2 (by simp)) rfl
  simp only [fillT, Nat.zero_add, Nat.reduceAdd, sA, sB, sC, e3]
  clear hh hap e3
  generalize ts 0 = u0_V1 at *
  generalize ts 1 = u1_V1 at *
  generalize ts 2 = u2_V1 at *
  clear ts
  replace X8 := (hbq.block _ z8).trans X8
  replace z8 := Nat.lt_of_lt_of_le z8 hbq.size
  replace N8 := IsQ.below N8 hbq
  replace X7 := (hbq.block _ z7).trans X7
  replace z7 := Nat.lt_of_lt_of_le z7 hbq.size
  replace N7 := N7.below hbq
  replace B1 := below_trans B1 hbq
  clear hbq
  clear lo9
  go_upto_region 3 with fail
  refine region_lin [.val (kIs (.agg #[.slice A9 n9 c9, .bool p9, .slice A9b n9b c9b, .bool p9b, .slice A9c n9c c9c])), .val (kIs (.agg #[.bool p8, .slice A8 n8 c8, .bool p8b, .slice A8b n8b c8b, .slice A8c n8c c8c])), .val (kIs (.int .i64 k)), .val (kQ F), .val (kIs (.bool true)), .val (kIs (.bool false))]
    (by kernel_rfl) (by kernel_rfl) (by kernel_rfl) (by kernel_rfl) (by kernel_rfl) ⟨Stab.b (stab_is _), Stab.b (stab_is _), Stab.b (stab_is _), stabB_q _, Stab.b (stab_is _), Stab.b (stab_is _), trivial⟩ (by simp) ⟨?_, ?_, ?_, ?_, ?_, ?_, trivial⟩ ?_
  · intro ts W hb hB hp; intro K hK; simp only [fillT, Nat.zero_add, Nat.reduceAdd, sA, sB, sC] at hK ⊢; refine ⟨?_⟩; refine wp_load_row _ _ rfl (g9) rfl _ _ (0, 0) _ ((hb.block _ (z9)).trans X9) Tryz.underlying30 rfl (by kernel_rfl) ?_; exact hK _ _ rfl rfB
  · intro ts W hb hB hp; intro K hK; simp only [fillT, Nat.zero_add, Nat.reduceAdd, sA, sB, sC] at hK ⊢; have HK := hid hK; clear hK hp; obtain ⟨f0, f1, f2, f3, f4, -⟩ := bx5 ((hb.block _ z8).trans X8); refine ⟨?_⟩; go_simp; exact HK.out _ _ rfl rfB
  · exact obp
  · intro ts W hb hB hp; have h1 : ts 1 = _ := hp 1 (by kernel_rfl); have h2 : ts 2 = _ := hp 2 (by kernel_rfl); intro K hK; simp only [fillT, Nat.zero_add, Nat.reduceAdd, sA, sB, sC, h1, h2] at hK ⊢; have HK := hid hK; clear hK hp; refine ⟨?_⟩; go_simp; refine (HRk.out W _ (IsQ.below N8 hb)).mono ?_; rintro e W9 ⟨r9, rfl, hr9, hb9⟩; exact HK.out _ _ hr9 hb9
  · intro ts W hb hB hp; have h0 : ts 0 = _ := hp 0 (by kernel_rfl); have h3 := hp 3 (by kernel_rfl); intro K hK; simp only [fillT, Nat.zero_add, Nat.reduceAdd, sA, sB, sC, h0] at hK ⊢; have HK := hid hK; clear hK hp; refine ⟨?_⟩; go_simp; refine (HIs.out W (below_trans B1 hb) _ _ (N9.below hb) h3).mono ?_; rintro e W9 ⟨rfl, hb9⟩; exact HK.out _ _ rfl hb9
  · intro ts W hb hB hp; have h4 : ts 4 = _ := hp 4 (by kernel_rfl); intro K hK; simp only [fillT, Nat.zero_add, Nat.reduceAdd, sA, sB, sC, h4] at hK ⊢; have HK := hid hK; clear hK hp; refine ⟨?_⟩; go_simp; exact HK.out _ _ rfl rfB
  intro ts V2 hbq hh hap
  have e5 := held_is (hh 5 (by simp)) rfl
  simp only [fillT, Nat.zero_add, Nat.reduceAdd, sA, sB, sC, e5]
  clear hh hap e5
  generalize ts 0 = u0_V2 at *
  generalize ts 1 = u1_V2 at *
  generalize ts 2 = u2_V2 at *
  generalize ts 3 = u3_V2 at *
  generalize ts 4 = u4_V2 at *
  clear ts
  clear X8 z8 N8
  replace X7 := (hbq.block _ z7).trans X7
  replace z7 := Nat.lt_of_lt_of_le z7 hbq.size
  replace X9 := (hbq.block _ z9).trans X9
  replace z9 := Nat.lt_of_lt_of_le z9 hbq.size
  replace N7 := N7.below hbq
  replace N9 := N9.below hbq
  replace B1 := below_trans B1 hbq
  clear hbq
  go_upto_region 6 with fail
  refine region_lin [.val (kIs (.int .i64 (N : Int))), .val (kIs (.int .i64 (na : Int))), .val (kIs (.int .i64 (sa : Int))), .val (kIs (.agg #[.int .i64 1, .int .i64 0, .int .i64 (sa : Int)])), .val (kNum (Ta)), .val (kIs (.int .i64 (N : Int))), .val (kIs (.int .i64 (N : Int))), .val (kIs (.int .i64 (na : Int))), .val (kIs (.int .i64 (nb : Int))), .val (kIs (.int .i64 (sb : Int))), .val (kIs (.agg #[.int .i64 1, .int .i64 0, .int .i64 (sb : Int)])), .val (kNum (Tb)), .val (kNum (S)), .box 30 zNum, .put 13 12]
    (by kernel_rfl) (by kernel_rfl) (by kernel_rfl) (by kernel_rfl) (by kernel_rfl) ⟨stab_is _, stab_is _, stab_is _, stab_is _, stab_num _, stab_is _, stab_is _, stab_is _, stab_is _, stab_is _, stab_is _, stab_num _, stab_num _, trivial⟩ (by simp) ⟨?_, ?_, ?_, ?_, ?_, ?_, ?_, ?_, ?_, ?_, ?_, ?_, ?_, alloc_num, store_num _, trivial⟩ ?_
  · exact obp
  · intro ts W hb hB hp; have h0 : ts 0 = _ := hp 0 (by kernel_rfl); intro K hK; simp only [fillT, Nat.zero_add, Nat.reduceAdd, sA, sB, sC, h0] at hK ⊢; have HK := hid hK; clear hK hp; refine ⟨?_⟩; go_simp; exact HK.out _ _ (by simp [kIs, HQ.out]) rfB
  · intro ts W hb hB hp; have h1 : ts 1 = _ := hp 1 (by kernel_rfl); intro K hK; simp only [fillT, Nat.zero_add, Nat.reduceAdd, sA, sB, sC, h1] at hK ⊢; have HK := hid hK; clear hK hp; refine ⟨?_⟩; go_simp; exact HK.out _ _ (by have h := HSA.out; simp [kIs]; exact h) rfB
  · intro ts W hb hB hp; have h2 : ts 2 = _ := hp 2 (by kernel_rfl); intro K hK; simp only [fillT, Nat.zero_add, Nat.reduceAdd, sA, sB, sC, h2] at hK ⊢; have HK := hid hK; clear hK hp; refine ⟨?_⟩; go_simp; exact HK.out _ _ rfl rfB
  · intro ts W hb hB hp; have h3 : ts 3 = _ := hp 3 (by kernel_rfl); intro K hK; simp only [fillT, Nat.zero_add, Nat.reduceAdd, sA, sB, sC, h3] at hK ⊢; have HK := hid hK; clear hK hp; refine ⟨?_⟩; go_simp; refine (HOa.out W (below_trans B1 hb)).mono ?_; rintro e W9 ⟨r9, rfl, hr9, hb9⟩; exact HK.out _ _ hr9 hb9
  · exact obp
  · exact obp
  · intro ts W hb hB hp; have h6 : ts 6 = _ := hp 6 (by kernel_rfl); intro K hK; simp only [fillT, Nat.zero_add, Nat.reduceAdd, sA, sB, sC, h6] at hK ⊢; have HK := hid hK; clear hK hp; refine ⟨?_⟩; go_simp; exact HK.out _ _ (by simp [kIs, HQ.out]) rfB
  · intro ts W hb hB hp; have h5 : ts 5 = _ := hp 5 (by kernel_rfl); have h7 : ts 7 = _ := hp 7 (by kernel_rfl); intro K hK; simp only [fillT, Nat.zero_add, Nat.reduceAdd, sA, sB, sC, h5, h7] at hK ⊢; have HK := hid hK; clear hK hp; refine ⟨?_⟩; go_simp; exact HK.out _ _ (by have h := HNB.out; simp [kIs]; exact h) rfB
  · intro ts W hb hB hp; have h8 : ts 8 = _ := hp 8 (by kernel_rfl); intro K hK; simp only [fillT, Nat.zero_add, Nat.reduceAdd, sA, sB, sC, h8] at hK ⊢; have HK := hid hK; clear hK hp; refine ⟨?_⟩; go_simp; exact HK.out _ _ (by have h := HSB.out; simp [kIs]; exact h) rfB
  · intro ts W hb hB hp; have h9 : ts 9 = _ := hp 9 (by kernel_rfl); intro K hK; simp only [fillT, Nat.zero_add, Nat.reduceAdd, sA, sB, sC, h9] at hK ⊢; have HK := hid hK; clear hK hp; refine ⟨?_⟩; go_simp; exact HK.out _ _ rfl rfB
  · intro ts W hb hB hp; have h10 : ts 10 = _ := hp 10 (by kernel_rfl); intro K hK; simp only [fillT, Nat.zero_add, Nat.reduceAdd, sA, sB, sC, h10] at hK ⊢; have HK := hid hK; clear hK hp; refine ⟨?_⟩; go_simp; refine (HOb.out W (below_trans B1 hb)).mono ?_; rintro e W9 ⟨r9, rfl, hr9, hb9⟩; exact HK.out _ _ hr9 hb9
  · intro ts W hb hB hp; have h4 : IsNum W (ts 4) (Ta) := hp 4 (by kernel_rfl); have h11 : IsNum W (ts 11) (Tb) := hp 11 (by kernel_rfl); intro K hK; simp only [fillT, Nat.zero_add, Nat.reduceAdd, sA, sB, sC] at hK ⊢; have HK := hid hK; clear hK hp; refine ⟨?_⟩; go_simp; refine (HMl.out W (below_trans B1 hb) _ _ h4 h11).mono ?_; rintro e W9 ⟨r9, rfl, hr9, hb9⟩; exact HK.out _ _ hr9 hb9
  intro ts V3 hbq hh hap
  obtain ⟨g11, A11, n11, c11, p11, A11b, n11b, c11b, p11b, A11c, n11c, c11c, e13, lo11, z11, X11, N11⟩ := held_box (x := S) (hh 13 (by simp)) rfl (hh 14 (by simp)) rfl (hh 12 (by simp)) rfl
  simp only [fillT, Nat.zero_add, Nat.reduceAdd, sA, sB, sC, e13]
  clear hh hap e13
  generalize ts 0 = u0_V3 at *
  generalize ts 1 = u1_V3 at *
  generalize ts 2 = u2_V3 at *
  generalize ts 3 = u3_V3 at *
  generalize ts 4 = u4_V3 at *
  generalize ts 5 = u5_V3 at *
  generalize ts 6 = u6_V3 at *
  generalize ts 7 = u7_V3 at *
  generalize ts 8 = u8_V3 at *
  generalize ts 9 = u9_V3 at *
  generalize ts 10 = u10_V3 at *
  generalize ts 11 = u11_V3 at *
  generalize ts 12 = u12_V3 at *
  clear ts
  replace X7 := (hbq.block _ z7).trans X7
  replace z7 := Nat.lt_of_lt_of_le z7 hbq.size
  replace X9 := (hbq.block _ z9).trans X9
  replace z9 := Nat.lt_of_lt_of_le z9 hbq.size
  replace N7 := N7.below hbq
  replace N9 := N9.below hbq
  replace B1 := below_trans B1 hbq
  clear hbq
  clear lo11
  go_upto_region 7 with fail
  refine region_lin [.val (kIs (.agg #[.slice A7 n7 c7, .bool p7, .slice A7b n7b c7b, .bool p7b, .slice A7c n7c c7c])), .val (kIs (.int .i64 (N : Int))), .val (kNum (G)), .box 30 zNum, .put 3 2]
    (by kernel_rfl) (by kernel_rfl) (by kernel_rfl) (by kernel_rfl) (by kernel_rfl) ⟨stab_is _, stab_is _, stab_num _, trivial⟩ (by simp) ⟨?_, ?_, ?_, alloc_num, store_num _, trivial⟩ ?_
  · intro ts W hb hB hp; intro K hK; simp only [fillT, Nat.zero_add, Nat.reduceAdd, sA, sB, sC] at hK ⊢; refine ⟨?_⟩; refine wp_load_row _ _ rfl (g7) rfl _ _ (0, 0) _ ((hb.block _ (z7)).trans X7) Tryz.underlying30 rfl (by kernel_rfl) ?_; exact hK _ _ rfl rfB
  · exact obp
  · intro ts W hb hB hp; have h0 : ts 0 = _ := hp 0 (by kernel_rfl); have h1 : ts 1 = _ := hp 1 (by kernel_rfl); intro K hK; simp only [fillT, Nat.zero_add, Nat.reduceAdd, sA, sB, sC, h0, h1] at hK ⊢; have HK := hid hK; clear hK hp; refine ⟨?_⟩; go_simp; refine (HFg.out W (below_trans B1 hb) _ (N7.below hb)).mono ?_; rintro e W9 ⟨r9, rfl, hr9, hb9⟩; exact HK.out _ _ hr9 hb9
  intro ts V4 hbq hh hap
  obtain ⟨g12, A12, n12, c12, p12, A12b, n12b, c12b, p12b, A12c, n12c, c12c, e3, lo12, z12, X12, N12⟩ := held_box (x := G) (hh 3 (by simp)) rfl (hh 4 (by simp)) rfl (hh 2 (by simp)) rfl
  simp only [fillT, Nat.zero_add, Nat.reduceAdd, sA, sB, sC, e3]
  clear hh hap e3
  generalize ts 0 = u0_V4 at *
  generalize ts 1 = u1_V4 at *
  generalize ts 2 = u2_V4 at *
  clear ts
  replace X7 := (hbq.block _ z7).trans X7
  replace z7 := Nat.lt_of_lt_of_le z7 hbq.size
  replace X11 := (hbq.block _ z11).trans X11
  replace z11 := Nat.lt_of_lt_of_le z11 hbq.size
  replace N7 := N7.below hbq
  replace N11 := N11.below hbq
  replace B1 := below_trans B1 hbq
  clear hbq
  clear lo12
  go_upto_region 8 with fail
  refine region_lin [.val (kIs (.agg #[.slice A7 n7 c7, .bool p7, .slice A7b n7b c7b, .bool p7b, .slice A7c n7c c7c])), .val (kIs (.agg #[.slice A12 n12 c12, .bool p12, .slice A12b n12b c12b, .bool p12b, .slice A12c n12c c12c])), .val (kNum (R)), .box 30 zNum, .put 3 2]
    (by kernel_rfl) (by kernel_rfl) (by kernel_rfl) (by kernel_rfl) (by kernel_rfl) ⟨stab_is _, stab_is _, stab_num _, trivial⟩ (by simp) ⟨?_, ?_, ?_, alloc_num, store_num _, trivial⟩ ?_
  · intro ts W hb hB hp; intro K hK; simp only [fillT, Nat.zero_add, Nat.reduceAdd, sA, sB, sC] at hK ⊢; refine ⟨?_⟩; refine wp_load_row _ _ rfl (g7) rfl _ _ (0, 0) _ ((hb.block _ (z7)).trans X7) Tryz.underlying30 rfl (by kernel_rfl) ?_; exact hK _ _ rfl rfB
  · intro ts W hb hB hp; intro K hK; simp only [fillT, Nat.zero_add, Nat.reduceAdd, sA, sB, sC] at hK ⊢; refine ⟨?_⟩; refine wp_load_row _ _ rfl (g12) rfl _ _ (0, 0) _ ((hb.block _ (z12)).trans X12) Tryz.underlying30 rfl (by kernel_rfl) ?_; exact hK _ _ rfl rfB
  · intro ts W hb hB hp; have h0 : ts 0 = _ := hp 0 (by kernel_rfl); have h1 : ts 1 = _ := hp 1 (by kernel_rfl); intro K hK; simp only [fillT, Nat.zero_add, Nat.reduceAdd, sA, sB, sC, h0, h1] at hK ⊢; have HK := hid hK; clear hK hp; refine ⟨?_⟩; go_simp; refine (HSb.out W (below_trans B1 hb) _ _ (N7.below hb) (N12.below hb)).mono ?_; rintro e W9 ⟨r9, rfl, hr9, hb9⟩; exact HK.out _ _ hr9 hb9
  intro ts V5 hbq hh hap
  obtain ⟨g13, A13, n13, c13, p13, A13b, n13b, c13b, p13b, A13c, n13c, c13c, e3, lo13, z13, X13, N13⟩ := held_box (x := R) (hh 3 (by simp)) rfl (hh 4 (by simp)) rfl (hh 2 (by simp)) rfl
  simp only [fillT, Nat.zero_add, Nat.reduceAdd, sA, sB, sC, e3]
  clear hh hap e3
  generalize ts 0 = u0_V5 at *
  generalize ts 1 = u1_V5 at *
  generalize ts 2 = u2_V5 at *
  clear ts
  replace X11 := (hbq.block _ z11).trans X11
  replace z11 := Nat.lt_of_lt_of_le z11 hbq.size
  replace X12 := (hbq.block _ z12).trans X12
  replace z12 := Nat.lt_of_lt_of_le z12 hbq.size
  replace N11 := N11.below hbq
  replace N12 := N12.below hbq
  replace B1 := below_trans B1 hbq
  clear hbq
  clear lo13
  go_upto_region 9 with fail
  obtain ⟨f0, f1, f2, f3, f4, -⟩ := bx5 X12
  obtain ⟨e0, e1, e2, e3, e4, -⟩ := bx5 X11
  go_wp2_with fail
  refine (HDv.out _ B1 _ _ N12 N11).mono ?_
  rintro e V6 ⟨v6, rfl, hn6, hbq⟩
  obtain ⟨A14, n14, c14, p14, A14b, n14b, c14b, p14b, A14c, n14c, c14c, a14, b14, d14, rfl, -⟩ := hn6.parts
  clear f0 f1 f2 f3 f4 e0 e1 e2 e3 e4
  go_upto_region 10 with fail
  obtain ⟨V7, hV7⟩ : ∃ V : World, V = V6.alloc (.cells #[.slice A14 n14 c14, .bool p14, .slice A14b n14b c14b, .bool p14b, .slice A14c n14c c14c] 30) := ⟨_, rfl⟩
  rw [← hV7]
  have D7 : Below V6.heap.size V6 V7 := by rw [hV7]; exact below_alloc _ _
  have z14 : V6.heap.size < V7.heap.size := by rw [hV7]; simp
  have X14 : V7.heap[V6.heap.size]? = some (.cells #[.slice A14 n14 c14, .bool p14, .slice A14b n14b c14b, .bool p14b, .slice A14c n14c c14c] 30 (0, 0)) := by rw [hV7]; exact heap_alloc_new _ _
  have N14 := hn6.below D7
  have hbr := below_trans hbq D7
  clear hV7 hn6 D7
  generalize V6.heap.size = g14 at *
  clear hbq
  replace X11 := (hbr.block _ z11).trans X11
  replace z11 := Nat.lt_of_lt_of_le z11 hbr.size
  replace X13 := (hbr.block _ z13).trans X13
  replace z13 := Nat.lt_of_lt_of_le z13 hbr.size
  replace N11 := N11.below hbr
  replace N13 := N13.below hbr
  replace B1 := below_trans B1 hbr
  clear hbr
  refine region_lin (.val (kIs (.agg #[.slice A13 n13 c13, .bool p13, .slice A13b n13b c13b, .bool p13b, .slice A13c n13c c13c])) :: .val (kNum (R.real)) :: .val (kNum (.int 0)) :: .val (kIs (.int .i64 k1)) :: .val (kIs (.bool true)) :: .val (kIs (.bool true)) :: .val (kIs (.agg #[.slice A13 n13 c13, .bool p13, .slice A13b n13b c13b, .bool p13b, .slice A13c n13c c13c])) :: .val (kNum (R.imag)) :: .val (kNum (.int 0)) :: .val (kIs (.int .i64 k2)) :: .val (kIs (.bool true)) :: .val (kIs (.bool true)) :: .val (kIs (.bool true)) :: .val (kIs (.agg #[.slice A13 n13 c13, .bool p13, .slice A13b n13b c13b, .bool p13b, .slice A13c n13c c13c])) :: .val (kNum (R.real)) :: .val (kIs (.agg #[.slice A11 n11 c11, .bool p11, .slice A11b n11b c11b, .bool p11b, .slice A11c n11c c11c])) :: .val (kIs (.int .i64 k3)) :: .val (kIs (.bool true)) :: .val (kIs (.bool true)) :: .val (kIs (.bool true)) :: .val (kIs (.agg #[.slice A13 n13 c13, .bool p13, .slice A13b n13b c13b, .bool p13b, .slice A13c n13c c13c])) :: .val (kNum (R.imag)) :: .val (kIs (.agg #[.slice A11 n11 c11, .bool p11, .slice A11b n11b c11b, .bool p11b, .slice A11c n11c c11c])) :: .val (kIs (.int .i64 k4)) :: .val (kIs (.bool true)) :: .val (kIs (.bool true)) :: .val (kIs (.bool true)) :: .val (kIs (.agg #[.slice A14 n14 c14, .bool p14, .slice A14b n14b c14b, .bool p14b, .slice A14c n14c c14c])) :: .val (kNum (Wh)) :: .val (kIs (.agg #[.slice A14 n14 c14, .bool p14, .slice A14b n14b c14b, .bool p14b, .slice A14c n14c c14c])) :: .val (kIs (.bool true)) :: .val (kIs (.bool true)) :: .val (kIs (.bool true)) :: .val (kIs (.bool true)) :: .val (kIs (.bool true)) :: .val (kIs (.bool true)) :: [])
    (by kernel_rfl) (by kernel_rfl) (by kernel_rfl) (by kernel_rfl) (by kernel_rfl) ⟨Stab.b (stab_is _), Stab.b (stab_num _), Stab.b (stab_num _), Stab.b (stab_is _), Stab.b (stab_is _), Stab.b (stab_is _), Stab.b (stab_is _), Stab.b (stab_num _), Stab.b (stab_num _), Stab.b (stab_is _), Stab.b (stab_is _), Stab.b (stab_is _), Stab.b (stab_is _), Stab.b (stab_is _), Stab.b (stab_num _), Stab.b (stab_is _), Stab.b (stab_is _), Stab.b (stab_is _), Stab.b (stab_is _), Stab.b (stab_is _), Stab.b (stab_is _), Stab.b (stab_num _), Stab.b (stab_is _), Stab.b (stab_is _), Stab.b (stab_is _), Stab.b (stab_is _), Stab.b (stab_is _), Stab.b (stab_is _), Stab.b (stab_num _), Stab.b (stab_is _), Stab.b (stab_is _), Stab.b (stab_is _), Stab.b (stab_is _), Stab.b (stab_is _), Stab.b (stab_is _), Stab.b (stab_is _), trivial⟩ (by simp) ⟨?_, ?_, ?_, ?_, ?_, ?_, ?_, ?_, ?_, ?_, ?_, ?_, ?_, ?_, ?_, ?_, ?_, ?_, ?_, ?_, ?_, ?_, ?_, ?_, ?_, ?_, ?_, ?_, ?_, ?_, ?_, ?_, ?_, ?_, ?_, ?_, trivial⟩ ?_
  · intro ts W hb hB hp; intro K hK; simp only [fillT, Nat.zero_add, Nat.reduceAdd, sA, sB, sC] at hK ⊢; refine ⟨?_⟩; refine wp_load_row _ _ rfl (g13) rfl _ _ (0, 0) _ ((hb.block _ (z13)).trans X13) Tryz.underlying30 rfl (by kernel_rfl) ?_; exact hK _ _ rfl rfB
  · intro ts W hb hB hp; have h0 : ts 0 = _ := hp 0 (by kernel_rfl); intro K hK; simp only [fillT, Nat.zero_add, Nat.reduceAdd, sA, sB, sC, h0] at hK ⊢; have HK := hid hK; clear hK hp; refine ⟨?_⟩; go_simp; refine (HRe.out W (below_trans B1 hb) _ (N13.below hb)).mono ?_; rintro e W9 ⟨r9, rfl, hr9, hb9⟩; exact HK.out _ _ hr9 hb9
  · intro ts W hb hB hp; intro K hK; simp only [fillT, Nat.zero_add, Nat.reduceAdd, sA, sB, sC] at hK ⊢; have HK := hid hK; clear hK hp; refine ⟨?_⟩; go_simp; refine (HI0.out W).mono ?_; rintro e W9 ⟨r9, rfl, hr9, hb9⟩; exact HK.out _ _ hr9 hb9
  · intro ts W hb hB hp; have h1 : IsNum W (ts 1) (R.real) := hp 1 (by kernel_rfl); have h2 : IsNum W (ts 2) (.int 0) := hp 2 (by kernel_rfl); intro K hK; simp only [fillT, Nat.zero_add, Nat.reduceAdd, sA, sB, sC] at hK ⊢; have HK := hid hK; clear hK hp; refine ⟨?_⟩; go_simp; refine (HCa.out W _ _ h1 h2).mono ?_; rintro e W9 ⟨rfl, hb9⟩; exact HK.out _ _ rfl hb9
  · intro ts W hb hB hp; have h3 : ts 3 = _ := hp 3 (by kernel_rfl); intro K hK; simp only [fillT, Nat.zero_add, Nat.reduceAdd, sA, sB, sC, h3] at hK ⊢; have HK := hid hK; clear hK hp; refine ⟨?_⟩; go_simp; exact HK.out _ _ (by simp [kIs, HK1.out]) rfB
  · intro ts W hb hB hp; have h4 : ts 4 = _ := hp 4 (by kernel_rfl); intro K hK; simp only [fillT, Nat.zero_add, Nat.reduceAdd, sA, sB, sC, h4] at hK ⊢; have HK := hid hK; clear hK hp; refine ⟨?_⟩; go_simp; exact HK.out _ _ rfl rfB
  · intro ts W hb hB hp; have h5 : ts 5 = _ := hp 5 (by kernel_rfl); refine Guarded.on h5 ?_; clear h5; intro K hK; simp only [fillT, Nat.zero_add, Nat.reduceAdd, sA, sB, sC] at hK ⊢; refine ⟨?_⟩; refine wp_load_row _ _ rfl (g13) rfl _ _ (0, 0) _ ((hb.block _ (z13)).trans X13) Tryz.underlying30 rfl (by kernel_rfl) ?_; exact hK _ _ rfl rfB
  · intro ts W hb hB hp; have h6 : ts 6 = _ := hp 6 (by kernel_rfl); have h5 : ts 5 = _ := hp 5 (by kernel_rfl); refine Guarded.on h5 ?_; clear h5; intro K hK; simp only [fillT, Nat.zero_add, Nat.reduceAdd, sA, sB, sC, h6] at hK ⊢; have HK := hid hK; clear hK hp; refine ⟨?_⟩; go_simp; refine (HIm.out W (below_trans B1 hb) _ (N13.below hb)).mono ?_; rintro e W9 ⟨r9, rfl, hr9, hb9⟩; exact HK.out _ _ hr9 hb9
  · intro ts W hb hB hp; have h5 : ts 5 = _ := hp 5 (by kernel_rfl); refine Guarded.on h5 ?_; clear h5; intro K hK; simp only [fillT, Nat.zero_add, Nat.reduceAdd, sA, sB, sC] at hK ⊢; have HK := hid hK; clear hK hp; refine ⟨?_⟩; go_simp; refine (HI0.out W).mono ?_; rintro e W9 ⟨r9, rfl, hr9, hb9⟩; exact HK.out _ _ hr9 hb9
  · intro ts W hb hB hp; have h7 : IsNum W (ts 7) (R.imag) := hp 7 (by kernel_rfl); have h8 : IsNum W (ts 8) (.int 0) := hp 8 (by kernel_rfl); have h5 : ts 5 = _ := hp 5 (by kernel_rfl); refine Guarded.on h5 ?_; clear h5; intro K hK; simp only [fillT, Nat.zero_add, Nat.reduceAdd, sA, sB, sC] at hK ⊢; have HK := hid hK; clear hK hp; refine ⟨?_⟩; go_simp; refine (HCb.out W _ _ h7 h8).mono ?_; rintro e W9 ⟨rfl, hb9⟩; exact HK.out _ _ rfl hb9
  · intro ts W hb hB hp; have h9 : ts 9 = _ := hp 9 (by kernel_rfl); have h5 : ts 5 = _ := hp 5 (by kernel_rfl); refine Guarded.on h5 ?_; clear h5; intro K hK; simp only [fillT, Nat.zero_add, Nat.reduceAdd, sA, sB, sC, h9] at hK ⊢; have HK := hid hK; clear hK hp; refine ⟨?_⟩; go_simp; exact HK.out _ _ (by simp [kIs, HK2.out]) rfB
  · intro ts W hb hB hp; have h5 : ts 5 = _ := hp 5 (by kernel_rfl); have h10 : ts 10 = _ := hp 10 (by kernel_rfl); intro K hK; simp only [fillT, Nat.zero_add, Nat.reduceAdd, sA, sB, sC, h5, h10] at hK ⊢; have HK := hid hK; clear hK hp; refine ⟨?_⟩; go_simp; exact HK.out _ _ rfl rfB
  · intro ts W hb hB hp; have h11 : ts 11 = _ := hp 11 (by kernel_rfl); intro K hK; simp only [fillT, Nat.zero_add, Nat.reduceAdd, sA, sB, sC, h11] at hK ⊢; have HK := hid hK; clear hK hp; refine ⟨?_⟩; go_simp; exact HK.out _ _ rfl rfB
  · intro ts W hb hB hp; have h12 : ts 12 = _ := hp 12 (by kernel_rfl); refine Guarded.on h12 ?_; clear h12; intro K hK; simp only [fillT, Nat.zero_add, Nat.reduceAdd, sA, sB, sC] at hK ⊢; refine ⟨?_⟩; refine wp_load_row _ _ rfl (g13) rfl _ _ (0, 0) _ ((hb.block _ (z13)).trans X13) Tryz.underlying30 rfl (by kernel_rfl) ?_; exact hK _ _ rfl rfB
  · intro ts W hb hB hp; have h13 : ts 13 = _ := hp 13 (by kernel_rfl); have h12 : ts 12 = _ := hp 12 (by kernel_rfl); refine Guarded.on h12 ?_; clear h12; intro K hK; simp only [fillT, Nat.zero_add, Nat.reduceAdd, sA, sB, sC, h13] at hK ⊢; have HK := hid hK; clear hK hp; refine ⟨?_⟩; go_simp; refine (HRe.out W (below_trans B1 hb) _ (N13.below hb)).mono ?_; rintro e W9 ⟨r9, rfl, hr9, hb9⟩; exact HK.out _ _ hr9 hb9
  · intro ts W hb hB hp; have h12 : ts 12 = _ := hp 12 (by kernel_rfl); refine Guarded.on h12 ?_; clear h12; intro K hK; simp only [fillT, Nat.zero_add, Nat.reduceAdd, sA, sB, sC] at hK ⊢; refine ⟨?_⟩; refine wp_load_row _ _ rfl (g11) rfl _ _ (0, 0) _ ((hb.block _ (z11)).trans X11) Tryz.underlying30 rfl (by kernel_rfl) ?_; exact hK _ _ rfl rfB
  · intro ts W hb hB hp; have h14 : IsNum W (ts 14) (R.real) := hp 14 (by kernel_rfl); have h15 : ts 15 = _ := hp 15 (by kernel_rfl); have h12 : ts 12 = _ := hp 12 (by kernel_rfl); refine Guarded.on h12 ?_; clear h12; intro K hK; simp only [fillT, Nat.zero_add, Nat.reduceAdd, sA, sB, sC, h15] at hK ⊢; have HK := hid hK; clear hK hp; refine ⟨?_⟩; go_simp; refine (HCc.out W _ _ h14 (N11.below hb)).mono ?_; rintro e W9 ⟨rfl, hb9⟩; exact HK.out _ _ rfl hb9
  · intro ts W hb hB hp; have h16 : ts 16 = _ := hp 16 (by kernel_rfl); have h12 : ts 12 = _ := hp 12 (by kernel_rfl); refine Guarded.on h12 ?_; clear h12; intro K hK; simp only [fillT, Nat.zero_add, Nat.reduceAdd, sA, sB, sC, h16] at hK ⊢; have HK := hid hK; clear hK hp; refine ⟨?_⟩; go_simp; exact HK.out _ _ (by simp [kIs, HK3.out]) rfB
  · intro ts W hb hB hp; have h12 : ts 12 = _ := hp 12 (by kernel_rfl); have h17 : ts 17 = _ := hp 17 (by kernel_rfl); intro K hK; simp only [fillT, Nat.zero_add, Nat.reduceAdd, sA, sB, sC, h12, h17] at hK ⊢; have HK := hid hK; clear hK hp; refine ⟨?_⟩; go_simp; exact HK.out _ _ rfl rfB
  · intro ts W hb hB hp; have h18 : ts 18 = _ := hp 18 (by kernel_rfl); intro K hK; simp only [fillT, Nat.zero_add, Nat.reduceAdd, sA, sB, sC, h18] at hK ⊢; have HK := hid hK; clear hK hp; refine ⟨?_⟩; go_simp; exact HK.out _ _ rfl rfB
  · intro ts W hb hB hp; have h19 : ts 19 = _ := hp 19 (by kernel_rfl); refine Guarded.on h19 ?_; clear h19; intro K hK; simp only [fillT, Nat.zero_add, Nat.reduceAdd, sA, sB, sC] at hK ⊢; refine ⟨?_⟩; refine wp_load_row _ _ rfl (g13) rfl _ _ (0, 0) _ ((hb.block _ (z13)).trans X13) Tryz.underlying30 rfl (by kernel_rfl) ?_; exact hK _ _ rfl rfB
  · intro ts W hb hB hp; have h20 : ts 20 = _ := hp 20 (by kernel_rfl); have h19 : ts 19 = _ := hp 19 (by kernel_rfl); refine Guarded.on h19 ?_; clear h19; intro K hK; simp only [fillT, Nat.zero_add, Nat.reduceAdd, sA, sB, sC, h20] at hK ⊢; have HK := hid hK; clear hK hp; refine ⟨?_⟩; go_simp; refine (HIm.out W (below_trans B1 hb) _ (N13.below hb)).mono ?_; rintro e W9 ⟨r9, rfl, hr9, hb9⟩; exact HK.out _ _ hr9 hb9
  · intro ts W hb hB hp; have h19 : ts 19 = _ := hp 19 (by kernel_rfl); refine Guarded.on h19 ?_; clear h19; intro K hK; simp only [fillT, Nat.zero_add, Nat.reduceAdd, sA, sB, sC] at hK ⊢; refine ⟨?_⟩; refine wp_load_row _ _ rfl (g11) rfl _ _ (0, 0) _ ((hb.block _ (z11)).trans X11) Tryz.underlying30 rfl (by kernel_rfl) ?_; exact hK _ _ rfl rfB
  · intro ts W hb hB hp; have h21 : IsNum W (ts 21) (R.imag) := hp 21 (by kernel_rfl); have h22 : ts 22 = _ := hp 22 (by kernel_rfl); have h19 : ts 19 = _ := hp 19 (by kernel_rfl); refine Guarded.on h19 ?_; clear h19; intro K hK; simp only [fillT, Nat.zero_add, Nat.reduceAdd, sA, sB, sC, h22] at hK ⊢; have HK := hid hK; clear hK hp; refine ⟨?_⟩; go_simp; refine (HCd.out W _ _ h21 (N11.below hb)).mono ?_; rintro e W9 ⟨rfl, hb9⟩; exact HK.out _ _ rfl hb9
  · intro ts W hb hB hp; have h23 : ts 23 = _ := hp 23 (by kernel_rfl); have h19 : ts 19 = _ := hp 19 (by kernel_rfl); refine Guarded.on h19 ?_; clear h19; intro K hK; simp only [fillT, Nat.zero_add, Nat.reduceAdd, sA, sB, sC, h23] at hK ⊢; have HK := hid hK; clear hK hp; refine ⟨?_⟩; go_simp; exact HK.out _ _ (by simp [kIs, HK4.out]) rfB
  · intro ts W hb hB hp; have h19 : ts 19 = _ := hp 19 (by kernel_rfl); have h24 : ts 24 = _ := hp 24 (by kernel_rfl); intro K hK; simp only [fillT, Nat.zero_add, Nat.reduceAdd, sA, sB, sC, h19, h24] at hK ⊢; have HK := hid hK; clear hK hp; refine ⟨?_⟩; go_simp; exact HK.out _ _ rfl rfB
  · intro ts W hb hB hp; have h25 : ts 25 = _ := hp 25 (by kernel_rfl); intro K hK; simp only [fillT, Nat.zero_add, Nat.reduceAdd, sA, sB, sC, h25] at hK ⊢; have HK := hid hK; clear hK hp; refine ⟨?_⟩; go_simp; exact HK.out _ _ rfl rfB
  · intro ts W hb hB hp; have h26 : ts 26 = _ := hp 26 (by kernel_rfl); refine Guarded.on h26 ?_; clear h26; intro K hK; simp only [fillT, Nat.zero_add, Nat.reduceAdd, sA, sB, sC] at hK ⊢; refine ⟨?_⟩; refine wp_load_row _ _ rfl (g14) rfl _ _ (0, 0) _ ((hb.block _ (z14)).trans X14) Tryz.underlying30 rfl (by kernel_rfl) ?_; exact hK _ _ rfl rfB
  · intro ts W hb hB hp; have h27 : ts 27 = _ := hp 27 (by kernel_rfl); have h26 : ts 26 = _ := hp 26 (by kernel_rfl); refine Guarded.on h26 ?_; clear h26; intro K hK; simp only [fillT, Nat.zero_add, Nat.reduceAdd, sA, sB, sC, h27] at hK ⊢; have HK := hid hK; clear hK hp; refine ⟨?_⟩; go_simp; refine (HF0.out W (below_trans B1 hb) _ (N14.below hb)).mono ?_; rintro e W9 ⟨r9, rfl, hr9, hb9⟩; exact HK.out _ _ hr9 hb9
  · intro ts W hb hB hp; have h26 : ts 26 = _ := hp 26 (by kernel_rfl); refine Guarded.on h26 ?_; clear h26; intro K hK; simp only [fillT, Nat.zero_add, Nat.reduceAdd, sA, sB, sC] at hK ⊢; refine ⟨?_⟩; refine wp_load_row _ _ rfl (g14) rfl _ _ (0, 0) _ ((hb.block _ (z14)).trans X14) Tryz.underlying30 rfl (by kernel_rfl) ?_; exact hK _ _ rfl rfB
  · intro ts W hb hB hp; have h28 : IsNum W (ts 28) (Wh) := hp 28 (by kernel_rfl); have h29 : ts 29 = _ := hp 29 (by kernel_rfl); have h26 : ts 26 = _ := hp 26 (by kernel_rfl); refine Guarded.on h26 ?_; clear h26; intro K hK; simp only [fillT, Nat.zero_add, Nat.reduceAdd, sA, sB, sC, h29] at hK ⊢; have HK := hid hK; clear hK hp; refine ⟨?_⟩; go_simp; refine (HSm.out W _ _ h28 (N14.below hb)).mono ?_; rintro e W9 ⟨rfl, hb9⟩; exact HK.out _ _ rfl hb9
  · intro ts W hb hB hp; have h26 : ts 26 = _ := hp 26 (by kernel_rfl); have h30 : ts 30 = _ := hp 30 (by kernel_rfl); intro K hK; simp only [fillT, Nat.zero_add, Nat.reduceAdd, sA, sB, sC, h26, h30] at hK ⊢; have HK := hid hK; clear hK hp; refine ⟨?_⟩; go_simp; exact HK.out _ _ rfl rfB
  · intro ts W hb hB hp; have h31 : ts 31 = _ := hp 31 (by kernel_rfl); intro K hK; simp only [fillT, Nat.zero_add, Nat.reduceAdd, sA, sB, sC, h31] at hK ⊢; have HK := hid hK; clear hK hp; refine ⟨?_⟩; go_simp; exact HK.out _ _ rfl rfB
  · intro ts W hb hB hp; have h32 : ts 32 = _ := hp 32 (by kernel_rfl); refine Guarded.on h32 ?_; clear h32; intro K hK; simp only [fillT, Nat.zero_add, Nat.reduceAdd, sA, sB, sC] at hK ⊢; have HK := hid hK; clear hK hp; refine ⟨?_⟩; go_simp; refine (awake_any W (HT.out.below (below_trans B1 hb))).mono ?_; rintro e W9 ⟨rfl, hb9⟩; exact HK.out _ _ rfl hb9
  · intro ts W hb hB hp; have h32 : ts 32 = _ := hp 32 (by kernel_rfl); have h33 : ts 33 = _ := hp 33 (by kernel_rfl); intro K hK; simp only [fillT, Nat.zero_add, Nat.reduceAdd, sA, sB, sC, h32, h33] at hK ⊢; have HK := hid hK; clear hK hp; refine ⟨?_⟩; go_simp; exact HK.out _ _ rfl rfB
  · intro ts W hb hB hp; have h34 : ts 34 = _ := hp 34 (by kernel_rfl); intro K hK; simp only [fillT, Nat.zero_add, Nat.reduceAdd, sA, sB, sC, h34] at hK ⊢; have HK := hid hK; clear hK hp; refine ⟨?_⟩; go_simp; exact HK.out _ _ rfl rfB
  intro ts V8 hbq hh hap
  have e35 := held_is (hh 35 (by simp)) rfl
  simp only [fillT, Nat.zero_add, Nat.reduceAdd, sA, sB, sC, e35]
  clear hh hap e35
  generalize ts 0 = u0_V8 at *
  generalize ts 1 = u1_V8 at *
  generalize ts 2 = u2_V8 at *
  generalize ts 3 = u3_V8 at *
  generalize ts 4 = u4_V8 at *
  generalize ts 5 = u5_V8 at *
  generalize ts 6 = u6_V8 at *
  generalize ts 7 = u7_V8 at *
  generalize ts 8 = u8_V8 at *
  generalize ts 9 = u9_V8 at *
  generalize ts 10 = u10_V8 at *
  generalize ts 11 = u11_V8 at *
  generalize ts 12 = u12_V8 at *
  generalize ts 13 = u13_V8 at *
  generalize ts 14 = u14_V8 at *
  generalize ts 15 = u15_V8 at *
  generalize ts 16 = u16_V8 at *
  generalize ts 17 = u17_V8 at *
  generalize ts 18 = u18_V8 at *
  generalize ts 19 = u19_V8 at *
  generalize ts 20 = u20_V8 at *
  generalize ts 21 = u21_V8 at *
  generalize ts 22 = u22_V8 at *
  generalize ts 23 = u23_V8 at *
  generalize ts 24 = u24_V8 at *
  generalize ts 25 = u25_V8 at *
  generalize ts 26 = u26_V8 at *
  generalize ts 27 = u27_V8 at *
  generalize ts 28 = u28_V8 at *
  generalize ts 29 = u29_V8 at *
  generalize ts 30 = u30_V8 at *
  generalize ts 31 = u31_V8 at *
  generalize ts 32 = u32_V8 at *
  generalize ts 33 = u33_V8 at *
  generalize ts 34 = u34_V8 at *
  clear ts
  go_wp2
  go_ret
  exact ⟨rfl, below_trans B1 hbq⟩
end Go.Proofs.YtccldiokpgjocaaGreatDoor
set_option linter.unusedSimpArgs false
set_option linter.unusedVariables false
namespace Go.Proofs.YtccldiokpgjocaaGreatDoor
open Go Go.ChangeShapes Go.WideShapes Go.ChangeAt Go.WideMaps Go.WideElems Go.RowKit Go.Joins
set_option maxRecDepth 100000
theorem door_met (os : Os) (args : Array Value) : laidMetH Tryz.prog [("math/bits.deBruijn32tab", Rows.laid_math_bits_deBruijn32tab)] ((World.doorLaid Tryz.prog 400 os).forCall (fun _ _ => 0) ⟨#[], args, []⟩).memory :=
  laidMetH_of_parts3 (fuel := 8) (laidMet_of_run' 8 (by kernel_rfl) (by kernel_rfl)) (by kernel_rfl) (by kernel_rfl)
theorem ratio_cells : Tryz.prog.cellsOf 23 = 3 := by kernel_rfl
theorem open_ratio {H : Type} {enc : TypeId × Value → H} {W : World} {base : Nat} {v : Value} {d : DataW H} {p : List MemPlace} {b0 : Nat} (hv : Value.okWide Tryz.prog W .any b0 23 v) (h : DataW.Trod enc Tryz.prog W base (fun _ => true) true 23 v d p) :
    ∃ r i q : Int, v = .agg #[.int .i64 r, .int .i64 i, .int .i64 q] ∧ (-9223372036854775808 ≤ r ∧ r < 9223372036854775808) ∧ (-9223372036854775808 ≤ i ∧ i < 9223372036854775808) ∧ (-9223372036854775808 ≤ q ∧ q < 9223372036854775808) := by
  obtain ⟨c0, c1, c2, y0, y1, y2, m, rfl, -, -, h0, h1, h2⟩ := open_agg3 Tryz.underlying23 (by kernel_rfl) ratio_cells hv h
  obtain ⟨n0, e0, -, w0⟩ := DataW.trod_int Tryz.underlying2 h0
  obtain ⟨n1, e1, -, w1⟩ := DataW.trod_int Tryz.underlying2 h1
  obtain ⟨n2, e2, -, w2⟩ := DataW.trod_int Tryz.underlying2 h2
  simp at e0 e1 e2
  subst e0 e1 e2
  have bd : ∀ n : Int, (Lit.int .i64 n).wf = true → -9223372036854775808 ≤ n ∧ n < 9223372036854775808 := fun n hw => by
    have hw' : (decide (IntKind.i64.min ≤ n) && decide (n ≤ IntKind.i64.max)) = true := hw
    simp only [Bool.and_eq_true] at hw'
    have e1 : IntKind.i64.min = -9223372036854775808 := by decide
    have e2 : IntKind.i64.max = 9223372036854775807 := by decide
    have h1 := of_decide_eq_true hw'.1
    have h2 := of_decide_eq_true hw'.2
    omega
  exact ⟨n0, n1, n2, rfl, bd _ w0, bd _ w1, bd _ w2⟩
theorem open_int {H : Type} {enc : TypeId × Value → H} {W : World} {base : Nat} {v : Value} {d : DataW H} {p : List MemPlace} {b0 : Nat} (hv : Value.okWide Tryz.prog W .any b0 3 v) (h : DataW.Trod enc Tryz.prog W base (fun _ => true) true 3 v d p) :
    ∃ n : Int, v = .int .i64 n ∧ -9223372036854775808 ≤ n ∧ n < 9223372036854775808 := by
  obtain ⟨z, rfl⟩ := okWide_int Tryz.underlying3 hv
  obtain ⟨fuel, hf⟩ := h
  obtain ⟨n, hn, -, hw⟩ := DataW.trod_int Tryz.underlying3 hf
  simp [Value.cells] at hn
  subst hn
  have hw' : (decide (IntKind.i64.min ≤ z) && decide (z ≤ IntKind.i64.max)) = true := hw
  simp only [Bool.and_eq_true] at hw'
  have e1 : IntKind.i64.min = -9223372036854775808 := by decide
  have e2 : IntKind.i64.max = 9223372036854775808 - 1 := by decide
  have h1 := of_decide_eq_true hw'.1
  have h2 := of_decide_eq_true hw'.2
  exact ⟨z, rfl, by omega, by omega⟩
theorem open_int16 {H : Type} {enc : TypeId × Value → H} {W : World} {base : Nat} {v : Value} {d : DataW H} {p : List MemPlace} {b0 : Nat} (hv : Value.okWide Tryz.prog W .any b0 24 v) (h : DataW.Trod enc Tryz.prog W base (fun _ => true) true 24 v d p) :
    ∃ n : Int, v = .int .i16 n ∧ -32768 ≤ n ∧ n < 32768 := by
  obtain ⟨z, rfl⟩ := okWide_int Tryz.underlying24 hv
  obtain ⟨fuel, hf⟩ := h
  obtain ⟨n, hn, -, hw⟩ := DataW.trod_int Tryz.underlying24 hf
  simp [Value.cells] at hn
  subst hn
  have hw' : (decide (IntKind.i16.min ≤ z) && decide (z ≤ IntKind.i16.max)) = true := hw
  simp only [Bool.and_eq_true] at hw'
  have e1 : IntKind.i16.min = -32768 := by decide
  have e2 : IntKind.i16.max = 32768 - 1 := by decide
  have h1 := of_decide_eq_true hw'.1
  have h2 := of_decide_eq_true hw'.2
  exact ⟨z, rfl, by omega, by omega⟩
theorem numFloor_lifted (os : Os) (started : os.Started) (H : Type) (enc : TypeId × Value → H) :
    ReturnsInHanded {} Tryz.checked os 5 .any (fun w args => (Rows.numFloorSpec.pre enc Tryz.prog Tryz.f5 [] false w args ∧ laidMetH Tryz.prog [("math/bits.deBruijn32tab", Rows.laid_math_bits_deBruijn32tab)] w) ∧ sizedMet enc Tryz.prog Tryz.f5 (OpenSpec.ofChange Rows.numFloorSpec) false w args)
      (Rows.numFloorSpec.post enc Tryz.prog Tryz.f5 false true false false) := by
  refine returnsInHanded_of_change_and (C := Tryz.checked) (X := fun w _ => laidMetH Tryz.prog [("math/bits.deBruijn32tab", Rows.laid_math_bits_deBruijn32tab)] w) (fun _ _ _ hh h => h.of_heap hh) own_knob started (by kernel_rfl) Tryz.func5
    (ChangeSpec.witness_shaped (enc := enc) (C := Tryz.checked) (os := os) (X := fun w _ => laidMetH Tryz.prog [("math/bits.deBruijn32tab", Rows.laid_math_bits_deBruijn32tab)] w) false (World.doorLaid Tryz.prog 400 os) #[.agg #[.int .i64 0, .int .i64 0, .int .i64 1], .int .i16 0, .int .i64 0] 8 rfl (World.shaped_of_RefB (by kernel_rfl) (by kernel_rfl)) (by kernel_rfl) (by kernel_rfl) (by kernel_rfl) (door_met os _)) ?_
  intro W base args ds gs before hval0 hW _ _ hL _
  have hval : ∀ (j : Nat) t v, Tryz.f5.params[j]? = some t → args[j]? = some v → Value.okWide Tryz.prog W .any base t v := hval0
  have hWW := hW
  obtain ⟨p, q, hA0, hV, rfl, hfz, hnd⟩ := hW
  have hA : DataW.TrodAll enc Tryz.prog W 0 (fun _ => true) true Tryz.f5.params.toList args.toList ds p := hA0
  rw [Tryz.params5] at hA hval
  obtain ⟨v0, v1, v2, d0, d1, d2, q0, q1, q2, rfl, rfl, rfl, h0, h1, h2⟩ := trodAll_three hA
  obtain ⟨a0, b0, c0, rfl, ha0, hb0, hc0⟩ := open_ratio (hval 0 _ _ rfl rfl) h0
  obtain ⟨n1, rfl, hn1, hm1⟩ := open_int16 (hval 1 _ _ rfl rfl) h1
  obtain ⟨n2, rfl, hn2, hm2⟩ := open_int (hval 2 _ _ rfl rfl) h2
  have hT := tab_of_laid hL
  obtain ⟨rfl, rfl⟩ := trodVars_none hV
  refine (numFloor_walk W a0 b0 c0 n1 n2 ha0.1 ha0.2 hb0.1 hb0.2 hc0.1 hc0.2 hn1 hm1 hT).mono fun e W' ⟨he, hb⟩ => ?_
  subst he
  exact ⟨_, rfl, law_post rfl rfl (by kernel_rfl) ⟨rfl, rfl, rfl⟩ hWW hb⟩
theorem numFloor_said : Rows.NumFloorSaid :=
  OpenClaim.holds_of_wide 5 Tryz.f5 rfl rfl rfl rfl rfl rfl rfl ⟨rfl, rfl, rfl, rfl, rfl⟩ rfl rfl rfl rfl rfl (by kernel_rfl) Tryz.func5 (by kernel_rfl)
    (of_decide_eq_true (by kernel_rfl)) (by unfold Func.isWrapper; first | (rw [if_pos (by decide +kernel)]; kernel_rfl) | (rw [if_neg (by decide +kernel)]; exact ⟨rfl, rfl⟩))
    (fun os started H enc _ => numFloor_lifted os started H enc)
theorem numFloor_holds : Rows.NumFloorCardSaid :=
  Claim7.holds_tied_plain_at .later [] [.data] true Rows.numFloorCard.stood.harness false
    numFloor_said (fun _ h => by cases h) (by kernel_rfl) (fun _ h => by cases h) numFloor_row_tie rfl ⟨rfl, rfl⟩ (by kernel_rfl) rfl
    (fun f fn hf hfn => by
      obtain rfl : f = 5 := Option.some.inj ((show Tryz.prog.funcNamed "waveport/waveportlaw01.NumFloor" = some 5 by kernel_rfl).symm.trans hf) |>.symm
      obtain rfl : fn = Tryz.f5 := (Option.some.inj (Tryz.func5.symm.trans hfn)).symm
      exact ⟨by kernel_rfl, fun j t ht => by
        rw [Tryz.params5] at ht
        have hm : t ∈ [23, 24, 3] := by simpa using Array.mem_of_getElem? ht
        have hall : ([23, 24, 3].all fun u => !Tryz.prog.wantsStandIn u) = true := by kernel_rfl
        exact (show Tryz.prog.wantsStandIn t = false by simpa using List.all_eq_true.1 hall t hm)⟩)
    (by kernel_rfl)
end Go.Proofs.YtccldiokpgjocaaGreatDoor
