/- The law NumInverts, where there is an inverse. -/
import Derived.Test.YtmlkpnfjgifgfaaGreatDoorG40
set_option linter.unusedSimpArgs false
set_option linter.unusedVariables false
namespace Go.Proofs.YtmlkpnfjgifgfaaGreatDoor
open Go.RowKit
set_option maxRecDepth 100000

set_option maxHeartbeats 8000000 in
theorem inverts_yes (w : World) (A A' : Option Addr) (len cap len' cap' side n : Nat) (f f' : Nat → Int × Int × Int) (hR : RatS w A len f) (hR' : RatS w A' len' f') (h64 : Rat64 f) (h64' : Rat64 f') (hl : len ≤ 9223372036854775807) (hl' : len' ≤ 9223372036854775807) (hside : side < 256) (hn : side % 5 = n) (hn0 : 0 < n) (hst : (elimS n n 0 (sqF f len n) 0).1 = n) (hT : Tab w) :
    Calls Tryz.prog 3 #[.slice A len cap, .slice A' len' cap', .int .u8 side] w fun e w' => e = .returned (.bool true) ∧ Below w.heap.size w w' := by
  have HR0 := Lib.hid hR
  have HR1 := Lib.hid hR'
  have HT := Lib.hid hT
  have H64 := Lib.hid h64
  have H65 := Lib.hid h64'
  have hw1 : ((side : Int)).tmod 5 = (n : Int) := by
    rw [Int.tmod_eq_emod_of_nonneg (by omega)]
    omega
  have hw2 : (side : Int) % 5 = (n : Int) := by omega
  clear hR hR' h64 h64' hT hn
  go_enter Tryz.func3, Tryz.ntmps3
  go_wp2_with fail
  obtain ⟨F, hF⟩ : ∃ F, F = sqF f len n := ⟨_, rfl⟩
  have hSF : ∀ i k, Sz (F i k) 2 := by rw [hF]; exact sqF_sz H64.out len n
  have HSF := Lib.hid hSF
  have hn4 : n ≤ 4 := by omega
  rw [← hF] at hst
  have HDZ := Lib.hid (show detF n F ≠ .zero from (detF_ne hn0 F).2 hst)
  have hRK : rkS n n 0 0 F = n := (rkS_full n n 0 F 0 (by omega)).2 hst
  have HRR := Lib.hid hRK
  have HST := Lib.hid hst
  clear hst hRK
  clear hSF
  have hsq := squareM_any w A len cap n f HR0.out H64.out (by omega) hl HT.out
  rw [← hF] at hsq
  refine hsq.mono ?_
  clear hsq hF hw1 hw2
  rintro e W1 ⟨gm, gi, rfl, hM, hP, hb1⟩
  have HM1 := Lib.hid hM
  have KB1 := Lib.hid hb1
  have HH := Lib.hid (small_h5 hn4)
  have HZ := Lib.hid (small_sz hn4)
  clear hM hP hb1
  go_upto_region 3 with fail
  refine region_lin [.val (kIs (.slice (some ⟨gm, 0, none⟩) n n)), .val (kTup (detF n F) 0), .val (kTup (detF n F) 0), .val (kNum (detF n F)), .val (kIs (.int .i64 0)), .box 30 zNum, .put 5 3, .val (kIs (.int .i64 0))]
    (by kernel_rfl) (by kernel_rfl) (by kernel_rfl) (by kernel_rfl) (by kernel_rfl) ⟨stab_is _, stab_tup _ _, stab_tup _ _, stab_num _, stab_is _, stab_is _, trivial⟩ (by simp) ⟨?_, ?_, ?_, ?_, ?_, alloc_num, store_num _, ?_, trivial⟩ ?_
  · intro ts W hb hB hp; intro K hK; simp only [fillT, Nat.zero_add, Nat.reduceAdd, List.setIfInBounds_toArray, List.set_cons_zero, List.set_cons_succ] at hK ⊢; have HK := Lib.hid hK; clear hK hp; refine ⟨?_⟩; go_simp; exact HK.out _ _ rfl (Below.refl _ _)
  · intro ts W hb hB hp; have h0 : ts 0 = _ := hp 0 (by kernel_rfl); intro K hK; simp only [fillT, Nat.zero_add, Nat.reduceAdd, List.setIfInBounds_toArray, List.set_cons_zero, List.set_cons_succ, h0] at hK ⊢; have HK := Lib.hid hK; clear hK hp; refine ⟨?_⟩; go_simp; refine (detN_any W gm gi n 2 F (HM1.out.below hb) hn0 (by omega) (HT.out.below (below_trans KB1.out hb)) (fun a b _ _ => HSF.out a b) (by have := HZ.out.1; omega)).mono ?_; rintro e W9 ⟨r9, rfl, hr9, hb9⟩; exact HK.out _ _ ⟨r9, rfl, hr9⟩ hb9
  · intro ts W hb hB hp; have h1 := hp 1 (by kernel_rfl); intro K hK; simp only [fillT, Nat.zero_add, Nat.reduceAdd, List.setIfInBounds_toArray, List.set_cons_zero, List.set_cons_succ] at hK ⊢; have HK := Lib.hid hK; clear hK hp; refine ⟨?_⟩; go_simp; exact HK.out _ _ h1 (Below.refl _ _)
  · intro ts W hb hB hp; have h2 := hp 2 (by kernel_rfl); intro K hK; obtain ⟨u2, e2, n2⟩ := h2; simp only [fillT, Nat.zero_add, Nat.reduceAdd, List.setIfInBounds_toArray, List.set_cons_zero, List.set_cons_succ, e2] at hK ⊢; have HK := Lib.hid hK; clear hK hp; refine ⟨?_⟩; go_simp; exact HK.out _ _ n2 (Below.refl _ _)
  · intro ts W hb hB hp; have h2 := hp 2 (by kernel_rfl); intro K hK; obtain ⟨u2, e2, n2⟩ := h2; simp only [fillT, Nat.zero_add, Nat.reduceAdd, List.setIfInBounds_toArray, List.set_cons_zero, List.set_cons_succ, e2] at hK ⊢; have HK := Lib.hid hK; clear hK hp; refine ⟨?_⟩; go_simp; exact HK.out _ _ rfl (Below.refl _ _)
  · intro ts W hb hB hp; have h4 : ts 4 = _ := hp 4 (by kernel_rfl); intro K hK; simp only [fillT, Nat.zero_add, Nat.reduceAdd, List.setIfInBounds_toArray, List.set_cons_zero, List.set_cons_succ, h4] at hK ⊢; have HK := Lib.hid hK; clear hK hp; refine ⟨?_⟩; go_simp; exact HK.out _ _ rfl (Below.refl _ _)
  intro ts W2 hb2 hh hap
  have e7 := held_is (hh 7 (by simp)) rfl
  obtain ⟨g9, A9, n9, c9, p9, A9b, n9b, c9b, p9b, A9c, n9c, c9c, e5, lo9, z9, X9, N9⟩ := held_box (x := detF n F) (hh 5 (by simp)) rfl (hh 6 (by simp)) rfl (hh 3 (by simp)) rfl
  simp only [fillT, Nat.zero_add, Nat.reduceAdd, List.setIfInBounds_toArray, List.set_cons_zero, List.set_cons_succ, e7, e5]
  clear hh hap e7 e5
  generalize ts 0 = u0_W2 at *
  generalize ts 1 = u1_W2 at *
  generalize ts 2 = u2_W2 at *
  generalize ts 3 = u3_W2 at *
  generalize ts 4 = u4_W2 at *
  clear ts
  have HM2 := Lib.hid (HM1.out.below hb2)
  have KB2 := Lib.hid (below_trans KB1.out hb2)
  clear hb2 HM1 KB1 lo9
  have hrank := rankN_any W2 gm gi n 2 F HM2.out hn0 (by omega) (HT.out.below KB2.out) (fun a b _ _ => HSF.out a b) (by have := HZ.out.1; omega)
  have HRK := Lib.hid hrank
  clear hrank
  go_wp2_with fail
  rw [HRR.out] at HRK
  refine HRK.out.mono ?_
  rintro e W3 ⟨rfl, hb3⟩
  have HM3 := Lib.hid (HM2.out.below hb3)
  have KB3 := Lib.hid (below_trans KB2.out hb3)
  replace X9 := (hb3.block _ z9).trans X9
  replace z9 := Nat.lt_of_lt_of_le z9 hb3.size
  replace N9 := N9.below hb3
  clear hb3 HM2 KB2
  have hinv := inverseN_any W3 gm gi n 2 F HM3.out hn0 (by omega) (HT.out.below KB3.out) (fun a b _ _ => HSF.out a b) HH.out
  have HIV := Lib.hid hinv
  clear hinv
  go_wp2_with fail
  refine HIV.out.mono ?_
  intro e W4 hre
  have hre2 : RetMatE W3 n n (invF n F) 0 e W4 := by
    unfold RetInv at hre
    rw [if_pos HST.out] at hre
    exact hre
  clear hre
  obtain ⟨gv, gj, rfl, hV, hP, hb4⟩ := hre2
  have HM4 := Lib.hid (HM3.out.below hb4)
  have HV4 := Lib.hid hV
  have KB4 := Lib.hid (below_trans KB3.out hb4)
  replace X9 := (hb4.block _ z9).trans X9
  replace z9 := Nat.lt_of_lt_of_le z9 hb4.size
  replace N9 := N9.below hb4
  clear hb4 HM3 KB3 HIV HRK hV hP
  go_upto_region 6 with fail
  refine region_lin [.val (kIs (.int .i64 0)), .val (kIs (.bool false)), .val (kIs (.bool false)), .val (kIs (.int .i64 0)), .val (kIs (.bool false)), .val (kIs (.bool false)), .val (kIs (.bool false)), .val (kIs (.agg #[.slice A9 n9 c9, .bool p9, .slice A9b n9b c9b, .bool p9b, .slice A9c n9c c9c])), .val (kIs (.bool true)), .val (kIs (.int .i64 0)), .val (kIs (.bool true)), .val (kIs (.bool false)), .val (kIs (.bool false)), .val (kIs (.bool false)), .val (kIs (.agg #[.slice A9 n9 c9, .bool p9, .slice A9b n9b c9b, .bool p9b, .slice A9c n9c c9c])), .val (kIs (.bool true)), .val (kIs (.int .i64 (n : Int))), .val (kIs (.int .i64 (n : Int))), .val (kIs (.bool true)), .val (kIs (.bool false)), .val (kIs (.bool false))]
    (by kernel_rfl) (by kernel_rfl) (by kernel_rfl) (by kernel_rfl) (by kernel_rfl) ⟨Stab.b (stab_is _), Stab.b (stab_is _), Stab.b (stab_is _), Stab.b (stab_is _), Stab.b (stab_is _), Stab.b (stab_is _), Stab.b (stab_is _), Stab.b (stab_is _), Stab.b (stab_is _), Stab.b (stab_is _), Stab.b (stab_is _), Stab.b (stab_is _), Stab.b (stab_is _), Stab.b (stab_is _), Stab.b (stab_is _), Stab.b (stab_is _), Stab.b (stab_is _), Stab.b (stab_is _), Stab.b (stab_is _), Stab.b (stab_is _), Stab.b (stab_is _), trivial⟩ (by simp) ⟨?_, ?_, ?_, ?_, ?_, ?_, ?_, ?_, ?_, ?_, ?_, ?_, ?_, ?_, ?_, ?_, ?_, ?_, ?_, ?_, ?_, trivial⟩ ?_
  · intro ts W hb hB hp; intro K hK; simp only [fillT, Nat.zero_add, Nat.reduceAdd, List.setIfInBounds_toArray, List.set_cons_zero, List.set_cons_succ] at hK ⊢; have HK := Lib.hid hK; clear hK hp; refine ⟨?_⟩; go_simp; exact HK.out _ _ rfl (Below.refl _ _)
  · intro ts W hb hB hp; have h0 : ts 0 = _ := hp 0 (by kernel_rfl); intro K hK; simp only [fillT, Nat.zero_add, Nat.reduceAdd, List.setIfInBounds_toArray, List.set_cons_zero, List.set_cons_succ, h0] at hK ⊢; have HK := Lib.hid hK; clear hK hp; refine ⟨?_⟩; go_simp; exact HK.out _ _ (by simp [kIs, *]) (Below.refl _ _)
  · intro ts W hb hB hp; have h1 : ts 1 = _ := hp 1 (by kernel_rfl); intro K hK; simp only [fillT, Nat.zero_add, Nat.reduceAdd, List.setIfInBounds_toArray, List.set_cons_zero, List.set_cons_succ, h1] at hK ⊢; have HK := Lib.hid hK; clear hK hp; refine ⟨?_⟩; go_simp; exact HK.out _ _ rfl (Below.refl _ _)
  · intro ts W hb hB hp; have h2 : ts 2 = _ := hp 2 (by kernel_rfl); refine Guarded.on h2 ?_; clear h2; intro K hK; simp only [fillT, Nat.zero_add, Nat.reduceAdd, List.setIfInBounds_toArray, List.set_cons_zero, List.set_cons_succ] at hK ⊢; have HK := Lib.hid hK; clear hK hp; refine ⟨?_⟩; go_simp; exact HK.out _ _ rfl (Below.refl _ _)
  · intro ts W hb hB hp; have h3 : ts 3 = _ := hp 3 (by kernel_rfl); have h2 : ts 2 = _ := hp 2 (by kernel_rfl); refine Guarded.on h2 ?_; clear h2; intro K hK; simp only [fillT, Nat.zero_add, Nat.reduceAdd, List.setIfInBounds_toArray, List.set_cons_zero, List.set_cons_succ, h3] at hK ⊢; have HK := Lib.hid hK; clear hK hp; refine ⟨?_⟩; go_simp; exact HK.out _ _ (by simp [kIs, *]) (Below.refl _ _)
  · intro ts W hb hB hp; have h2 : ts 2 = _ := hp 2 (by kernel_rfl); have h4 : ts 4 = _ := hp 4 (by kernel_rfl); intro K hK; simp only [fillT, Nat.zero_add, Nat.reduceAdd, List.setIfInBounds_toArray, List.set_cons_zero, List.set_cons_succ, h2, h4] at hK ⊢; have HK := Lib.hid hK; clear hK hp; refine ⟨?_⟩; go_simp; exact HK.out _ _ rfl (Below.refl _ _)
  · intro ts W hb hB hp; have h5 : ts 5 = _ := hp 5 (by kernel_rfl); intro K hK; simp only [fillT, Nat.zero_add, Nat.reduceAdd, List.setIfInBounds_toArray, List.set_cons_zero, List.set_cons_succ, h5] at hK ⊢; have HK := Lib.hid hK; clear hK hp; refine ⟨?_⟩; go_simp; exact HK.out _ _ rfl (Below.refl _ _)
  · intro ts W hb hB hp; have h6 : ts 6 = _ := hp 6 (by kernel_rfl); refine Guarded.on h6 ?_; clear h6; intro K hK; simp only [fillT, Nat.zero_add, Nat.reduceAdd, List.setIfInBounds_toArray, List.set_cons_zero, List.set_cons_succ] at hK ⊢; refine ⟨?_⟩; refine wp_load_row _ _ rfl (g9) rfl _ _ (0, 0) _ ((hb.block _ (z9)).trans X9) Tryz.underlying30 rfl (by kernel_rfl) ?_; exact hK _ _ rfl (Below.refl _ _)
  · intro ts W hb hB hp; have h7 : ts 7 = _ := hp 7 (by kernel_rfl); have h6 : ts 6 = _ := hp 6 (by kernel_rfl); refine Guarded.on h6 ?_; clear h6; intro K hK; simp only [fillT, Nat.zero_add, Nat.reduceAdd, List.setIfInBounds_toArray, List.set_cons_zero, List.set_cons_succ, h7] at hK ⊢; have HK := Lib.hid hK; clear hK hp; refine ⟨?_⟩; go_simp; refine (clearN_k _ (detF n F) W (N9.below hb) (clear_t HDZ.out)).mono ?_; rintro e W9 ⟨rfl, hb9⟩; exact HK.out _ _ rfl hb9
  · intro ts W hb hB hp; have h6 : ts 6 = _ := hp 6 (by kernel_rfl); refine Guarded.on h6 ?_; clear h6; intro K hK; simp only [fillT, Nat.zero_add, Nat.reduceAdd, List.setIfInBounds_toArray, List.set_cons_zero, List.set_cons_succ] at hK ⊢; have HK := Lib.hid hK; clear hK hp; refine ⟨?_⟩; go_simp; exact HK.out _ _ rfl (Below.refl _ _)
  · intro ts W hb hB hp; have h9 : ts 9 = _ := hp 9 (by kernel_rfl); have h6 : ts 6 = _ := hp 6 (by kernel_rfl); refine Guarded.on h6 ?_; clear h6; intro K hK; simp only [fillT, Nat.zero_add, Nat.reduceAdd, List.setIfInBounds_toArray, List.set_cons_zero, List.set_cons_succ, h9] at hK ⊢; have HK := Lib.hid hK; clear hK hp; refine ⟨?_⟩; go_simp; exact HK.out _ _ (by simp [kIs, *]) (Below.refl _ _)
  · intro ts W hb hB hp; have h8 : ts 8 = _ := hp 8 (by kernel_rfl); have h10 : ts 10 = _ := hp 10 (by kernel_rfl); have h6 : ts 6 = _ := hp 6 (by kernel_rfl); refine Guarded.on h6 ?_; clear h6; intro K hK; simp only [fillT, Nat.zero_add, Nat.reduceAdd, List.setIfInBounds_toArray, List.set_cons_zero, List.set_cons_succ, h8, h10] at hK ⊢; have HK := Lib.hid hK; clear hK hp; refine ⟨?_⟩; go_simp; exact HK.out _ _ (by simp [kIs, *]) (Below.refl _ _)
  · intro ts W hb hB hp; have h6 : ts 6 = _ := hp 6 (by kernel_rfl); have h11 : ts 11 = _ := hp 11 (by kernel_rfl); intro K hK; simp only [fillT, Nat.zero_add, Nat.reduceAdd, List.setIfInBounds_toArray, List.set_cons_zero, List.set_cons_succ, h6, h11] at hK ⊢; have HK := Lib.hid hK; clear hK hp; refine ⟨?_⟩; go_simp; exact HK.out _ _ rfl (Below.refl _ _)
  · intro ts W hb hB hp; have h12 : ts 12 = _ := hp 12 (by kernel_rfl); intro K hK; simp only [fillT, Nat.zero_add, Nat.reduceAdd, List.setIfInBounds_toArray, List.set_cons_zero, List.set_cons_succ, h12] at hK ⊢; have HK := Lib.hid hK; clear hK hp; refine ⟨?_⟩; go_simp; exact HK.out _ _ rfl (Below.refl _ _)
  · intro ts W hb hB hp; have h13 : ts 13 = _ := hp 13 (by kernel_rfl); refine Guarded.on h13 ?_; clear h13; intro K hK; simp only [fillT, Nat.zero_add, Nat.reduceAdd, List.setIfInBounds_toArray, List.set_cons_zero, List.set_cons_succ] at hK ⊢; refine ⟨?_⟩; refine wp_load_row _ _ rfl (g9) rfl _ _ (0, 0) _ ((hb.block _ (z9)).trans X9) Tryz.underlying30 rfl (by kernel_rfl) ?_; exact hK _ _ rfl (Below.refl _ _)
  · intro ts W hb hB hp; have h14 : ts 14 = _ := hp 14 (by kernel_rfl); have h13 : ts 13 = _ := hp 13 (by kernel_rfl); refine Guarded.on h13 ?_; clear h13; intro K hK; simp only [fillT, Nat.zero_add, Nat.reduceAdd, List.setIfInBounds_toArray, List.set_cons_zero, List.set_cons_succ, h14] at hK ⊢; have HK := Lib.hid hK; clear hK hp; refine ⟨?_⟩; go_simp; refine (clearN_k _ (detF n F) W (N9.below hb) (clear_t HDZ.out)).mono ?_; rintro e W9 ⟨rfl, hb9⟩; exact HK.out _ _ rfl hb9
  · intro ts W hb hB hp; have h13 : ts 13 = _ := hp 13 (by kernel_rfl); refine Guarded.on h13 ?_; clear h13; intro K hK; simp only [fillT, Nat.zero_add, Nat.reduceAdd, List.setIfInBounds_toArray, List.set_cons_zero, List.set_cons_succ] at hK ⊢; have HK := Lib.hid hK; clear hK hp; refine ⟨?_⟩; go_simp; exact HK.out _ _ rfl (Below.refl _ _)
  · intro ts W hb hB hp; have h13 : ts 13 = _ := hp 13 (by kernel_rfl); refine Guarded.on h13 ?_; clear h13; intro K hK; simp only [fillT, Nat.zero_add, Nat.reduceAdd, List.setIfInBounds_toArray, List.set_cons_zero, List.set_cons_succ] at hK ⊢; have HK := Lib.hid hK; clear hK hp; refine ⟨?_⟩; go_simp; exact HK.out _ _ rfl (Below.refl _ _)
  · intro ts W hb hB hp; have h16 : ts 16 = _ := hp 16 (by kernel_rfl); have h17 : ts 17 = _ := hp 17 (by kernel_rfl); have h13 : ts 13 = _ := hp 13 (by kernel_rfl); refine Guarded.on h13 ?_; clear h13; intro K hK; simp only [fillT, Nat.zero_add, Nat.reduceAdd, List.setIfInBounds_toArray, List.set_cons_zero, List.set_cons_succ, h16, h17] at hK ⊢; have HK := Lib.hid hK; clear hK hp; refine ⟨?_⟩; go_simp; exact HK.out _ _ (by simp [kIs, *]) (Below.refl _ _)
  · intro ts W hb hB hp; have h15 : ts 15 = _ := hp 15 (by kernel_rfl); have h18 : ts 18 = _ := hp 18 (by kernel_rfl); have h13 : ts 13 = _ := hp 13 (by kernel_rfl); refine Guarded.on h13 ?_; clear h13; intro K hK; simp only [fillT, Nat.zero_add, Nat.reduceAdd, List.setIfInBounds_toArray, List.set_cons_zero, List.set_cons_succ, h15, h18] at hK ⊢; have HK := Lib.hid hK; clear hK hp; refine ⟨?_⟩; go_simp; exact HK.out _ _ (by simp [kIs, *]) (Below.refl _ _)
  · intro ts W hb hB hp; have h13 : ts 13 = _ := hp 13 (by kernel_rfl); have h19 : ts 19 = _ := hp 19 (by kernel_rfl); intro K hK; simp only [fillT, Nat.zero_add, Nat.reduceAdd, List.setIfInBounds_toArray, List.set_cons_zero, List.set_cons_succ, h13, h19] at hK ⊢; have HK := Lib.hid hK; clear hK hp; refine ⟨?_⟩; go_simp; exact HK.out _ _ rfl (Below.refl _ _)
  intro ts W5 hb5 hh hap
  have e20 := held_is (hh 20 (by simp)) rfl
  simp only [fillT, Nat.zero_add, Nat.reduceAdd, List.setIfInBounds_toArray, List.set_cons_zero, List.set_cons_succ, e20]
  clear hh hap e20
  generalize ts 0 = u0_W5 at *
  generalize ts 1 = u1_W5 at *
  generalize ts 2 = u2_W5 at *
  generalize ts 3 = u3_W5 at *
  generalize ts 4 = u4_W5 at *
  generalize ts 5 = u5_W5 at *
  generalize ts 6 = u6_W5 at *
  generalize ts 7 = u7_W5 at *
  generalize ts 8 = u8_W5 at *
  generalize ts 9 = u9_W5 at *
  generalize ts 10 = u10_W5 at *
  generalize ts 11 = u11_W5 at *
  generalize ts 12 = u12_W5 at *
  generalize ts 13 = u13_W5 at *
  generalize ts 14 = u14_W5 at *
  generalize ts 15 = u15_W5 at *
  generalize ts 16 = u16_W5 at *
  generalize ts 17 = u17_W5 at *
  generalize ts 18 = u18_W5 at *
  generalize ts 19 = u19_W5 at *
  clear ts
  have HM5 := Lib.hid (HM4.out.below hb5)
  have HV5 := Lib.hid (HV4.out.below hb5)
  have KB5 := Lib.hid (below_trans KB4.out hb5)
  clear hb5 HM4 HV4 KB4 X9 N9 z9
  obtain ⟨FR, hFR⟩ : ∃ FR, FR = sqF f' len' n := ⟨_, rfl⟩
  have HSR := Lib.hid (show ∀ i k, Sz (FR i k) 2 by rw [hFR]; exact sqF_sz H65.out len' n)
  have hsq := squareM_any W5 A' len' cap' n f' (HR1.out.below KB5.out) H65.out (by omega) hl' (HT.out.below KB5.out)
  rw [← hFR] at hsq
  have HSQ := Lib.hid hsq
  clear hsq hFR
  go_wp2_with fail
  refine HSQ.out.mono ?_
  rintro e W6 ⟨gr, gs, rfl, hR, hP, hb6⟩
  have HM6 := Lib.hid (HM5.out.below hb6)
  have HV6 := Lib.hid (HV5.out.below hb6)
  have HR6 := Lib.hid hR
  have KB6 := Lib.hid (below_trans KB5.out hb6)
  clear hb6 HM5 HV5 KB5 hR hP HSQ
  have HSV := Lib.hid (invF_sz (n := n) HSF.out)
  go_wp2_with fail
  refine (productN_any W6 gm gv gi gj n n n 2 (szX (szE 2 n) n) F (invF n F) HM6.out HV6.out hn0 hn0 (by omega) (by omega) (by omega) (HT.out.below KB6.out) (fun a b _ _ => HSF.out a b) HSV.out (by have := HZ.out.2; omega)).mono ?_
  rintro e W7 ⟨gp, gq, rfl, hPm, hP, hb7⟩
  have HM7 := Lib.hid (HM6.out.below hb7)
  have HV7 := Lib.hid (HV6.out.below hb7)
  have HR7 := Lib.hid (HR6.out.below hb7)
  have HP7 := Lib.hid (hPm.congr (F' := idF) fun i k hi hk => inv_right HST.out i k hi hk)
  have KB7 := Lib.hid (below_trans KB6.out hb7)
  clear hb7 hPm hP HM6 HV6 HR6 KB6
  go_wp2_with fail
  refine (productN_any W7 gv gm gj gi n n n (szX (szE 2 n) n) 2 (invF n F) F HV7.out HM7.out hn0 hn0 (by omega) (by omega) (by omega) (HT.out.below KB7.out) HSV.out (fun a b _ _ => HSF.out a b) (by have := HZ.out.2; omega)).mono ?_
  rintro e W8 ⟨gk, gl, rfl, hQm, hP, hb8⟩
  have HM8 := Lib.hid (HM7.out.below hb8)
  have HR8 := Lib.hid (HR7.out.below hb8)
  have HP8 := Lib.hid (HP7.out.below hb8)
  have HQ8 := Lib.hid (hQm.congr (F' := idF) fun i k hi hk => left_inv HST.out (fun i k hi hk => inv_right HST.out i k hi hk) i k hi hk)
  have KB8 := Lib.hid (below_trans KB7.out hb8)
  clear hb8 hQm hP HP7 KB7 HM7 HV7 HR7 HSV
  go_wp2_with fail
  refine (identityN_any W8 n (by omega)).mono ?_
  rintro e W9 ⟨gI, iI, rfl, hI, hP, hb9⟩
  have HM9 := Lib.hid (HM8.out.below hb9)
  have HR9 := Lib.hid (HR8.out.below hb9)
  have HP9 := Lib.hid (HP8.out.below hb9)
  have HQ9 := Lib.hid (HQ8.out.below hb9)
  have HI9 := Lib.hid hI
  have KB9 := Lib.hid (below_trans KB8.out hb9)
  clear hb9 hI hP HP8 HQ8 KB8 HM8 HR8
  go_wp2_with fail
  refine (sameM_true W9 gp gI gq iI n n 1 idF idF HP9.out HI9.out (by omega) (by omega) (fun a b _ _ => idF_sz a b) (fun a b _ _ => idF_sz a b) (by omega) (fun _ _ _ _ => rfl)).mono ?_
  rintro e W10 ⟨rfl, hb10⟩
  have HM10 := Lib.hid (HM9.out.below hb10)
  have HR10 := Lib.hid (HR9.out.below hb10)
  have HP10 := Lib.hid (HP9.out.below hb10)
  have HQ10 := Lib.hid (HQ9.out.below hb10)
  have KB10 := Lib.hid (below_trans KB9.out hb10)
  clear hb10 HP9 HQ9 HI9 KB9 HM9 HR9
  go_wp2_with fail
  refine (sameM_true W10 gk gp gl gq n n 1 idF idF HQ10.out HP10.out (by omega) (by omega) (fun a b _ _ => idF_sz a b) (fun a b _ _ => idF_sz a b) (by omega) (fun _ _ _ _ => rfl)).mono ?_
  rintro e W11 ⟨rfl, hb11⟩
  have HM11 := Lib.hid (HM10.out.below hb11)
  have HR11 := Lib.hid (HR10.out.below hb11)
  have KB11 := Lib.hid (below_trans KB10.out hb11)
  clear hb11 HP10 HQ10 KB10 HM10 HR10
  go_wp2
  go_loopw [111] (fun j wr => ∃ r : Nat, j = .int .i64 r ∧ r ≤ n ∧ MatAt wr gm gi n n F ∧ MatAt wr gr gs n n FR ∧ Below w.heap.size w wr) (fun j _ => n - (intOf j).toNat)
  case atStart => exact ⟨0, rfl, by omega, HM11.out, HR11.out, KB11.out⟩
  case round =>
    clear HM11 HR11 KB11
    obtain ⟨r, rfl, hrn, hM, hR, hB⟩ := hrel
    have HM := Lib.hid hM
    have HRw := Lib.hid hR
    have KB := Lib.hid hB
    clear hM hR hB
    by_cases hr : r < n
    · obtain ⟨f2, hf2⟩ : ∃ f2, f2 = FR r := ⟨_, rfl⟩
      have HF2 := Lib.hid (show ∀ i, Sz (f2 i) 2 by rw [hf2]; exact HSR.out r)
      have HRR2 := Lib.hid (show NBlk wr (gs r) n f2 by rw [hf2]; exact HRw.out.row hr)
      have hrow := HRw.out.cell hr
      obtain ⟨X, hX⟩ : ∃ X, X = solX (elimS n n 0 (addC F n f2 n) 0).2.2 n n := ⟨_, rfl⟩
      have hsol := solveN_ok wr gm (gs r) gi n 2 F f2 HM.out HRR2.out hn0 (by omega) (HT.out.below KB.out) (fun a b _ _ => HSF.out a b) (fun a _ => HF2.out a) HST.out HH.out
      rw [← hX] at hsol
      have HSX := Lib.hid (show ∀ j, Sz (X j) (szX (szE 2 n) n) by rw [hX]; exact solve_sz HSF.out HF2.out)
      have HXE := Lib.hid (show ∀ i, i < n → sm (fun j => (F i j).mul (X j)) 0 n = f2 i by rw [hX]; exact solve_right HST.out)
      have HSO := Lib.hid hsol
      have HF2E := Lib.hid hf2
      clear hsol hX hf2
      go_wp2_with fail
      clear hrow
      refine HSO.out.mono ?_
      rintro e W20 ⟨gx, rfl, hN, hgx, hb20⟩
      have HM2 := Lib.hid (HM.out.below hb20)
      have HRw2 := Lib.hid (HRw.out.below hb20)
      have HX0 := Lib.hid hN
      have KB2 := Lib.hid (below_trans KB.out hb20)
      clear hN hgx hb20 HM HRw KB HRR2 HSO
      have hnn : ((n : Int) != (n : Int)) = false := by simp
      obtain ⟨W21, hr1, hb1, hs1, hP⟩ := make_mat n 1 (by omega) W20 (fun i _ => X i) (fun _ => 0)
      have HC0 := Lib.hid hP
      have HX1 := Lib.hid (HX0.out.below hb1)
      have HM3 := Lib.hid (HM2.out.below hb1)
      have HRw3 := Lib.hid (HRw2.out.below hb1)
      have KB3 := Lib.hid (below_trans KB2.out hb1)
      have HG := Lib.hid (show gx < W20.heap.size ∧ gm < W20.heap.size ∧ gr < W20.heap.size ∧ (∀ a, a < n → gi a < W20.heap.size) ∧ (∀ a, a < n → gs a < W20.heap.size) from ⟨HX0.out.lt, HM2.out.lt, HRw2.out.lt, fun a ha => (HM2.out.row ha).lt, fun a ha => (HRw2.out.row ha).lt⟩)
      clear hP hb1 hs1 HX0 HM2 HRw2
      obtain ⟨gc, hgc2⟩ : ∃ gc, gc = W20.heap.size := ⟨_, rfl⟩
      rw [← hgc2] at hr1 HC0 HG
      have hlo : w.heap.size ≤ gc := by rw [hgc2]; exact KB2.out.size
      clear hgc2 KB2
      go_wp2
      clear hr1
      go_loopw [133] (fun j wr => ∃ (i : Nat) (g2 : Nat → Nat), j = .int .i64 i ∧ i ≤ n ∧ PMat gc wr gc g2 n 1 i (fun i _ => X i) ∧ NBlk wr gx n X ∧ MatAt wr gm gi n n F ∧ MatAt wr gr gs n n FR ∧ Below w.heap.size w wr) (fun j _ => n - (intOf j).toNat)
      case atStart => exact ⟨0, fun _ => 0, rfl, by omega, HC0.out, HX1.out, HM3.out, HRw3.out, KB3.out⟩
      case round =>
        clear HC0 HX1 HM3 HRw3 KB3
        rename_i wr1
        obtain ⟨i, g2, rfl, hin, hC, hX, hM, hR, hB⟩ := hrel
        have HC := Lib.hid hC
        have HX := Lib.hid hX
        have HM := Lib.hid hM
        have HRw := Lib.hid hR
        have KB := Lib.hid hB
        clear hC hX hM hR hB
        by_cases hi : i < n
        · go_upto_region 25 with fail
          refine region_last [.val (kIs (.slice (some ⟨gc, 0, none⟩) n n)), .val (kIs (.int .i64 (i : Int))), .val (kIs (.slice (some ⟨gx, 0, none⟩) n n)), .val (kIs (.int .i64 (i : Int))), .val (kIs (.pointer (some ⟨gx, 5 * i, none⟩))), .val (kNum (X i)), .val (kRowB wr.heap.size 1 (fun _ => X i)), .val (kIs (.pointer (some ⟨gc, i, none⟩)))]
            (by kernel_rfl) (by kernel_rfl) (by kernel_rfl) (by kernel_rfl) (by kernel_rfl) ⟨Stab.b (stab_is _), Stab.b (stab_is _), Stab.b (stab_is _), Stab.b (stab_is _), Stab.b (stab_is _), Stab.b (stab_num _), stab_rowB _ _ _, Stab.b (stab_is _), trivial⟩ (by simp) (ol := _) rfl (by kernel_rfl) ⟨?_, ?_, ?_, ?_, ?_, ?_, ?_, ?_, trivial⟩ ?_
          · intro ts W hb hB hp; intro K hK; simp only [fillT, Nat.zero_add, Nat.reduceAdd, List.setIfInBounds_toArray, List.set_cons_zero, List.set_cons_succ] at hK ⊢; have HK := Lib.hid hK; clear hK hp; refine ⟨?_⟩; go_simp; exact HK.out _ _ rfl (Below.refl _ _)
          · intro ts W hb hB hp; intro K hK; simp only [fillT, Nat.zero_add, Nat.reduceAdd, List.setIfInBounds_toArray, List.set_cons_zero, List.set_cons_succ] at hK ⊢; have HK := Lib.hid hK; clear hK hp; refine ⟨?_⟩; go_simp; exact HK.out _ _ rfl (Below.refl _ _)
          · intro ts W hb hB hp; intro K hK; simp only [fillT, Nat.zero_add, Nat.reduceAdd, List.setIfInBounds_toArray, List.set_cons_zero, List.set_cons_succ] at hK ⊢; have HK := Lib.hid hK; clear hK hp; refine ⟨?_⟩; go_simp; exact HK.out _ _ rfl (Below.refl _ _)
          · intro ts W hb hB hp; intro K hK; simp only [fillT, Nat.zero_add, Nat.reduceAdd, List.setIfInBounds_toArray, List.set_cons_zero, List.set_cons_succ] at hK ⊢; have HK := Lib.hid hK; clear hK hp; refine ⟨?_⟩; go_simp; exact HK.out _ _ rfl (Below.refl _ _)
          · intro ts W hb hB hp; have h2 : ts 2 = _ := hp 2 (by kernel_rfl); have h3 : ts 3 = _ := hp 3 (by kernel_rfl); intro K hK; simp only [fillT, Nat.zero_add, Nat.reduceAdd, List.setIfInBounds_toArray, List.set_cons_zero, List.set_cons_succ, h2, h3] at hK ⊢; have HK := Lib.hid hK; clear hK hp; refine ⟨?_⟩; go_simp; exact HK.out _ _ (by simp [kIs, Nat.mul_comm]) (Below.refl _ _)
          · intro ts W hb hB hp; have h4 : ts 4 = _ := hp 4 (by kernel_rfl); intro K hK; simp only [fillT, Nat.zero_add, Nat.reduceAdd, List.setIfInBounds_toArray, List.set_cons_zero, List.set_cons_succ, h4] at hK ⊢; have HK := Lib.hid hK; clear hK hp; refine ⟨?_⟩; refine wp_load_elem rfl rfl (HX.out.below hb) hi (fun v hv => HK.out _ _ hv (Below.refl _ _))
          · intro ts W hb hB hp; have h5 : IsNum W (ts 5) (X i) := hp 5 (by kernel_rfl); intro K hK; simp only [fillT, Nat.zero_add, Nat.reduceAdd, List.setIfInBounds_toArray, List.set_cons_zero, List.set_cons_succ] at hK ⊢; have HK := Lib.hid hK; clear hK hp; obtain ⟨W8, hr8, hb8, hn8⟩ := build1 W (ts 5) _ h5; refine ⟨?_⟩; exact wp_buildSlice rfl (by simp [Act.eval]) hr8 (HK.out _ _ ⟨_, rfl, hn8, hB⟩ hb8)
          · intro ts W hb hB hp; have h0 : ts 0 = _ := hp 0 (by kernel_rfl); have h1 : ts 1 = _ := hp 1 (by kernel_rfl); intro K hK; simp only [fillT, Nat.zero_add, Nat.reduceAdd, List.setIfInBounds_toArray, List.set_cons_zero, List.set_cons_succ, h0, h1] at hK ⊢; have HK := Lib.hid hK; clear hK hp; refine ⟨?_⟩; go_simp; exact HK.out _ _ rfl (Below.refl _ _)
          intro ts W3 hb3 hh hap K hK
          obtain ⟨g6, e6, n6, l6⟩ := (hh 6 (by simp) : Held _ _ ts _ W3 6)
          have e7 := held_is (hh 7 (by simp)) rfl
          have P2 := HC.out.below hb3
          have c1 := P2.cell_nil (Nat.le_refl i) hi
          have c2 := P2.frozen i
          obtain ⟨P3, hbut, hext⟩ := HC.out.row hb3 l6 n6 hi
          obtain ⟨k1, k2, k3, k4, k5⟩ := HG.out
          have HC4 := Lib.hid P3
          have HX4 := Lib.hid ((HX.out.below hb3).but hbut hext (by omega))
          have HM4 := Lib.hid ((HM.out.below hb3).butBox hbut hext (by omega) fun a ha => by have := k4 a ha; omega)
          have HR4 := Lib.hid ((HRw.out.below hb3).butBox hbut hext (by omega) fun a ha => by have := k5 a ha; omega)
          have KB4 := Lib.hid (hbut.below (below_trans KB.out hb3) hlo)
          have HK := Lib.hid hK
          simp only [fillT, Nat.zero_add, Nat.reduceAdd, List.setIfInBounds_toArray, List.set_cons_zero, List.set_cons_succ, e6, e7]
          clear hK hh hap e6 e7 P2 P3 hbut hext k1 k2 k3 k4 k5 n6 l6 hb3
          refine ⟨?_⟩
          go_simp
          refine HK.out _ _ ?_
          clear HK c1 c2
          go_wp2
          go_roundw
          case rel => exact ⟨i + 1, _, by go_num, by omega, HC4.out, HX4.out, HM4.out, HR4.out, KB4.out⟩
          case measure => simp [intOf]; omega
        · obtain rfl : n = i := by omega
          have HD := Lib.hid (HC.out.done).1
          clear HC
          go_wp2_with fail
          refine (productN_any wr gm gc gi g2 n n 1 2 (szX (szE 2 n) n) F (fun i _ => X i) HM.out HD.out hn0 hn0 (by omega) (by omega) (by omega) (HT.out.below KB.out) (fun a b _ _ => HSF.out a b) (fun a _ _ _ => HSX.out a) (by have := HZ.out.2; omega)).mono ?_
          rintro e W30 ⟨gy, iy, rfl, hY, hP, hb30⟩
          have HY0 := Lib.hid (hY.congr (F' := fun i _ => f2 i) fun i k hi _ => HXE.out i hi)
          have HM5 := Lib.hid (HM.out.below hb30)
          have HR5 := Lib.hid (HRw.out.below hb30)
          have KB5 := Lib.hid (below_trans KB.out hb30)
          clear hY hP hb30 HM HRw KB HX HD
          go_wp2
          go_loopw [161] (fun j wr => ∃ i : Nat, j = .int .i64 i ∧ i ≤ n ∧ Below W30.heap.size W30 wr) (fun j _ => n - (intOf j).toNat)
          case atStart => exact ⟨0, rfl, by omega, Below.refl _ _⟩
          case round =>
            rename_i wr2
            obtain ⟨i, rfl, hin, hB⟩ := hrel
            have KL := Lib.hid hB
            have HY := Lib.hid (HY0.out.below hB)
            have HM6 := Lib.hid (HM5.out.below hB)
            have HRw := Lib.hid (HR5.out.below hB)
            have KB6 := Lib.hid (below_trans KB5.out hB)
            clear hB
            by_cases hi : i < n
            · have h01 : 0 < 1 := by omega
              have hrw : NBlk wr (gs r) n f2 := by rw [HF2E.out]; exact HRw.out.row hr
              have HRZ := Lib.hid hrw
              clear hrw
              go_upto_region 33 with fail
              refine region_lin [.val (kIs (.slice (some ⟨gy, 0, none⟩) n n)), .val (kIs (.int .i64 (i : Int))), .val (kIs (.pointer (some ⟨gy, i, none⟩))), .val (kIs (.slice (some ⟨iy i, 0, none⟩) 1 1)), .val (kIs (.int .i64 (1 : Int))), .val (kIs (.bool false)), .val (kIs (.bool false)), .val (kIs (.slice (some ⟨gy, 0, none⟩) n n)), .val (kIs (.int .i64 (i : Int))), .val (kIs (.pointer (some ⟨gy, i, none⟩))), .val (kIs (.slice (some ⟨iy i, 0, none⟩) 1 1)), .val (kIs (.pointer (some ⟨(iy i), 5 * 0, none⟩))), .val (kNum (f2 i)), .val (kIs (.slice (some ⟨(gs r), 0, none⟩) n n)), .val (kIs (.int .i64 (i : Int))), .val (kIs (.pointer (some ⟨(gs r), 5 * i, none⟩))), .val (kNum (f2 i)), .val (kIs (.bool true)), .val (kIs (.bool false)), .val (kIs (.bool false))]
                (by kernel_rfl) (by kernel_rfl) (by kernel_rfl) (by kernel_rfl) (by kernel_rfl) ⟨Stab.b (stab_is _), Stab.b (stab_is _), Stab.b (stab_is _), Stab.b (stab_is _), Stab.b (stab_is _), Stab.b (stab_is _), Stab.b (stab_is _), Stab.b (stab_is _), Stab.b (stab_is _), Stab.b (stab_is _), Stab.b (stab_is _), Stab.b (stab_is _), Stab.b (stab_num _), Stab.b (stab_is _), Stab.b (stab_is _), Stab.b (stab_is _), Stab.b (stab_num _), Stab.b (stab_is _), Stab.b (stab_is _), Stab.b (stab_is _), trivial⟩ (by simp) ⟨?_, ?_, ?_, ?_, ?_, ?_, ?_, ?_, ?_, ?_, ?_, ?_, ?_, ?_, ?_, ?_, ?_, ?_, ?_, ?_, trivial⟩ ?_
              · intro ts W hb hB hp; intro K hK; simp only [fillT, Nat.zero_add, Nat.reduceAdd, List.setIfInBounds_toArray, List.set_cons_zero, List.set_cons_succ] at hK ⊢; have HK := Lib.hid hK; clear hK hp; refine ⟨?_⟩; go_simp; exact HK.out _ _ rfl (Below.refl _ _)
              · intro ts W hb hB hp; intro K hK; simp only [fillT, Nat.zero_add, Nat.reduceAdd, List.setIfInBounds_toArray, List.set_cons_zero, List.set_cons_succ] at hK ⊢; have HK := Lib.hid hK; clear hK hp; refine ⟨?_⟩; go_simp; exact HK.out _ _ rfl (Below.refl _ _)
              · intro ts W hb hB hp; have h0 : ts 0 = _ := hp 0 (by kernel_rfl); have h1 : ts 1 = _ := hp 1 (by kernel_rfl); intro K hK; simp only [fillT, Nat.zero_add, Nat.reduceAdd, List.setIfInBounds_toArray, List.set_cons_zero, List.set_cons_succ, h0, h1] at hK ⊢; have HK := Lib.hid hK; clear hK hp; refine ⟨?_⟩; go_simp; exact HK.out _ _ rfl (Below.refl _ _)
              · intro ts W hb hB hp; have h2 : ts 2 = _ := hp 2 (by kernel_rfl); intro K hK; simp only [fillT, Nat.zero_add, Nat.reduceAdd, List.setIfInBounds_toArray, List.set_cons_zero, List.set_cons_succ, h2] at hK ⊢; have HK := Lib.hid hK; clear hK hp; have hcell := (HY.out.below hb).cell hi; refine ⟨?_⟩; go_simp; exact HK.out _ _ rfl (Below.refl _ _)
              · intro ts W hb hB hp; have h3 : ts 3 = _ := hp 3 (by kernel_rfl); intro K hK; simp only [fillT, Nat.zero_add, Nat.reduceAdd, List.setIfInBounds_toArray, List.set_cons_zero, List.set_cons_succ, h3] at hK ⊢; have HK := Lib.hid hK; clear hK hp; refine ⟨?_⟩; go_simp; exact HK.out _ _ rfl (Below.refl _ _)
              · intro ts W hb hB hp; have h4 : ts 4 = _ := hp 4 (by kernel_rfl); intro K hK; simp only [fillT, Nat.zero_add, Nat.reduceAdd, List.setIfInBounds_toArray, List.set_cons_zero, List.set_cons_succ, h4] at hK ⊢; have HK := Lib.hid hK; clear hK hp; refine ⟨?_⟩; go_simp; exact HK.out _ _ (by simp [kIs]) (Below.refl _ _)
              · intro ts W hb hB hp; have h5 : ts 5 = _ := hp 5 (by kernel_rfl); intro K hK; simp only [fillT, Nat.zero_add, Nat.reduceAdd, List.setIfInBounds_toArray, List.set_cons_zero, List.set_cons_succ, h5] at hK ⊢; have HK := Lib.hid hK; clear hK hp; refine ⟨?_⟩; go_simp; exact HK.out _ _ rfl (Below.refl _ _)
              · intro ts W hb hB hp; have h6 : ts 6 = _ := hp 6 (by kernel_rfl); refine Guarded.on h6 ?_; clear h6; intro K hK; simp only [fillT, Nat.zero_add, Nat.reduceAdd, List.setIfInBounds_toArray, List.set_cons_zero, List.set_cons_succ] at hK ⊢; have HK := Lib.hid hK; clear hK hp; refine ⟨?_⟩; go_simp; exact HK.out _ _ rfl (Below.refl _ _)
              · intro ts W hb hB hp; have h6 : ts 6 = _ := hp 6 (by kernel_rfl); refine Guarded.on h6 ?_; clear h6; intro K hK; simp only [fillT, Nat.zero_add, Nat.reduceAdd, List.setIfInBounds_toArray, List.set_cons_zero, List.set_cons_succ] at hK ⊢; have HK := Lib.hid hK; clear hK hp; refine ⟨?_⟩; go_simp; exact HK.out _ _ rfl (Below.refl _ _)
              · intro ts W hb hB hp; have h7 : ts 7 = _ := hp 7 (by kernel_rfl); have h8 : ts 8 = _ := hp 8 (by kernel_rfl); have h6 : ts 6 = _ := hp 6 (by kernel_rfl); refine Guarded.on h6 ?_; clear h6; intro K hK; simp only [fillT, Nat.zero_add, Nat.reduceAdd, List.setIfInBounds_toArray, List.set_cons_zero, List.set_cons_succ, h7, h8] at hK ⊢; have HK := Lib.hid hK; clear hK hp; refine ⟨?_⟩; go_simp; exact HK.out _ _ rfl (Below.refl _ _)
              · intro ts W hb hB hp; have h9 : ts 9 = _ := hp 9 (by kernel_rfl); have h6 : ts 6 = _ := hp 6 (by kernel_rfl); refine Guarded.on h6 ?_; clear h6; intro K hK; simp only [fillT, Nat.zero_add, Nat.reduceAdd, List.setIfInBounds_toArray, List.set_cons_zero, List.set_cons_succ, h9] at hK ⊢; have HK := Lib.hid hK; clear hK hp; have hcell := (HY.out.below hb).cell hi; refine ⟨?_⟩; go_simp; exact HK.out _ _ rfl (Below.refl _ _)
              · intro ts W hb hB hp; have h10 : ts 10 = _ := hp 10 (by kernel_rfl); have h6 : ts 6 = _ := hp 6 (by kernel_rfl); refine Guarded.on h6 ?_; clear h6; intro K hK; simp only [fillT, Nat.zero_add, Nat.reduceAdd, List.setIfInBounds_toArray, List.set_cons_zero, List.set_cons_succ, h10] at hK ⊢; have HK := Lib.hid hK; clear hK hp; refine ⟨?_⟩; go_simp; exact HK.out _ _ (by simp [kIs, Nat.mul_comm]) (Below.refl _ _)
              · intro ts W hb hB hp; have h11 : ts 11 = _ := hp 11 (by kernel_rfl); have h6 : ts 6 = _ := hp 6 (by kernel_rfl); refine Guarded.on h6 ?_; clear h6; intro K hK; simp only [fillT, Nat.zero_add, Nat.reduceAdd, List.setIfInBounds_toArray, List.set_cons_zero, List.set_cons_succ, h11] at hK ⊢; have HK := Lib.hid hK; clear hK hp; refine ⟨?_⟩; refine wp_load_elem rfl rfl ((HY.out.row hi).below hb) h01 (fun v hv => HK.out _ _ (hv) (Below.refl _ _))
              · intro ts W hb hB hp; have h6 : ts 6 = _ := hp 6 (by kernel_rfl); refine Guarded.on h6 ?_; clear h6; intro K hK; simp only [fillT, Nat.zero_add, Nat.reduceAdd, List.setIfInBounds_toArray, List.set_cons_zero, List.set_cons_succ] at hK ⊢; have HK := Lib.hid hK; clear hK hp; refine ⟨?_⟩; go_simp; exact HK.out _ _ rfl (Below.refl _ _)
              · intro ts W hb hB hp; have h6 : ts 6 = _ := hp 6 (by kernel_rfl); refine Guarded.on h6 ?_; clear h6; intro K hK; simp only [fillT, Nat.zero_add, Nat.reduceAdd, List.setIfInBounds_toArray, List.set_cons_zero, List.set_cons_succ] at hK ⊢; have HK := Lib.hid hK; clear hK hp; refine ⟨?_⟩; go_simp; exact HK.out _ _ rfl (Below.refl _ _)
              · intro ts W hb hB hp; have h13 : ts 13 = _ := hp 13 (by kernel_rfl); have h14 : ts 14 = _ := hp 14 (by kernel_rfl); have h6 : ts 6 = _ := hp 6 (by kernel_rfl); refine Guarded.on h6 ?_; clear h6; intro K hK; simp only [fillT, Nat.zero_add, Nat.reduceAdd, List.setIfInBounds_toArray, List.set_cons_zero, List.set_cons_succ, h13, h14] at hK ⊢; have HK := Lib.hid hK; clear hK hp; refine ⟨?_⟩; go_simp; exact HK.out _ _ (by simp [kIs, Nat.mul_comm]) (Below.refl _ _)
              · intro ts W hb hB hp; have h15 : ts 15 = _ := hp 15 (by kernel_rfl); have h6 : ts 6 = _ := hp 6 (by kernel_rfl); refine Guarded.on h6 ?_; clear h6; intro K hK; simp only [fillT, Nat.zero_add, Nat.reduceAdd, List.setIfInBounds_toArray, List.set_cons_zero, List.set_cons_succ, h15] at hK ⊢; have HK := Lib.hid hK; clear hK hp; refine ⟨?_⟩; refine wp_load_elem rfl rfl (HRZ.out.below hb) hi (fun v hv => HK.out _ _ (hv) (Below.refl _ _))
              · intro ts W hb hB hp; have h12 : IsNum W (ts 12) (f2 i) := hp 12 (by kernel_rfl); have h16 : IsNum W (ts 16) (f2 i) := hp 16 (by kernel_rfl); have h6 : ts 6 = _ := hp 6 (by kernel_rfl); refine Guarded.on h6 ?_; clear h6; intro K hK; simp only [fillT, Nat.zero_add, Nat.reduceAdd, List.setIfInBounds_toArray, List.set_cons_zero, List.set_cons_succ] at hK ⊢; have HK := Lib.hid hK; clear hK hp; refine ⟨?_⟩; go_simp; refine (sameN_k _ _ (f2 i) (f2 i) W h12 h16 2 (HF2.out i) (HF2.out i) (by omega) (same_t rfl)).mono ?_; rintro e W9 ⟨rfl, hb9⟩; exact HK.out _ _ rfl hb9
              · intro ts W hb hB hp; have h17 : ts 17 = _ := hp 17 (by kernel_rfl); have h6 : ts 6 = _ := hp 6 (by kernel_rfl); refine Guarded.on h6 ?_; clear h6; intro K hK; simp only [fillT, Nat.zero_add, Nat.reduceAdd, List.setIfInBounds_toArray, List.set_cons_zero, List.set_cons_succ, h17] at hK ⊢; have HK := Lib.hid hK; clear hK hp; refine ⟨?_⟩; go_simp; exact HK.out _ _ rfl (Below.refl _ _)
              · intro ts W hb hB hp; have h6 : ts 6 = _ := hp 6 (by kernel_rfl); have h18 : ts 18 = _ := hp 18 (by kernel_rfl); intro K hK; simp only [fillT, Nat.zero_add, Nat.reduceAdd, List.setIfInBounds_toArray, List.set_cons_zero, List.set_cons_succ, h6, h18] at hK ⊢; have HK := Lib.hid hK; clear hK hp; refine ⟨?_⟩; go_simp; exact HK.out _ _ rfl (Below.refl _ _)
              intro ts W31 hb31 hh hap
              have e19 := held_is (hh 19 (by simp)) rfl
              simp only [fillT, Nat.zero_add, Nat.reduceAdd, List.setIfInBounds_toArray, List.set_cons_zero, List.set_cons_succ, e19]
              clear hh hap e19
              generalize ts 0 = u0_W31 at *
              generalize ts 1 = u1_W31 at *
              generalize ts 2 = u2_W31 at *
              generalize ts 3 = u3_W31 at *
              generalize ts 4 = u4_W31 at *
              generalize ts 5 = u5_W31 at *
              generalize ts 6 = u6_W31 at *
              generalize ts 7 = u7_W31 at *
              generalize ts 8 = u8_W31 at *
              generalize ts 9 = u9_W31 at *
              generalize ts 10 = u10_W31 at *
              generalize ts 11 = u11_W31 at *
              generalize ts 12 = u12_W31 at *
              generalize ts 13 = u13_W31 at *
              generalize ts 14 = u14_W31 at *
              generalize ts 15 = u15_W31 at *
              generalize ts 16 = u16_W31 at *
              generalize ts 17 = u17_W31 at *
              generalize ts 18 = u18_W31 at *
              clear ts
              have KL2 := Lib.hid (below_trans KL.out hb31)
              clear hb31 HY HM6 HRw KB6 HRZ KL
              go_wp2
              go_roundw
              case rel => exact ⟨i + 1, by go_num, by omega, KL2.out⟩
              case measure => simp [intOf]; omega
            · obtain rfl : n = i := by omega
              clear HY
              go_wp2
              go_roundw
              case rel => exact ⟨r + 1, by go_num, by omega, HM6.out, HRw.out, KB6.out⟩
              case measure => simp [intOf]; omega
    · obtain rfl : r = n := by omega
      go_wp2_with fail
      refine (awake_any wr (HT.out.below KB.out)).mono ?_
      rintro e W12 ⟨rfl, hb12⟩
      have KB12 := Lib.hid (below_trans KB.out hb12)
      clear hb12 KB
      go_wp2
      go_ret
      exact ⟨rfl, KB12.out⟩
end Go.Proofs.YtmlkpnfjgifgfaaGreatDoor
set_option linter.unusedSimpArgs false
set_option linter.unusedVariables false
namespace Go.Proofs.YtmlkpnfjgifgfaaGreatDoor
open Go.RowKit
set_option maxRecDepth 100000

theorem inverts_walk (w : World) (A A' : Option Addr) (len cap len' cap' side : Nat) (f f' : Nat → Int × Int × Int) (hR : RatS w A len f) (hR' : RatS w A' len' f') (h64 : Rat64 f) (h64' : Rat64 f') (hl : len ≤ 9223372036854775807) (hl' : len' ≤ 9223372036854775807) (hside : side < 256) (hT : Tab w) :
    Calls Tryz.prog 3 #[.slice A len cap, .slice A' len' cap', .int .u8 side] w fun e w' => e = .returned (.bool true) ∧ Below w.heap.size w w' := by
  obtain ⟨n, hn⟩ : ∃ n, side % 5 = n := ⟨_, rfl⟩
  rcases Nat.eq_zero_or_pos n with h0 | h0
  · subst h0
    exact inverts_nil w A A' len cap len' cap' side f f' hR hR' h64 h64' hl hl' hside hn hT
  · by_cases hst : (elimS n n 0 (sqF f len n) 0).1 = n
    · exact inverts_yes w A A' len cap len' cap' side n f f' hR hR' h64 h64' hl hl' hside hn h0 hst hT
    · exact inverts_no w A A' len cap len' cap' side n f f' hR hR' h64 h64' hl hl' hside hn h0 hst hT
end Go.Proofs.YtmlkpnfjgifgfaaGreatDoor
