/- The law NumDeterminants. -/
import Derived.Test.YtmlkpnfjgifgfaaGreatDoorD01
import Derived.Test.YtmlkpnfjgifgfaaGreatDoorD02
import Derived.Test.YtmlkpnfjgifgfaaGreatDoorD03
import Derived.Test.YtmlkpnfjgifgfaaGreatDoorG33
set_option linter.unusedSimpArgs false
set_option linter.unusedVariables false
namespace Go.Proofs.YtmlkpnfjgifgfaaGreatDoor
open Go.RowKit
set_option maxRecDepth 100000

theorem dC_sz {n s : Nat} {F : Nat → Nat → Cx} (hS : ∀ a b, a < n → b < n → Sz (F a b) s) : Sz (dC n F) (1 + n * (szE s n + 1)) := by
  rcases Nat.eq_zero_or_pos n with h | h
  · subst h
    exact Sz.int (by rw [show (1 : Int).natAbs = 1 from rfl, wl_one]; omega) (by omega)
  · rw [← detF_dC h]
    unfold detF detR
    split
    · exact Sz.zero (by omega)
    · have h1 := Sz.prodD (elimS_sz n n s (Nat.le_refl _) n 0 F 0 (by omega) hS) (n - 1) (by omega)
      rw [show n - 1 + 1 = n by omega] at h1
      split
      · exact h1.neg.mono (by omega)
      · exact h1.mono (by omega)
theorem small_dets {n : Nat} (hn : n ≤ 4) : (33 * (szE 2 n + 2) < 549755813888 ∧ 1 + n * (szE 2 n + 1) ≤ 7501) ∧ 33 * (szE 25 n + 2) < 549755813888 ∧ 1 + n * (szE 25 n + 1) ≤ 65001 := by
  have h : n = 0 ∨ n = 1 ∨ n = 2 ∨ n = 3 ∨ n = 4 := by omega
  rcases h with rfl | rfl | rfl | rfl | rfl <;> decide
theorem detN_sq (w : World) (go : Nat) (gi : Nat → Nat) (n s : Nat) (F : Nat → Nat → Cx) (h : MatAt w go gi n n F) (hn1 : n ≤ 32) (hT : Tab w) (hS : ∀ a b, a < n → b < n → Sz (F a b) s) (h5 : 33 * (szE s n + 2) < 549755813888) :
    Calls Tryz.prog 7 #[.slice (some ⟨go, 0, none⟩) n n] w (RetNumE w (dC n F) 0) := by
  rcases Nat.eq_zero_or_pos n with h0 | h0
  · subst h0
    exact detN_nil w _ _
  · rw [← detF_dC h0]
    exact detN_any w go gi n s F h h0 hn1 hT hS h5
theorem productN_sq (w : World) (ga gb : Nat) (gi gj : Nat → Nat) (n s s1 : Nat) (F G : Nat → Nat → Cx) (hA : MatAt w ga gi n n F) (hB : MatAt w gb gj n n G) (hn1 : n ≤ 32) (hT : Tab w)
    (hSF : ∀ a b, a < n → b < n → Sz (F a b) s) (hSG : ∀ a b, a < n → b < n → Sz (G a b) s1) (h5 : 33 * (s + s1 + 5) < 549755813888) :
    Calls Tryz.prog 12 #[.slice (some ⟨ga, 0, none⟩) n n, .slice (some ⟨gb, 0, none⟩) n n] w (RetMatE w n n (mulM n F G) 0) := by
  rcases Nat.eq_zero_or_pos n with h0 | h0
  · subst h0
    refine (productN_nil w _ _ _ _).mono ?_
    rintro e w' ⟨go, gi, rfl, hM, hP, hb⟩
    exact ⟨go, gi, rfl, hM.congr fun i k hi => absurd hi (by omega), hP, hb⟩
  · exact productN_any w ga gb gi gj n n n s s1 F G hA hB h0 h0 hn1 hn1 hn1 hT hSF hSG h5
theorem adjointN_sq (w : World) (ga : Nat) (gi : Nat → Nat) (n : Nat) (F : Nat → Nat → Cx) (hA : MatAt w ga gi n n F) (hn1 : n ≤ 32) :
    Calls Tryz.prog 17 #[.slice (some ⟨ga, 0, none⟩) n n] w (RetMatE w n n (adjM F) 0) := by
  rcases Nat.eq_zero_or_pos n with h0 | h0
  · subst h0
    refine (adjointN_nil w _ _).mono ?_
    rintro e w' ⟨go, gi, rfl, hM, hP, hb⟩
    exact ⟨go, gi, rfl, hM.congr fun i k hi => absurd hi (by omega), hP, hb⟩
  · exact adjointN_any w ga gi n n F hA h0 hn1 hn1
theorem dC_adj (n : Nat) (F : Nat → Nat → Cx) : dC n (adjM F) = (dC n F).conj := by
  rw [← dC_trans n F, ← dC_conj]
  rfl
theorem sqF_sz' {f : Nat → Int × Int × Int} (h : Rat64 f) (len n : Nat) : ∀ i k, Sz (sqF f len n i k) 2 := fun i k => by
  unfold sqF
  split
  · exact Sz.zero (by omega)
  · obtain ⟨h1, h2, h3⟩ := h ((i * n + k) % len)
    exact sz_of h1.1 h1.2 h2.1 h2.2 h3.1 h3.2
theorem mulM_sz {n : Nat} {F G : Nat → Nat → Cx} (hn : n ≤ 4) (hF : ∀ i k, Sz (F i k) 2) (hG : ∀ i k, Sz (G i k) 2) : ∀ i k, Sz (mulM n F G i k) 25 := fun i k =>
  (sm_sz (p := 5) n 0 fun j _ _ => (hF i j).mul (hG j k)).mono (by omega)
set_option maxHeartbeats 16000000 in
theorem determinants_walk (w : World) (A A' : Option Addr) (len cap len' cap' p0 p1 p2 : Nat) (f f' : Nat → Int × Int × Int) (hR : RatS w A len f) (hR' : RatS w A' len' f') (h64 : Rat64 f) (h64' : Rat64 f') (hl : len ≤ 9223372036854775807) (hl' : len' ≤ 9223372036854775807) (h0 : p0 < 256) (h1 : p1 < 256) (h2 : p2 < 256) (hT : Tab w) :
    Calls Tryz.prog 4 #[.slice A len cap, .slice A' len' cap', .agg #[.int .u8 p0, .int .u8 p1, .int .u8 p2]] w fun e w' => e = .returned (.bool true) ∧ Below w.heap.size w w' := by
  obtain ⟨n, hn⟩ : ∃ n, n = p0 % 5 := ⟨_, rfl⟩
  have hw1 : ((p0 : Int)).tmod 5 = (n : Int) := by
    rw [Int.tmod_eq_emod_of_nonneg (by omega)]
    omega
  have hn4 : n ≤ 4 := by omega
  clear hn
  have HR0 := Lib.hid hR
  have HR1 := Lib.hid hR'
  have HT0 := Lib.hid hT
  have H64 := Lib.hid h64
  have H65 := Lib.hid h64'
  have HZ := Lib.hid (small_dets hn4)
  obtain ⟨X, hX⟩ : ∃ X, X = sqF f len n := ⟨_, rfl⟩
  obtain ⟨Y, hY⟩ : ∃ Y, Y = sqF f' len' n := ⟨_, rfl⟩
  have HSX := Lib.hid (show ∀ i k, Sz (X i k) 2 by rw [hX]; exact sqF_sz' h64 len n)
  have HSY := Lib.hid (show ∀ i k, Sz (Y i k) 2 by rw [hY]; exact sqF_sz' h64' len' n)
  have HSP := Lib.hid (mulM_sz (n := n) hn4 HSX.out HSY.out)
  have HX0 := Lib.hid hX
  have HY0 := Lib.hid hY
  clear hR hR' h64 h64' hT hX hY
  have HD14 := Lib.hid ((dC_sz (n := n) (F := X) fun a b _ _ => HSX.out a b).mono HZ.out.1.2)
  have HD15 := Lib.hid ((dC_sz (n := n) (F := Y) fun a b _ _ => HSY.out a b).mono HZ.out.1.2)
  have HD16 := Lib.hid ((dC_sz (n := n) (F := mulM n X Y) fun a b _ _ => HSP.out a b).mono HZ.out.2.2)
  have HD18 := Lib.hid ((dC_sz (n := n) (F := adjM X) fun a b _ _ => (HSX.out b a).conj).mono HZ.out.1.2)
  go_enter Tryz.func4, Tryz.ntmps4
  go_upto_region 1 with fail
  obtain ⟨W1, hW1⟩ : ∃ W1 : World, W1 = w.alloc (.cells #[.int .u8 p0, .int .u8 p1, .int .u8 p2] 47) := ⟨_, rfl⟩
  rw [← hW1]
  have B1 := Lib.hid (show Below w.heap.size w W1 by rw [hW1]; exact below_alloc _ _)
  have hs1 : w.heap.size < W1.heap.size := by rw [hW1]; simp
  have HXp := Lib.hid (show W1.heap[w.heap.size]? = some (.cells #[.int .u8 p0, .int .u8 p1, .int .u8 p2] 47 (0, 0)) by rw [hW1]; exact heap_alloc_new _ _)
  have HT := Lib.hid (HT0.out.below B1.out)
  have c0 : W1.cell? ⟨w.heap.size, 0, none⟩ = some (.int .u8 p0) := by simp [World.cell?, HXp.out]
  clear hW1
  go_wp2_with fail
  clear c0 hw1
  have hsq := squareM_any W1 A len cap n f (HR0.out.below B1.out) H64.out (by omega) hl HT.out
  rw [← HX0.out] at hsq
  refine hsq.mono ?_
  clear hsq
  rintro e W2 ⟨gx, ix, rfl, hM, hP, hb⟩
  have HX2 := Lib.hid hM
  have KB := Lib.hid hb
  clear hM hP hb
  have hsq := squareM_any W2 A' len' cap' n f' (HR1.out.below (below_trans B1.out KB.out)) H65.out (by omega) hl' (HT.out.below KB.out)
  rw [← HY0.out] at hsq
  have HSQ := Lib.hid hsq
  clear hsq
  go_wp2_with fail
  refine HSQ.out.mono ?_
  rintro e W3 ⟨gy, iy, rfl, hM, hP, hb⟩
  have HY3 := Lib.hid hM
  clear hM hP HSQ
  have HX3 := Lib.hid (HX2.out.below hb)
  replace KB := Lib.hid (below_trans KB.out hb)
  clear hb HX2
  go_wp2_with fail
  refine (productN_sq W3 gx gy ix iy n 2 2 X Y HX3.out HY3.out (by omega) (HT.out.below KB.out) (fun a b _ _ => HSX.out a b) (fun a b _ _ => HSY.out a b) (by omega)).mono ?_
  rintro e W4 ⟨gp, ip, rfl, hM, hP, hb⟩
  have HP4 := Lib.hid hM
  clear hM hP
  have HX4 := Lib.hid (HX3.out.below hb)
  have HY4 := Lib.hid (HY3.out.below hb)
  replace KB := Lib.hid (below_trans KB.out hb)
  clear hb HX3 HY3
  go_wp2_with fail
  refine (adjointN_sq W4 gx ix n X HX4.out (by omega)).mono ?_
  rintro e W5 ⟨gq, iq, rfl, hM, hP, hb⟩
  have HQ5 := Lib.hid hM
  clear hM hP
  have HX5 := Lib.hid (HX4.out.below hb)
  have HY5 := Lib.hid (HY4.out.below hb)
  have HP5 := Lib.hid (HP4.out.below hb)
  replace KB := Lib.hid (below_trans KB.out hb)
  clear hb HX4 HY4 HP4
  go_upto_region 7 with fail
  refine region_lin [.val (kIs (.slice (some ⟨gx, 0, none⟩) n n)), .val (kTup (dC n X) 0), .val (kTup (dC n X) 0), .val (kNum (dC n X)), .val (kIs (.int .i64 0)), .box 30 zNum, .put 5 3, .val (kIs (.int .i64 0))]
    (by kernel_rfl) (by kernel_rfl) (by kernel_rfl) (by kernel_rfl) (by kernel_rfl) ⟨stab_is _, stab_tup _ _, stab_tup _ _, stab_num _, stab_is _, stab_is _, trivial⟩ (by simp) ⟨?_, ?_, ?_, ?_, ?_, alloc_num, store_num _, ?_, trivial⟩ ?_
  · intro ts W hb hB hp; intro K hK; simp only [fillT, Nat.zero_add, Nat.reduceAdd, List.setIfInBounds_toArray, List.set_cons_zero, List.set_cons_succ] at hK ⊢; have HK := Lib.hid hK; clear hK hp; refine ⟨?_⟩; go_simp; exact HK.out _ _ rfl (Below.refl _ _)
  · intro ts W hb hB hp; have h0 : ts 0 = _ := hp 0 (by kernel_rfl); intro K hK; simp only [fillT, Nat.zero_add, Nat.reduceAdd, List.setIfInBounds_toArray, List.set_cons_zero, List.set_cons_succ, h0] at hK ⊢; have HK := Lib.hid hK; clear hK hp; refine ⟨?_⟩; go_simp; refine (detN_sq W gx ix n 2 X (HX5.out.below hb) (by omega) (HT.out.below (below_trans KB.out hb)) (fun a b _ _ => HSX.out a b) (by have := HZ.out; omega)).mono ?_; rintro e W9 ⟨r9, rfl, hr9, hb9⟩; exact HK.out _ _ ⟨r9, rfl, hr9⟩ hb9
  · intro ts W hb hB hp; have h1 := hp 1 (by kernel_rfl); intro K hK; simp only [fillT, Nat.zero_add, Nat.reduceAdd, List.setIfInBounds_toArray, List.set_cons_zero, List.set_cons_succ] at hK ⊢; have HK := Lib.hid hK; clear hK hp; refine ⟨?_⟩; go_simp; exact HK.out _ _ h1 (Below.refl _ _)
  · intro ts W hb hB hp; have h2 := hp 2 (by kernel_rfl); intro K hK; obtain ⟨u2, e2, n2⟩ := h2; simp only [fillT, Nat.zero_add, Nat.reduceAdd, List.setIfInBounds_toArray, List.set_cons_zero, List.set_cons_succ, e2] at hK ⊢; have HK := Lib.hid hK; clear hK hp; refine ⟨?_⟩; go_simp; exact HK.out _ _ n2 (Below.refl _ _)
  · intro ts W hb hB hp; have h2 := hp 2 (by kernel_rfl); intro K hK; obtain ⟨u2, e2, n2⟩ := h2; simp only [fillT, Nat.zero_add, Nat.reduceAdd, List.setIfInBounds_toArray, List.set_cons_zero, List.set_cons_succ, e2] at hK ⊢; have HK := Lib.hid hK; clear hK hp; refine ⟨?_⟩; go_simp; exact HK.out _ _ rfl (Below.refl _ _)
  · intro ts W hb hB hp; have h4 : ts 4 = _ := hp 4 (by kernel_rfl); intro K hK; simp only [fillT, Nat.zero_add, Nat.reduceAdd, List.setIfInBounds_toArray, List.set_cons_zero, List.set_cons_succ, h4] at hK ⊢; have HK := Lib.hid hK; clear hK hp; refine ⟨?_⟩; go_simp; exact HK.out _ _ rfl (Below.refl _ _)
  intro ts W6 hb hh hap
  have e7 := held_is (hh 7 (by simp)) rfl
  obtain ⟨g14, A14, n14, c14, p14, A14b, n14b, c14b, p14b, A14c, n14c, c14c, e5, lo14, z14, X14, N14⟩ := held_box (x := dC n X) (hh 5 (by simp)) rfl (hh 6 (by simp)) rfl (hh 3 (by simp)) rfl
  simp only [fillT, Nat.zero_add, Nat.reduceAdd, List.setIfInBounds_toArray, List.set_cons_zero, List.set_cons_succ, e7, e5]
  clear hh hap e7 e5
  generalize ts 0 = u0_W6 at *
  generalize ts 1 = u1_W6 at *
  generalize ts 2 = u2_W6 at *
  generalize ts 3 = u3_W6 at *
  generalize ts 4 = u4_W6 at *
  clear ts
  clear lo14
  have HX6 := Lib.hid (HX5.out.below hb)
  have HY6 := Lib.hid (HY5.out.below hb)
  have HP6 := Lib.hid (HP5.out.below hb)
  have HQ6 := Lib.hid (HQ5.out.below hb)
  replace KB := Lib.hid (below_trans KB.out hb)
  clear hb HX5 HY5 HP5 HQ5
  go_upto_region 8 with fail
  refine region_lin [.val (kIs (.slice (some ⟨gy, 0, none⟩) n n)), .val (kTup (dC n Y) 0), .val (kTup (dC n Y) 0), .val (kNum (dC n Y)), .val (kIs (.int .i64 0)), .box 30 zNum, .put 5 3, .val (kIs (.int .i64 0))]
    (by kernel_rfl) (by kernel_rfl) (by kernel_rfl) (by kernel_rfl) (by kernel_rfl) ⟨stab_is _, stab_tup _ _, stab_tup _ _, stab_num _, stab_is _, stab_is _, trivial⟩ (by simp) ⟨?_, ?_, ?_, ?_, ?_, alloc_num, store_num _, ?_, trivial⟩ ?_
  · intro ts W hb hB hp; intro K hK; simp only [fillT, Nat.zero_add, Nat.reduceAdd, List.setIfInBounds_toArray, List.set_cons_zero, List.set_cons_succ] at hK ⊢; have HK := Lib.hid hK; clear hK hp; refine ⟨?_⟩; go_simp; exact HK.out _ _ rfl (Below.refl _ _)
  · intro ts W hb hB hp; have h0 : ts 0 = _ := hp 0 (by kernel_rfl); intro K hK; simp only [fillT, Nat.zero_add, Nat.reduceAdd, List.setIfInBounds_toArray, List.set_cons_zero, List.set_cons_succ, h0] at hK ⊢; have HK := Lib.hid hK; clear hK hp; refine ⟨?_⟩; go_simp; refine (detN_sq W gy iy n 2 Y (HY6.out.below hb) (by omega) (HT.out.below (below_trans KB.out hb)) (fun a b _ _ => HSY.out a b) (by have := HZ.out; omega)).mono ?_; rintro e W9 ⟨r9, rfl, hr9, hb9⟩; exact HK.out _ _ ⟨r9, rfl, hr9⟩ hb9
  · intro ts W hb hB hp; have h1 := hp 1 (by kernel_rfl); intro K hK; simp only [fillT, Nat.zero_add, Nat.reduceAdd, List.setIfInBounds_toArray, List.set_cons_zero, List.set_cons_succ] at hK ⊢; have HK := Lib.hid hK; clear hK hp; refine ⟨?_⟩; go_simp; exact HK.out _ _ h1 (Below.refl _ _)
  · intro ts W hb hB hp; have h2 := hp 2 (by kernel_rfl); intro K hK; obtain ⟨u2, e2, n2⟩ := h2; simp only [fillT, Nat.zero_add, Nat.reduceAdd, List.setIfInBounds_toArray, List.set_cons_zero, List.set_cons_succ, e2] at hK ⊢; have HK := Lib.hid hK; clear hK hp; refine ⟨?_⟩; go_simp; exact HK.out _ _ n2 (Below.refl _ _)
  · intro ts W hb hB hp; have h2 := hp 2 (by kernel_rfl); intro K hK; obtain ⟨u2, e2, n2⟩ := h2; simp only [fillT, Nat.zero_add, Nat.reduceAdd, List.setIfInBounds_toArray, List.set_cons_zero, List.set_cons_succ, e2] at hK ⊢; have HK := Lib.hid hK; clear hK hp; refine ⟨?_⟩; go_simp; exact HK.out _ _ rfl (Below.refl _ _)
  · intro ts W hb hB hp; have h4 : ts 4 = _ := hp 4 (by kernel_rfl); intro K hK; simp only [fillT, Nat.zero_add, Nat.reduceAdd, List.setIfInBounds_toArray, List.set_cons_zero, List.set_cons_succ, h4] at hK ⊢; have HK := Lib.hid hK; clear hK hp; refine ⟨?_⟩; go_simp; exact HK.out _ _ rfl (Below.refl _ _)
  intro ts W7 hb hh hap
  have e7 := held_is (hh 7 (by simp)) rfl
  obtain ⟨g15, A15, n15, c15, p15, A15b, n15b, c15b, p15b, A15c, n15c, c15c, e5, lo15, z15, X15, N15⟩ := held_box (x := dC n Y) (hh 5 (by simp)) rfl (hh 6 (by simp)) rfl (hh 3 (by simp)) rfl
  simp only [fillT, Nat.zero_add, Nat.reduceAdd, List.setIfInBounds_toArray, List.set_cons_zero, List.set_cons_succ, e7, e5]
  clear hh hap e7 e5
  generalize ts 0 = u0_W7 at *
  generalize ts 1 = u1_W7 at *
  generalize ts 2 = u2_W7 at *
  generalize ts 3 = u3_W7 at *
  generalize ts 4 = u4_W7 at *
  clear ts
  clear lo15
  have HX7 := Lib.hid (HX6.out.below hb)
  have HY7 := Lib.hid (HY6.out.below hb)
  have HP7 := Lib.hid (HP6.out.below hb)
  have HQ7 := Lib.hid (HQ6.out.below hb)
  replace KB := Lib.hid (below_trans KB.out hb)
  replace X14 := (hb.block _ z14).trans X14
  replace z14 := Nat.lt_of_lt_of_le z14 hb.size
  replace N14 := N14.below hb
  clear hb HX6 HY6 HP6 HQ6
  go_upto_region 9 with fail
  refine region_lin [.val (kIs (.slice (some ⟨gp, 0, none⟩) n n)), .val (kTup (dC n (mulM n X Y)) 0), .val (kTup (dC n (mulM n X Y)) 0), .val (kNum (dC n (mulM n X Y))), .val (kIs (.int .i64 0)), .box 30 zNum, .put 5 3, .val (kIs (.int .i64 0))]
    (by kernel_rfl) (by kernel_rfl) (by kernel_rfl) (by kernel_rfl) (by kernel_rfl) ⟨stab_is _, stab_tup _ _, stab_tup _ _, stab_num _, stab_is _, stab_is _, trivial⟩ (by simp) ⟨?_, ?_, ?_, ?_, ?_, alloc_num, store_num _, ?_, trivial⟩ ?_
  · intro ts W hb hB hp; intro K hK; simp only [fillT, Nat.zero_add, Nat.reduceAdd, List.setIfInBounds_toArray, List.set_cons_zero, List.set_cons_succ] at hK ⊢; have HK := Lib.hid hK; clear hK hp; refine ⟨?_⟩; go_simp; exact HK.out _ _ rfl (Below.refl _ _)
  · intro ts W hb hB hp; have h0 : ts 0 = _ := hp 0 (by kernel_rfl); intro K hK; simp only [fillT, Nat.zero_add, Nat.reduceAdd, List.setIfInBounds_toArray, List.set_cons_zero, List.set_cons_succ, h0] at hK ⊢; have HK := Lib.hid hK; clear hK hp; refine ⟨?_⟩; go_simp; refine (detN_sq W gp ip n 25 (mulM n X Y) (HP7.out.below hb) (by omega) (HT.out.below (below_trans KB.out hb)) (fun a b _ _ => HSP.out a b) (by have := HZ.out; omega)).mono ?_; rintro e W9 ⟨r9, rfl, hr9, hb9⟩; exact HK.out _ _ ⟨r9, rfl, hr9⟩ hb9
  · intro ts W hb hB hp; have h1 := hp 1 (by kernel_rfl); intro K hK; simp only [fillT, Nat.zero_add, Nat.reduceAdd, List.setIfInBounds_toArray, List.set_cons_zero, List.set_cons_succ] at hK ⊢; have HK := Lib.hid hK; clear hK hp; refine ⟨?_⟩; go_simp; exact HK.out _ _ h1 (Below.refl _ _)
  · intro ts W hb hB hp; have h2 := hp 2 (by kernel_rfl); intro K hK; obtain ⟨u2, e2, n2⟩ := h2; simp only [fillT, Nat.zero_add, Nat.reduceAdd, List.setIfInBounds_toArray, List.set_cons_zero, List.set_cons_succ, e2] at hK ⊢; have HK := Lib.hid hK; clear hK hp; refine ⟨?_⟩; go_simp; exact HK.out _ _ n2 (Below.refl _ _)
  · intro ts W hb hB hp; have h2 := hp 2 (by kernel_rfl); intro K hK; obtain ⟨u2, e2, n2⟩ := h2; simp only [fillT, Nat.zero_add, Nat.reduceAdd, List.setIfInBounds_toArray, List.set_cons_zero, List.set_cons_succ, e2] at hK ⊢; have HK := Lib.hid hK; clear hK hp; refine ⟨?_⟩; go_simp; exact HK.out _ _ rfl (Below.refl _ _)
  · intro ts W hb hB hp; have h4 : ts 4 = _ := hp 4 (by kernel_rfl); intro K hK; simp only [fillT, Nat.zero_add, Nat.reduceAdd, List.setIfInBounds_toArray, List.set_cons_zero, List.set_cons_succ, h4] at hK ⊢; have HK := Lib.hid hK; clear hK hp; refine ⟨?_⟩; go_simp; exact HK.out _ _ rfl (Below.refl _ _)
  intro ts W8 hb hh hap
  have e7 := held_is (hh 7 (by simp)) rfl
  obtain ⟨g16, A16, n16, c16, p16, A16b, n16b, c16b, p16b, A16c, n16c, c16c, e5, lo16, z16, X16, N16⟩ := held_box (x := dC n (mulM n X Y)) (hh 5 (by simp)) rfl (hh 6 (by simp)) rfl (hh 3 (by simp)) rfl
  simp only [fillT, Nat.zero_add, Nat.reduceAdd, List.setIfInBounds_toArray, List.set_cons_zero, List.set_cons_succ, e7, e5]
  clear hh hap e7 e5
  generalize ts 0 = u0_W8 at *
  generalize ts 1 = u1_W8 at *
  generalize ts 2 = u2_W8 at *
  generalize ts 3 = u3_W8 at *
  generalize ts 4 = u4_W8 at *
  clear ts
  clear lo16
  have HX8 := Lib.hid (HX7.out.below hb)
  have HY8 := Lib.hid (HY7.out.below hb)
  have HP8 := Lib.hid (HP7.out.below hb)
  have HQ8 := Lib.hid (HQ7.out.below hb)
  replace KB := Lib.hid (below_trans KB.out hb)
  replace X14 := (hb.block _ z14).trans X14
  replace z14 := Nat.lt_of_lt_of_le z14 hb.size
  replace N14 := N14.below hb
  replace X15 := (hb.block _ z15).trans X15
  replace z15 := Nat.lt_of_lt_of_le z15 hb.size
  replace N15 := N15.below hb
  clear hb HX7 HY7 HP7 HQ7
  go_upto_region 10 with fail
  refine region_lin [.val (kIs (.slice (some ⟨gq, 0, none⟩) n n)), .val (kTup (dC n (adjM X)) 0), .val (kTup (dC n (adjM X)) 0), .val (kNum (dC n (adjM X))), .val (kIs (.int .i64 0)), .box 30 zNum, .put 5 3, .val (kIs (.int .i64 0))]
    (by kernel_rfl) (by kernel_rfl) (by kernel_rfl) (by kernel_rfl) (by kernel_rfl) ⟨stab_is _, stab_tup _ _, stab_tup _ _, stab_num _, stab_is _, stab_is _, trivial⟩ (by simp) ⟨?_, ?_, ?_, ?_, ?_, alloc_num, store_num _, ?_, trivial⟩ ?_
  · intro ts W hb hB hp; intro K hK; simp only [fillT, Nat.zero_add, Nat.reduceAdd, List.setIfInBounds_toArray, List.set_cons_zero, List.set_cons_succ] at hK ⊢; have HK := Lib.hid hK; clear hK hp; refine ⟨?_⟩; go_simp; exact HK.out _ _ rfl (Below.refl _ _)
  · intro ts W hb hB hp; have h0 : ts 0 = _ := hp 0 (by kernel_rfl); intro K hK; simp only [fillT, Nat.zero_add, Nat.reduceAdd, List.setIfInBounds_toArray, List.set_cons_zero, List.set_cons_succ, h0] at hK ⊢; have HK := Lib.hid hK; clear hK hp; refine ⟨?_⟩; go_simp; refine (detN_sq W gq iq n 2 (adjM X) (HQ8.out.below hb) (by omega) (HT.out.below (below_trans KB.out hb)) (fun a b _ _ => (HSX.out b a).conj) (by have := HZ.out; omega)).mono ?_; rintro e W9 ⟨r9, rfl, hr9, hb9⟩; exact HK.out _ _ ⟨r9, rfl, hr9⟩ hb9
  · intro ts W hb hB hp; have h1 := hp 1 (by kernel_rfl); intro K hK; simp only [fillT, Nat.zero_add, Nat.reduceAdd, List.setIfInBounds_toArray, List.set_cons_zero, List.set_cons_succ] at hK ⊢; have HK := Lib.hid hK; clear hK hp; refine ⟨?_⟩; go_simp; exact HK.out _ _ h1 (Below.refl _ _)
  · intro ts W hb hB hp; have h2 := hp 2 (by kernel_rfl); intro K hK; obtain ⟨u2, e2, n2⟩ := h2; simp only [fillT, Nat.zero_add, Nat.reduceAdd, List.setIfInBounds_toArray, List.set_cons_zero, List.set_cons_succ, e2] at hK ⊢; have HK := Lib.hid hK; clear hK hp; refine ⟨?_⟩; go_simp; exact HK.out _ _ n2 (Below.refl _ _)
  · intro ts W hb hB hp; have h2 := hp 2 (by kernel_rfl); intro K hK; obtain ⟨u2, e2, n2⟩ := h2; simp only [fillT, Nat.zero_add, Nat.reduceAdd, List.setIfInBounds_toArray, List.set_cons_zero, List.set_cons_succ, e2] at hK ⊢; have HK := Lib.hid hK; clear hK hp; refine ⟨?_⟩; go_simp; exact HK.out _ _ rfl (Below.refl _ _)
  · intro ts W hb hB hp; have h4 : ts 4 = _ := hp 4 (by kernel_rfl); intro K hK; simp only [fillT, Nat.zero_add, Nat.reduceAdd, List.setIfInBounds_toArray, List.set_cons_zero, List.set_cons_succ, h4] at hK ⊢; have HK := Lib.hid hK; clear hK hp; refine ⟨?_⟩; go_simp; exact HK.out _ _ rfl (Below.refl _ _)
  intro ts W9 hb hh hap
  have e7 := held_is (hh 7 (by simp)) rfl
  obtain ⟨g18, A18, n18, c18, p18, A18b, n18b, c18b, p18b, A18c, n18c, c18c, e5, lo18, z18, X18, N18⟩ := held_box (x := dC n (adjM X)) (hh 5 (by simp)) rfl (hh 6 (by simp)) rfl (hh 3 (by simp)) rfl
  simp only [fillT, Nat.zero_add, Nat.reduceAdd, List.setIfInBounds_toArray, List.set_cons_zero, List.set_cons_succ, e7, e5]
  clear hh hap e7 e5
  generalize ts 0 = u0_W9 at *
  generalize ts 1 = u1_W9 at *
  generalize ts 2 = u2_W9 at *
  generalize ts 3 = u3_W9 at *
  generalize ts 4 = u4_W9 at *
  clear ts
  clear lo18
  have HX9 := Lib.hid (HX8.out.below hb)
  have HY9 := Lib.hid (HY8.out.below hb)
  have HP9 := Lib.hid (HP8.out.below hb)
  have HQ9 := Lib.hid (HQ8.out.below hb)
  replace KB := Lib.hid (below_trans KB.out hb)
  replace X14 := (hb.block _ z14).trans X14
  replace z14 := Nat.lt_of_lt_of_le z14 hb.size
  replace N14 := N14.below hb
  replace X15 := (hb.block _ z15).trans X15
  replace z15 := Nat.lt_of_lt_of_le z15 hb.size
  replace N15 := N15.below hb
  replace X16 := (hb.block _ z16).trans X16
  replace z16 := Nat.lt_of_lt_of_le z16 hb.size
  replace N16 := N16.below hb
  clear hb HX8 HY8 HP8 HQ8
  go_upto_region 11 with fail
  refine region_lin [.val (kIs (.int .i64 (0 : Int))), .val (kIs (.int .i64 (0 : Int))), .val (kIs (.int .i64 (0 : Int))), .val (kIs (.int .i64 (0 : Int))), .val (kIs (.int .i64 0)), .val (kIs (.bool false)), .val (kIs (.bool false)), .val (kIs (.agg #[.slice A14 n14 c14, .bool p14, .slice A14b n14b c14b, .bool p14b, .slice A14c n14c c14c])), .val (kIs (.agg #[.slice A15 n15 c15, .bool p15, .slice A15b n15b c15b, .bool p15b, .slice A15c n15c c15c])), .val (kNum ((dC n X).mul (dC n Y))), .val (kIs (.agg #[.slice A16 n16 c16, .bool p16, .slice A16b n16b c16b, .bool p16b, .slice A16c n16c c16c])), .val (kIs (.bool true)), .val (kIs (.bool false)), .val (kIs (.bool false)), .val (kIs (.bool false)), .val (kIs (.agg #[.slice A14 n14 c14, .bool p14, .slice A14b n14b c14b, .bool p14b, .slice A14c n14c c14c])), .val (kNum ((dC n X).conj)), .val (kIs (.agg #[.slice A18 n18 c18, .bool p18, .slice A18b n18b c18b, .bool p18b, .slice A18c n18c c18c])), .val (kIs (.bool true)), .val (kIs (.bool false)), .val (kIs (.bool false))]
    (by kernel_rfl) (by kernel_rfl) (by kernel_rfl) (by kernel_rfl) (by kernel_rfl) ⟨Stab.b (stab_is _), Stab.b (stab_is _), Stab.b (stab_is _), Stab.b (stab_is _), Stab.b (stab_is _), Stab.b (stab_is _), Stab.b (stab_is _), Stab.b (stab_is _), Stab.b (stab_is _), Stab.b (stab_num _), Stab.b (stab_is _), Stab.b (stab_is _), Stab.b (stab_is _), Stab.b (stab_is _), Stab.b (stab_is _), Stab.b (stab_is _), Stab.b (stab_num _), Stab.b (stab_is _), Stab.b (stab_is _), Stab.b (stab_is _), Stab.b (stab_is _), trivial⟩ (by simp) ⟨?_, ?_, ?_, ?_, ?_, ?_, ?_, ?_, ?_, ?_, ?_, ?_, ?_, ?_, ?_, ?_, ?_, ?_, ?_, ?_, ?_, trivial⟩ ?_
  · intro ts W hb hB hp; intro K hK; simp only [fillT, Nat.zero_add, Nat.reduceAdd, List.setIfInBounds_toArray, List.set_cons_zero, List.set_cons_succ] at hK ⊢; have HK := Lib.hid hK; clear hK hp; refine ⟨?_⟩; go_simp; exact HK.out _ _ rfl (Below.refl _ _)
  · intro ts W hb hB hp; intro K hK; simp only [fillT, Nat.zero_add, Nat.reduceAdd, List.setIfInBounds_toArray, List.set_cons_zero, List.set_cons_succ] at hK ⊢; have HK := Lib.hid hK; clear hK hp; refine ⟨?_⟩; go_simp; exact HK.out _ _ rfl (Below.refl _ _)
  · intro ts W hb hB hp; intro K hK; simp only [fillT, Nat.zero_add, Nat.reduceAdd, List.setIfInBounds_toArray, List.set_cons_zero, List.set_cons_succ] at hK ⊢; have HK := Lib.hid hK; clear hK hp; refine ⟨?_⟩; go_simp; exact HK.out _ _ rfl (Below.refl _ _)
  · intro ts W hb hB hp; intro K hK; simp only [fillT, Nat.zero_add, Nat.reduceAdd, List.setIfInBounds_toArray, List.set_cons_zero, List.set_cons_succ] at hK ⊢; have HK := Lib.hid hK; clear hK hp; refine ⟨?_⟩; go_simp; exact HK.out _ _ rfl (Below.refl _ _)
  · intro ts W hb hB hp; have h0 : ts 0 = _ := hp 0 (by kernel_rfl); have h1 : ts 1 = _ := hp 1 (by kernel_rfl); have h2 : ts 2 = _ := hp 2 (by kernel_rfl); have h3 : ts 3 = _ := hp 3 (by kernel_rfl); intro K hK; simp only [fillT, Nat.zero_add, Nat.reduceAdd, List.setIfInBounds_toArray, List.set_cons_zero, List.set_cons_succ, h0, h1, h2, h3] at hK ⊢; have HK := Lib.hid hK; clear hK hp; refine ⟨?_⟩; go_simp; exact HK.out _ _ (by simp [kIs]) (Below.refl _ _)
  · intro ts W hb hB hp; have h4 : ts 4 = _ := hp 4 (by kernel_rfl); intro K hK; simp only [fillT, Nat.zero_add, Nat.reduceAdd, List.setIfInBounds_toArray, List.set_cons_zero, List.set_cons_succ, h4] at hK ⊢; have HK := Lib.hid hK; clear hK hp; refine ⟨?_⟩; go_simp; exact HK.out _ _ (by simp [kIs]) (Below.refl _ _)
  · intro ts W hb hB hp; have h5 : ts 5 = _ := hp 5 (by kernel_rfl); intro K hK; simp only [fillT, Nat.zero_add, Nat.reduceAdd, List.setIfInBounds_toArray, List.set_cons_zero, List.set_cons_succ, h5] at hK ⊢; have HK := Lib.hid hK; clear hK hp; refine ⟨?_⟩; go_simp; exact HK.out _ _ rfl (Below.refl _ _)
  · intro ts W hb hB hp; have h6 : ts 6 = _ := hp 6 (by kernel_rfl); refine Guarded.on h6 ?_; clear h6; intro K hK; simp only [fillT, Nat.zero_add, Nat.reduceAdd, List.setIfInBounds_toArray, List.set_cons_zero, List.set_cons_succ] at hK ⊢; refine ⟨?_⟩; refine wp_load_row _ _ rfl (g14) rfl _ _ (0, 0) _ ((hb.block _ (z14)).trans X14) Tryz.underlying30 rfl (by kernel_rfl) ?_; exact hK _ _ rfl (Below.refl _ _)
  · intro ts W hb hB hp; have h6 : ts 6 = _ := hp 6 (by kernel_rfl); refine Guarded.on h6 ?_; clear h6; intro K hK; simp only [fillT, Nat.zero_add, Nat.reduceAdd, List.setIfInBounds_toArray, List.set_cons_zero, List.set_cons_succ] at hK ⊢; refine ⟨?_⟩; refine wp_load_row _ _ rfl (g15) rfl _ _ (0, 0) _ ((hb.block _ (z15)).trans X15) Tryz.underlying30 rfl (by kernel_rfl) ?_; exact hK _ _ rfl (Below.refl _ _)
  · intro ts W hb hB hp; have h7 : ts 7 = _ := hp 7 (by kernel_rfl); have h8 : ts 8 = _ := hp 8 (by kernel_rfl); have h6 : ts 6 = _ := hp 6 (by kernel_rfl); refine Guarded.on h6 ?_; clear h6; intro K hK; simp only [fillT, Nat.zero_add, Nat.reduceAdd, List.setIfInBounds_toArray, List.set_cons_zero, List.set_cons_succ, h7, h8] at hK ⊢; have HK := Lib.hid hK; clear hK hp; refine ⟨?_⟩; go_simp; refine (mulN_any _ _ (dC n X) (dC n Y) W (N14.below hb) (N15.below hb) (7501) (7501) HD14.out HD15.out (by omega) (HT.out.below (below_trans KB.out hb))).mono ?_; rintro e W9 ⟨r9, rfl, hr9, hb9⟩; exact HK.out _ _ hr9 hb9
  · intro ts W hb hB hp; have h6 : ts 6 = _ := hp 6 (by kernel_rfl); refine Guarded.on h6 ?_; clear h6; intro K hK; simp only [fillT, Nat.zero_add, Nat.reduceAdd, List.setIfInBounds_toArray, List.set_cons_zero, List.set_cons_succ] at hK ⊢; refine ⟨?_⟩; refine wp_load_row _ _ rfl (g16) rfl _ _ (0, 0) _ ((hb.block _ (z16)).trans X16) Tryz.underlying30 rfl (by kernel_rfl) ?_; exact hK _ _ rfl (Below.refl _ _)
  · intro ts W hb hB hp; have h9 : IsNum W (ts 9) ((dC n X).mul (dC n Y)) := hp 9 (by kernel_rfl); have h10 : ts 10 = _ := hp 10 (by kernel_rfl); have h6 : ts 6 = _ := hp 6 (by kernel_rfl); refine Guarded.on h6 ?_; clear h6; intro K hK; simp only [fillT, Nat.zero_add, Nat.reduceAdd, List.setIfInBounds_toArray, List.set_cons_zero, List.set_cons_succ, h10] at hK ⊢; have HK := Lib.hid hK; clear hK hp; refine ⟨?_⟩; go_simp; refine (sameN_k _ _ ((dC n X).mul (dC n Y)) (dC n (mulM n X Y)) W h9 (N16.below hb) 65001 (Sz.mono (Sz.mul HD14.out HD15.out) (by omega)) (Sz.mono HD16.out (by omega)) (by omega) (same_t ((dC_mul n X Y).symm))).mono ?_; rintro e W9 ⟨rfl, hb9⟩; exact HK.out _ _ rfl hb9
  · intro ts W hb hB hp; have h11 : ts 11 = _ := hp 11 (by kernel_rfl); have h6 : ts 6 = _ := hp 6 (by kernel_rfl); refine Guarded.on h6 ?_; clear h6; intro K hK; simp only [fillT, Nat.zero_add, Nat.reduceAdd, List.setIfInBounds_toArray, List.set_cons_zero, List.set_cons_succ, h11] at hK ⊢; have HK := Lib.hid hK; clear hK hp; refine ⟨?_⟩; go_simp; exact HK.out _ _ rfl (Below.refl _ _)
  · intro ts W hb hB hp; have h6 : ts 6 = _ := hp 6 (by kernel_rfl); have h12 : ts 12 = _ := hp 12 (by kernel_rfl); intro K hK; simp only [fillT, Nat.zero_add, Nat.reduceAdd, List.setIfInBounds_toArray, List.set_cons_zero, List.set_cons_succ, h6, h12] at hK ⊢; have HK := Lib.hid hK; clear hK hp; refine ⟨?_⟩; go_simp; exact HK.out _ _ rfl (Below.refl _ _)
  · intro ts W hb hB hp; have h13 : ts 13 = _ := hp 13 (by kernel_rfl); intro K hK; simp only [fillT, Nat.zero_add, Nat.reduceAdd, List.setIfInBounds_toArray, List.set_cons_zero, List.set_cons_succ, h13] at hK ⊢; have HK := Lib.hid hK; clear hK hp; refine ⟨?_⟩; go_simp; exact HK.out _ _ rfl (Below.refl _ _)
  · intro ts W hb hB hp; have h14 : ts 14 = _ := hp 14 (by kernel_rfl); refine Guarded.on h14 ?_; clear h14; intro K hK; simp only [fillT, Nat.zero_add, Nat.reduceAdd, List.setIfInBounds_toArray, List.set_cons_zero, List.set_cons_succ] at hK ⊢; refine ⟨?_⟩; refine wp_load_row _ _ rfl (g14) rfl _ _ (0, 0) _ ((hb.block _ (z14)).trans X14) Tryz.underlying30 rfl (by kernel_rfl) ?_; exact hK _ _ rfl (Below.refl _ _)
  · intro ts W hb hB hp; have h15 : ts 15 = _ := hp 15 (by kernel_rfl); have h14 : ts 14 = _ := hp 14 (by kernel_rfl); refine Guarded.on h14 ?_; clear h14; intro K hK; simp only [fillT, Nat.zero_add, Nat.reduceAdd, List.setIfInBounds_toArray, List.set_cons_zero, List.set_cons_succ, h15] at hK ⊢; have HK := Lib.hid hK; clear hK hp; refine ⟨?_⟩; go_simp; refine (conjN_any _ (dC n X) W (N14.below hb)).mono ?_; rintro e W9 ⟨r9, rfl, hr9, hb9⟩; exact HK.out _ _ hr9 hb9
  · intro ts W hb hB hp; have h14 : ts 14 = _ := hp 14 (by kernel_rfl); refine Guarded.on h14 ?_; clear h14; intro K hK; simp only [fillT, Nat.zero_add, Nat.reduceAdd, List.setIfInBounds_toArray, List.set_cons_zero, List.set_cons_succ] at hK ⊢; refine ⟨?_⟩; refine wp_load_row _ _ rfl (g18) rfl _ _ (0, 0) _ ((hb.block _ (z18)).trans X18) Tryz.underlying30 rfl (by kernel_rfl) ?_; exact hK _ _ rfl (Below.refl _ _)
  · intro ts W hb hB hp; have h16 : IsNum W (ts 16) ((dC n X).conj) := hp 16 (by kernel_rfl); have h17 : ts 17 = _ := hp 17 (by kernel_rfl); have h14 : ts 14 = _ := hp 14 (by kernel_rfl); refine Guarded.on h14 ?_; clear h14; intro K hK; simp only [fillT, Nat.zero_add, Nat.reduceAdd, List.setIfInBounds_toArray, List.set_cons_zero, List.set_cons_succ, h17] at hK ⊢; have HK := Lib.hid hK; clear hK hp; refine ⟨?_⟩; go_simp; refine (sameN_k _ _ ((dC n X).conj) (dC n (adjM X)) W h16 (N18.below hb) 65001 (Sz.mono (Sz.conj HD14.out) (by omega)) (Sz.mono HD18.out (by omega)) (by omega) (same_t ((dC_adj n X).symm))).mono ?_; rintro e W9 ⟨rfl, hb9⟩; exact HK.out _ _ rfl hb9
  · intro ts W hb hB hp; have h18 : ts 18 = _ := hp 18 (by kernel_rfl); have h14 : ts 14 = _ := hp 14 (by kernel_rfl); refine Guarded.on h14 ?_; clear h14; intro K hK; simp only [fillT, Nat.zero_add, Nat.reduceAdd, List.setIfInBounds_toArray, List.set_cons_zero, List.set_cons_succ, h18] at hK ⊢; have HK := Lib.hid hK; clear hK hp; refine ⟨?_⟩; go_simp; exact HK.out _ _ rfl (Below.refl _ _)
  · intro ts W hb hB hp; have h14 : ts 14 = _ := hp 14 (by kernel_rfl); have h19 : ts 19 = _ := hp 19 (by kernel_rfl); intro K hK; simp only [fillT, Nat.zero_add, Nat.reduceAdd, List.setIfInBounds_toArray, List.set_cons_zero, List.set_cons_succ, h14, h19] at hK ⊢; have HK := Lib.hid hK; clear hK hp; refine ⟨?_⟩; go_simp; exact HK.out _ _ rfl (Below.refl _ _)
  intro ts W10 hb hh hap
  have e20 := held_is (hh 20 (by simp)) rfl
  simp only [fillT, Nat.zero_add, Nat.reduceAdd, List.setIfInBounds_toArray, List.set_cons_zero, List.set_cons_succ, e20]
  clear hh hap e20
  generalize ts 0 = u0_W10 at *
  generalize ts 1 = u1_W10 at *
  generalize ts 2 = u2_W10 at *
  generalize ts 3 = u3_W10 at *
  generalize ts 4 = u4_W10 at *
  generalize ts 5 = u5_W10 at *
  generalize ts 6 = u6_W10 at *
  generalize ts 7 = u7_W10 at *
  generalize ts 8 = u8_W10 at *
  generalize ts 9 = u9_W10 at *
  generalize ts 10 = u10_W10 at *
  generalize ts 11 = u11_W10 at *
  generalize ts 12 = u12_W10 at *
  generalize ts 13 = u13_W10 at *
  generalize ts 14 = u14_W10 at *
  generalize ts 15 = u15_W10 at *
  generalize ts 16 = u16_W10 at *
  generalize ts 17 = u17_W10 at *
  generalize ts 18 = u18_W10 at *
  generalize ts 19 = u19_W10 at *
  clear ts
  have HX10 := Lib.hid (HX9.out.below hb)
  replace KB := Lib.hid (below_trans KB.out hb)
  replace X14 := (hb.block _ z14).trans X14
  replace z14 := Nat.lt_of_lt_of_le z14 hb.size
  replace N14 := N14.below hb
  clear hb HX9 HY9 HP9 HQ9 X15 N15 z15 X16 N16 z16 X18 N18 z18 HD15 HD16 HD18 HSY HSP
  by_cases hn2 : n < 2
  · go_wp2_with fail
    refine (awake_any W10 (HT.out.below KB.out)).mono ?_
    rintro e W11 ⟨rfl, hb⟩
    have KB2 := Lib.hid (below_trans B1.out (below_trans KB.out hb))
    clear hb X14 N14 z14
    go_wp2
    go_ret
    exact ⟨rfl, KB2.out⟩
  · obtain ⟨r, hr⟩ : ∃ r, r = p1 % n := ⟨_, rfl⟩
    obtain ⟨s, hs⟩ : ∃ s, s = p2 % n := ⟨_, rfl⟩
    have hrn : r < n := by rw [hr]; exact Nat.mod_lt _ (by omega)
    have hsn : s < n := by rw [hs]; exact Nat.mod_lt _ (by omega)
    have hr1 : ((p1 : Int)).tmod (n : Int) = (r : Int) := by
      rw [Int.tmod_eq_emod_of_nonneg (by omega), hr, Int.natCast_emod]
    have hs2 : ((p2 : Int)).tmod (n : Int) = (s : Int) := by
      rw [Int.tmod_eq_emod_of_nonneg (by omega), hs, Int.natCast_emod]
    have hnz : ¬ (n = 0) := by omega
    have hv1 : IntKind.i64.wrap (p1 : Int) = (p1 : Int) := by rw [IntKind.wrap_i64]; omega
    have hv2 : IntKind.i64.wrap (p2 : Int) = (p2 : Int) := by rw [IntKind.wrap_i64]; omega
    clear hr hs
    have HC := Lib.hid (show W10.heap[w.heap.size]? = some (.cells #[.int .u8 p0, .int .u8 p1, .int .u8 p2] 47 (0, 0)) from (KB.out.block _ hs1).trans HXp.out)
    go_upto_region 15 with fail
    refine region_lin [.val (kIs (.pointer (some ⟨w.heap.size, 1, none⟩))), .val (kIs (.int .u8 p1)), .val (kIs (.int .i64 (p1 : Int))), .val (kIs (.int .i64 (n : Int))), .val (kIs (.int .i64 (r : Int))), .val (kIs (.pointer (some ⟨w.heap.size, 2, none⟩))), .val (kIs (.int .u8 p2)), .val (kIs (.int .i64 (p2 : Int))), .val (kIs (.int .i64 (n : Int))), .val (kIs (.int .i64 (s : Int))), .val (kIs (.int .i64 (r : Int))), .val (kIs (.int .i64 (s : Int)))]
      (by kernel_rfl) (by kernel_rfl) (by kernel_rfl) (by kernel_rfl) (by kernel_rfl) ⟨Stab.b (stab_is _), Stab.b (stab_is _), Stab.b (stab_is _), Stab.b (stab_is _), Stab.b (stab_is _), Stab.b (stab_is _), Stab.b (stab_is _), Stab.b (stab_is _), Stab.b (stab_is _), Stab.b (stab_is _), Stab.b (stab_is _), Stab.b (stab_is _), trivial⟩ (by simp) ⟨?_, ?_, ?_, ?_, ?_, ?_, ?_, ?_, ?_, ?_, ?_, ?_, trivial⟩ ?_
    · intro ts W hb hB hp; intro K hK; simp only [fillT, Nat.zero_add, Nat.reduceAdd, List.setIfInBounds_toArray, List.set_cons_zero, List.set_cons_succ] at hK ⊢; have HK := Lib.hid hK; clear hK hp; refine ⟨?_⟩; go_simp; exact HK.out _ _ rfl (Below.refl _ _)
    · intro ts W hb hB hp; have h0 : ts 0 = _ := hp 0 (by kernel_rfl); intro K hK; simp only [fillT, Nat.zero_add, Nat.reduceAdd, List.setIfInBounds_toArray, List.set_cons_zero, List.set_cons_succ, h0] at hK ⊢; have HK := Lib.hid hK; clear hK hp; have hcell : W.cell? ⟨w.heap.size, 1, none⟩ = some (.int .u8 p1) := (by simp [World.cell?, (hb.block _ (heap_ge_none HC.out)).trans HC.out]); refine ⟨?_⟩; go_simp; exact HK.out _ _ rfl (Below.refl _ _)
    · intro ts W hb hB hp; have h1 : ts 1 = _ := hp 1 (by kernel_rfl); intro K hK; simp only [fillT, Nat.zero_add, Nat.reduceAdd, List.setIfInBounds_toArray, List.set_cons_zero, List.set_cons_succ, h1] at hK ⊢; have HK := Lib.hid hK; clear hK hp; refine ⟨?_⟩; go_simp; exact HK.out _ _ (by simp [kIs, hv1, hv2]) (Below.refl _ _)
    · intro ts W hb hB hp; intro K hK; simp only [fillT, Nat.zero_add, Nat.reduceAdd, List.setIfInBounds_toArray, List.set_cons_zero, List.set_cons_succ] at hK ⊢; have HK := Lib.hid hK; clear hK hp; refine ⟨?_⟩; go_simp; exact HK.out _ _ rfl (Below.refl _ _)
    · intro ts W hb hB hp; have h2 : ts 2 = _ := hp 2 (by kernel_rfl); have h3 : ts 3 = _ := hp 3 (by kernel_rfl); intro K hK; simp only [fillT, Nat.zero_add, Nat.reduceAdd, List.setIfInBounds_toArray, List.set_cons_zero, List.set_cons_succ, h2, h3] at hK ⊢; have HK := Lib.hid hK; clear hK hp; refine ⟨?_⟩; go_simp; exact HK.out _ _ (by simp [kIs, hr1, hs2]) (Below.refl _ _)
    · intro ts W hb hB hp; intro K hK; simp only [fillT, Nat.zero_add, Nat.reduceAdd, List.setIfInBounds_toArray, List.set_cons_zero, List.set_cons_succ] at hK ⊢; have HK := Lib.hid hK; clear hK hp; refine ⟨?_⟩; go_simp; exact HK.out _ _ rfl (Below.refl _ _)
    · intro ts W hb hB hp; have h5 : ts 5 = _ := hp 5 (by kernel_rfl); intro K hK; simp only [fillT, Nat.zero_add, Nat.reduceAdd, List.setIfInBounds_toArray, List.set_cons_zero, List.set_cons_succ, h5] at hK ⊢; have HK := Lib.hid hK; clear hK hp; have hcell : W.cell? ⟨w.heap.size, 2, none⟩ = some (.int .u8 p2) := (by simp [World.cell?, (hb.block _ (heap_ge_none HC.out)).trans HC.out]); refine ⟨?_⟩; go_simp; exact HK.out _ _ rfl (Below.refl _ _)
    · intro ts W hb hB hp; have h6 : ts 6 = _ := hp 6 (by kernel_rfl); intro K hK; simp only [fillT, Nat.zero_add, Nat.reduceAdd, List.setIfInBounds_toArray, List.set_cons_zero, List.set_cons_succ, h6] at hK ⊢; have HK := Lib.hid hK; clear hK hp; refine ⟨?_⟩; go_simp; exact HK.out _ _ (by simp [kIs, hv1, hv2]) (Below.refl _ _)
    · intro ts W hb hB hp; intro K hK; simp only [fillT, Nat.zero_add, Nat.reduceAdd, List.setIfInBounds_toArray, List.set_cons_zero, List.set_cons_succ] at hK ⊢; have HK := Lib.hid hK; clear hK hp; refine ⟨?_⟩; go_simp; exact HK.out _ _ rfl (Below.refl _ _)
    · intro ts W hb hB hp; have h7 : ts 7 = _ := hp 7 (by kernel_rfl); have h8 : ts 8 = _ := hp 8 (by kernel_rfl); intro K hK; simp only [fillT, Nat.zero_add, Nat.reduceAdd, List.setIfInBounds_toArray, List.set_cons_zero, List.set_cons_succ, h7, h8] at hK ⊢; have HK := Lib.hid hK; clear hK hp; refine ⟨?_⟩; go_simp; exact HK.out _ _ (by simp [kIs, hr1, hs2]) (Below.refl _ _)
    · intro ts W hb hB hp; have h4 : ts 4 = _ := hp 4 (by kernel_rfl); intro K hK; simp only [fillT, Nat.zero_add, Nat.reduceAdd, List.setIfInBounds_toArray, List.set_cons_zero, List.set_cons_succ, h4] at hK ⊢; have HK := Lib.hid hK; clear hK hp; refine ⟨?_⟩; go_simp; exact HK.out _ _ rfl (Below.refl _ _)
    · intro ts W hb hB hp; have h9 : ts 9 = _ := hp 9 (by kernel_rfl); intro K hK; simp only [fillT, Nat.zero_add, Nat.reduceAdd, List.setIfInBounds_toArray, List.set_cons_zero, List.set_cons_succ, h9] at hK ⊢; have HK := Lib.hid hK; clear hK hp; refine ⟨?_⟩; go_simp; exact HK.out _ _ rfl (Below.refl _ _)
    intro ts W11 hb hh hap
    have e10 := held_is (hh 10 (by simp)) rfl
    have e11 := held_is (hh 11 (by simp)) rfl
    simp only [fillT, Nat.zero_add, Nat.reduceAdd, List.setIfInBounds_toArray, List.set_cons_zero, List.set_cons_succ, e10, e11]
    clear hh hap e10 e11
    generalize ts 0 = u0_W11 at *
    generalize ts 1 = u1_W11 at *
    generalize ts 2 = u2_W11 at *
    generalize ts 3 = u3_W11 at *
    generalize ts 4 = u4_W11 at *
    generalize ts 5 = u5_W11 at *
    generalize ts 6 = u6_W11 at *
    generalize ts 7 = u7_W11 at *
    generalize ts 8 = u8_W11 at *
    generalize ts 9 = u9_W11 at *
    clear ts
    replace KB := Lib.hid (below_trans KB.out hb)
    replace X14 := (hb.block _ z14).trans X14
    replace z14 := Nat.lt_of_lt_of_le z14 hb.size
    replace N14 := N14.below hb
    clear hb HC HX10 hr1 hs2 hnz hv1 hv2
    by_cases hrs : r = s
    · subst hrs
      have hrr : ((r : Int) == (r : Int)) = true := by simp
      go_wp2_with fail
      refine (awake_any W11 (HT.out.below KB.out)).mono ?_
      rintro e W12 ⟨rfl, hb⟩
      have KB2 := Lib.hid (below_trans B1.out (below_trans KB.out hb))
      clear hb X14 N14 z14
      go_wp2
      go_ret
      exact ⟨rfl, KB2.out⟩
    · have hrr : ((r : Int) == (s : Int)) = false := by simp; omega
      have hsq := squareM_any W11 A len cap n f (HR0.out.below (below_trans B1.out KB.out)) H64.out (by omega) hl (HT.out.below KB.out)
      rw [← HX0.out] at hsq
      have HSQ := Lib.hid hsq
      clear hsq
      go_wp2_with fail
      refine HSQ.out.mono ?_
      rintro e W12 ⟨gz, iz, rfl, hM, hP, hb⟩
      have HZ12 := Lib.hid hM
      have HPz := Lib.hid hP
      have HBZ := Lib.hid hb
      clear hM hP hb HSQ hrr
      obtain ⟨m5, s5, b5⟩ := HZ12.out.swap HPz.out hrn hsn hrs
      have x1 := HZ12.out.cell hrn
      have x2 := HZ12.out.cell hsn
      have y1 := HZ12.out.frozen r
      have y2 := HZ12.out.frozen s
      have x3 : (W12.setCell ⟨gz, r, none⟩ (.slice (some ⟨iz s, 0, none⟩) n n)).cell? ⟨gz, s, none⟩ = some (.slice (some ⟨iz s, 0, none⟩) n n) := by
        rw [World.cell?_setCell_other _ _ _ _ (by intro e; injection e with _ e; exact hrs e)]
        exact HZ12.out.cell hsn
      have i1 : (r : Int) < (n : Int) := by omega
      have i2 : (s : Int) < (n : Int) := by omega
      have i3 : (0 : Int) ≤ (r : Int) := by omega
      have i4 : (0 : Int) ≤ (s : Int) := by omega
      have m6 := m5.below (W' := World.drew _) ((Below.refl _ _).drew)
      have b6 := b5.drew
      go_upto_region 19 with fail
      go_region
      generalize ((W12.setCell ⟨gz, r, none⟩ (.slice (some ⟨iz s, 0, none⟩) n n)).setCell ⟨gz, s, none⟩ (.slice (some ⟨iz r, 0, none⟩) n n)).drew = W13 at *
      have HM13 := Lib.hid m6
      have hb13 := HBZ.out.trans b6
      replace KB := Lib.hid (below_trans KB.out hb13)
      replace X14 := (hb13.block _ z14).trans X14
      replace z14 := Nat.lt_of_lt_of_le z14 hb13.size
      replace N14 := N14.below hb13
      clear hb13 HBZ m5 s5 b5 m6 b6 x1 x2 x3 y1 y2 i1 i2 i3 i4
      have HE23 := Lib.hid ((dC_alt n).swap hrn hsn hrs X)
      have HD23 := Lib.hid (show Sz (dC n (swp X r s)) 7501 by rw [HE23.out]; exact HD14.out.neg)
      go_upto_region 20 with fail
      refine region_lin [.val (kIs (.slice (some ⟨gz, 0, none⟩) n n)), .val (kTup (dC n (swp X r s)) 0), .val (kTup (dC n (swp X r s)) 0), .val (kNum (dC n (swp X r s))), .val (kIs (.int .i64 0)), .box 30 zNum, .put 5 3, .val (kIs (.int .i64 0))]
        (by kernel_rfl) (by kernel_rfl) (by kernel_rfl) (by kernel_rfl) (by kernel_rfl) ⟨stab_is _, stab_tup _ _, stab_tup _ _, stab_num _, stab_is _, stab_is _, trivial⟩ (by simp) ⟨?_, ?_, ?_, ?_, ?_, alloc_num, store_num _, ?_, trivial⟩ ?_
      · intro ts W hb hB hp; intro K hK; simp only [fillT, Nat.zero_add, Nat.reduceAdd, List.setIfInBounds_toArray, List.set_cons_zero, List.set_cons_succ] at hK ⊢; have HK := Lib.hid hK; clear hK hp; refine ⟨?_⟩; go_simp; exact HK.out _ _ rfl (Below.refl _ _)
      · intro ts W hb hB hp; have h0 : ts 0 = _ := hp 0 (by kernel_rfl); intro K hK; simp only [fillT, Nat.zero_add, Nat.reduceAdd, List.setIfInBounds_toArray, List.set_cons_zero, List.set_cons_succ, h0] at hK ⊢; have HK := Lib.hid hK; clear hK hp; refine ⟨?_⟩; go_simp; refine (detN_sq W gz (swp iz r s) n 2 (swp X r s) (HM13.out.below hb) (by omega) (HT.out.below (below_trans KB.out hb)) (fun a b ha hb => Sz.swp (fun a b _ _ => HSX.out a b) hrn hsn a b ha hb) (by have := HZ.out; omega)).mono ?_; rintro e W9 ⟨r9, rfl, hr9, hb9⟩; exact HK.out _ _ ⟨r9, rfl, hr9⟩ hb9
      · intro ts W hb hB hp; have h1 := hp 1 (by kernel_rfl); intro K hK; simp only [fillT, Nat.zero_add, Nat.reduceAdd, List.setIfInBounds_toArray, List.set_cons_zero, List.set_cons_succ] at hK ⊢; have HK := Lib.hid hK; clear hK hp; refine ⟨?_⟩; go_simp; exact HK.out _ _ h1 (Below.refl _ _)
      · intro ts W hb hB hp; have h2 := hp 2 (by kernel_rfl); intro K hK; obtain ⟨u2, e2, n2⟩ := h2; simp only [fillT, Nat.zero_add, Nat.reduceAdd, List.setIfInBounds_toArray, List.set_cons_zero, List.set_cons_succ, e2] at hK ⊢; have HK := Lib.hid hK; clear hK hp; refine ⟨?_⟩; go_simp; exact HK.out _ _ n2 (Below.refl _ _)
      · intro ts W hb hB hp; have h2 := hp 2 (by kernel_rfl); intro K hK; obtain ⟨u2, e2, n2⟩ := h2; simp only [fillT, Nat.zero_add, Nat.reduceAdd, List.setIfInBounds_toArray, List.set_cons_zero, List.set_cons_succ, e2] at hK ⊢; have HK := Lib.hid hK; clear hK hp; refine ⟨?_⟩; go_simp; exact HK.out _ _ rfl (Below.refl _ _)
      · intro ts W hb hB hp; have h4 : ts 4 = _ := hp 4 (by kernel_rfl); intro K hK; simp only [fillT, Nat.zero_add, Nat.reduceAdd, List.setIfInBounds_toArray, List.set_cons_zero, List.set_cons_succ, h4] at hK ⊢; have HK := Lib.hid hK; clear hK hp; refine ⟨?_⟩; go_simp; exact HK.out _ _ rfl (Below.refl _ _)
      intro ts W14 hb hh hap
      have e7 := held_is (hh 7 (by simp)) rfl
      obtain ⟨g23, A23, n23, c23, p23, A23b, n23b, c23b, p23b, A23c, n23c, c23c, e5, lo23, z23, X23, N23⟩ := held_box (x := dC n (swp X r s)) (hh 5 (by simp)) rfl (hh 6 (by simp)) rfl (hh 3 (by simp)) rfl
      simp only [fillT, Nat.zero_add, Nat.reduceAdd, List.setIfInBounds_toArray, List.set_cons_zero, List.set_cons_succ, e7, e5]
      clear hh hap e7 e5
      generalize ts 0 = u0_W14 at *
      generalize ts 1 = u1_W14 at *
      generalize ts 2 = u2_W14 at *
      generalize ts 3 = u3_W14 at *
      generalize ts 4 = u4_W14 at *
      clear ts
      clear lo23 HM13
      replace KB := Lib.hid (below_trans KB.out hb)
      replace X14 := (hb.block _ z14).trans X14
      replace z14 := Nat.lt_of_lt_of_le z14 hb.size
      replace N14 := N14.below hb
      clear hb
      go_upto_region 21 with fail
      refine region_lin [.val (kIs (.int .i64 (0 : Int))), .val (kIs (.bool true)), .val (kIs (.bool true)), .val (kIs (.agg #[.slice A23 n23 c23, .bool p23, .slice A23b n23b c23b, .bool p23b, .slice A23c n23c c23c])), .val (kIs (.agg #[.slice A14 n14 c14, .bool p14, .slice A14b n14b c14b, .bool p14b, .slice A14c n14c c14c])), .val (kNum ((dC n X).neg)), .val (kIs (.bool true)), .val (kIs (.bool true)), .val (kIs (.bool true)), .val (kIs (.bool true)), .val (kIs (.bool true)), .val (kIs (.bool true))]
        (by kernel_rfl) (by kernel_rfl) (by kernel_rfl) (by kernel_rfl) (by kernel_rfl) ⟨Stab.b (stab_is _), Stab.b (stab_is _), Stab.b (stab_is _), Stab.b (stab_is _), Stab.b (stab_is _), Stab.b (stab_num _), Stab.b (stab_is _), Stab.b (stab_is _), Stab.b (stab_is _), Stab.b (stab_is _), Stab.b (stab_is _), Stab.b (stab_is _), trivial⟩ (by simp) ⟨?_, ?_, ?_, ?_, ?_, ?_, ?_, ?_, ?_, ?_, ?_, ?_, trivial⟩ ?_
      · intro ts W hb hB hp; intro K hK; simp only [fillT, Nat.zero_add, Nat.reduceAdd, List.setIfInBounds_toArray, List.set_cons_zero, List.set_cons_succ] at hK ⊢; have HK := Lib.hid hK; clear hK hp; refine ⟨?_⟩; go_simp; exact HK.out _ _ rfl (Below.refl _ _)
      · intro ts W hb hB hp; have h0 : ts 0 = _ := hp 0 (by kernel_rfl); intro K hK; simp only [fillT, Nat.zero_add, Nat.reduceAdd, List.setIfInBounds_toArray, List.set_cons_zero, List.set_cons_succ, h0] at hK ⊢; have HK := Lib.hid hK; clear hK hp; refine ⟨?_⟩; go_simp; exact HK.out _ _ (by simp [kIs]) (Below.refl _ _)
      · intro ts W hb hB hp; have h1 : ts 1 = _ := hp 1 (by kernel_rfl); intro K hK; simp only [fillT, Nat.zero_add, Nat.reduceAdd, List.setIfInBounds_toArray, List.set_cons_zero, List.set_cons_succ, h1] at hK ⊢; have HK := Lib.hid hK; clear hK hp; refine ⟨?_⟩; go_simp; exact HK.out _ _ rfl (Below.refl _ _)
      · intro ts W hb hB hp; have h2 : ts 2 = _ := hp 2 (by kernel_rfl); refine Guarded.on h2 ?_; clear h2; intro K hK; simp only [fillT, Nat.zero_add, Nat.reduceAdd, List.setIfInBounds_toArray, List.set_cons_zero, List.set_cons_succ] at hK ⊢; refine ⟨?_⟩; refine wp_load_row _ _ rfl (g23) rfl _ _ (0, 0) _ ((hb.block _ (z23)).trans X23) Tryz.underlying30 rfl (by kernel_rfl) ?_; exact hK _ _ rfl (Below.refl _ _)
      · intro ts W hb hB hp; have h2 : ts 2 = _ := hp 2 (by kernel_rfl); refine Guarded.on h2 ?_; clear h2; intro K hK; simp only [fillT, Nat.zero_add, Nat.reduceAdd, List.setIfInBounds_toArray, List.set_cons_zero, List.set_cons_succ] at hK ⊢; refine ⟨?_⟩; refine wp_load_row _ _ rfl (g14) rfl _ _ (0, 0) _ ((hb.block _ (z14)).trans X14) Tryz.underlying30 rfl (by kernel_rfl) ?_; exact hK _ _ rfl (Below.refl _ _)
      · intro ts W hb hB hp; have h4 : ts 4 = _ := hp 4 (by kernel_rfl); have h2 : ts 2 = _ := hp 2 (by kernel_rfl); refine Guarded.on h2 ?_; clear h2; intro K hK; simp only [fillT, Nat.zero_add, Nat.reduceAdd, List.setIfInBounds_toArray, List.set_cons_zero, List.set_cons_succ, h4] at hK ⊢; have HK := Lib.hid hK; clear hK hp; refine ⟨?_⟩; go_simp; refine (negN_any _ (dC n X) W (N14.below hb)).mono ?_; rintro e W9 ⟨r9, rfl, hr9, hb9⟩; exact HK.out _ _ hr9 hb9
      · intro ts W hb hB hp; have h3 : ts 3 = _ := hp 3 (by kernel_rfl); have h5 : IsNum W (ts 5) ((dC n X).neg) := hp 5 (by kernel_rfl); have h2 : ts 2 = _ := hp 2 (by kernel_rfl); refine Guarded.on h2 ?_; clear h2; intro K hK; simp only [fillT, Nat.zero_add, Nat.reduceAdd, List.setIfInBounds_toArray, List.set_cons_zero, List.set_cons_succ, h3] at hK ⊢; have HK := Lib.hid hK; clear hK hp; refine ⟨?_⟩; go_simp; refine (sameN_k _ _ (dC n (swp X r s)) ((dC n X).neg) W (N23.below hb) h5 65001 (Sz.mono HD23.out (by omega)) (Sz.mono (Sz.neg HD14.out) (by omega)) (by omega) (same_t (HE23.out))).mono ?_; rintro e W9 ⟨rfl, hb9⟩; exact HK.out _ _ rfl hb9
      · intro ts W hb hB hp; have h2 : ts 2 = _ := hp 2 (by kernel_rfl); have h6 : ts 6 = _ := hp 6 (by kernel_rfl); intro K hK; simp only [fillT, Nat.zero_add, Nat.reduceAdd, List.setIfInBounds_toArray, List.set_cons_zero, List.set_cons_succ, h2, h6] at hK ⊢; have HK := Lib.hid hK; clear hK hp; refine ⟨?_⟩; go_simp; exact HK.out _ _ rfl (Below.refl _ _)
      · intro ts W hb hB hp; have h7 : ts 7 = _ := hp 7 (by kernel_rfl); intro K hK; simp only [fillT, Nat.zero_add, Nat.reduceAdd, List.setIfInBounds_toArray, List.set_cons_zero, List.set_cons_succ, h7] at hK ⊢; have HK := Lib.hid hK; clear hK hp; refine ⟨?_⟩; go_simp; exact HK.out _ _ rfl (Below.refl _ _)
      · intro ts W hb hB hp; have h8 : ts 8 = _ := hp 8 (by kernel_rfl); refine Guarded.on h8 ?_; clear h8; intro K hK; simp only [fillT, Nat.zero_add, Nat.reduceAdd, List.setIfInBounds_toArray, List.set_cons_zero, List.set_cons_succ] at hK ⊢; have HK := Lib.hid hK; clear hK hp; refine ⟨?_⟩; go_simp; refine (awake_any W (HT.out.below (below_trans KB.out hb))).mono ?_; rintro e W9 ⟨rfl, hb9⟩; exact HK.out _ _ rfl hb9
      · intro ts W hb hB hp; have h8 : ts 8 = _ := hp 8 (by kernel_rfl); have h9 : ts 9 = _ := hp 9 (by kernel_rfl); intro K hK; simp only [fillT, Nat.zero_add, Nat.reduceAdd, List.setIfInBounds_toArray, List.set_cons_zero, List.set_cons_succ, h8, h9] at hK ⊢; have HK := Lib.hid hK; clear hK hp; refine ⟨?_⟩; go_simp; exact HK.out _ _ rfl (Below.refl _ _)
      · intro ts W hb hB hp; have h10 : ts 10 = _ := hp 10 (by kernel_rfl); intro K hK; simp only [fillT, Nat.zero_add, Nat.reduceAdd, List.setIfInBounds_toArray, List.set_cons_zero, List.set_cons_succ, h10] at hK ⊢; have HK := Lib.hid hK; clear hK hp; refine ⟨?_⟩; go_simp; exact HK.out _ _ rfl (Below.refl _ _)
      intro ts W15 hb hh hap
      have e11 := held_is (hh 11 (by simp)) rfl
      simp only [fillT, Nat.zero_add, Nat.reduceAdd, List.setIfInBounds_toArray, List.set_cons_zero, List.set_cons_succ, e11]
      clear hh hap e11
      generalize ts 0 = u0_W15 at *
      generalize ts 1 = u1_W15 at *
      generalize ts 2 = u2_W15 at *
      generalize ts 3 = u3_W15 at *
      generalize ts 4 = u4_W15 at *
      generalize ts 5 = u5_W15 at *
      generalize ts 6 = u6_W15 at *
      generalize ts 7 = u7_W15 at *
      generalize ts 8 = u8_W15 at *
      generalize ts 9 = u9_W15 at *
      generalize ts 10 = u10_W15 at *
      clear ts
      have KB2 := Lib.hid (below_trans B1.out (below_trans KB.out hb))
      clear hb X14 N14 z14 X23 N23 z23
      go_wp2
      go_ret
      exact ⟨rfl, KB2.out⟩
end Go.Proofs.YtmlkpnfjgifgfaaGreatDoor
