/- The law NumGram. -/
import Derived.Test.YtmlkpnfjgifgfaaGreatDoorG33
import Derived.Test.YtmlkpnfjgifgfaaGreatDoorG42
import Derived.Test.YtmlkpnfjgifgfaaGreatDoorG43
set_option linter.unusedSimpArgs false
set_option linter.unusedVariables false
namespace Go.Proofs.YtmlkpnfjgifgfaaGreatDoor
open Go.RowKit
set_option maxRecDepth 100000

set_option maxHeartbeats 8000000 in
theorem gramC_any (w : World) (ga : Nat) (gi : Nat → Nat) (n : Nat) (F : Nat → Nat → Cx) (hA : MatAt w ga gi n n F) (hn : n ≤ 4) (hT : Tab w) (hS : ∀ a b, Sz (F a b) 2) :
    Calls Tryz.prog 21 #[.slice (some ⟨ga, 0, none⟩) n n] w (RetMat w n n (mulM n (adjM F) F)) := by
  have HA0 := Lib.hid hA
  have HT := Lib.hid hT
  have HS := Lib.hid hS
  clear hA hT hS
  go_enter Tryz.func21, Tryz.ntmps21
  go_wp2_with fail
  refine (adjointN_sq w ga gi n F HA0.out (by omega)).mono ?_
  rintro e W1 ⟨gb, gj, rfl, hM, hP, hb⟩
  have HB := Lib.hid hM
  have KB := Lib.hid hb
  have HA1 := Lib.hid (HA0.out.below hb)
  clear hM hP hb
  go_wp2_with fail
  refine (productN_sq W1 gb ga gj gi n 2 2 (adjM F) F HB.out HA1.out (by omega) (HT.out.below KB.out) (fun a b _ _ => (HS.out b a).conj) (fun a b _ _ => HS.out a b) (by omega)).mono ?_
  rintro e W2 ⟨gc, gk, rfl, hM, hP, hb⟩
  have HM := Lib.hid hM
  have HP := Lib.hid (show MatSep w.heap.size gc gk n from ⟨Nat.le_trans KB.out.size hP.lo, fun i hi => Nat.le_trans KB.out.size (hP.los i hi), hP.ne, hP.inj⟩)
  have KB2 := Lib.hid (below_trans KB.out hb)
  clear hM hP hb
  go_wp2
  go_ret
  exact ⟨_, _, rfl, HM.out, HP.out, KB2.out⟩
theorem small_gram {n : Nat} (hn : n ≤ 4) : 2 * szE 901 n < 549755813888 := by
  have h : n = 0 ∨ n = 1 ∨ n = 2 ∨ n = 3 ∨ n = 4 := by omega
  rcases h with rfl | rfl | rfl | rfl | rfl <;> decide
theorem mulM_szs {n s s1 S : Nat} {F G : Nat → Nat → Cx} (hn : n ≤ 4) (hF : ∀ i k, Sz (F i k) s) (hG : ∀ i k, Sz (G i k) s1) (h : 1 + 4 * (s + s1 + 2) ≤ S) : ∀ i k, Sz (mulM n F G i k) S := fun i k =>
  (sm_sz (p := s + s1 + 1) n 0 fun j _ _ => (hF i j).mul (hG j k)).mono (by
    have := Nat.mul_le_mul_right (s + s1 + 1 + 1) hn
    omega)
theorem buildL4_run (W : World) (A B C D : Option Addr) (n m k l n' m' k' l' : Nat) : (Instr.buildSlice 53 4 #[(0, .slice A n n'), (1, .slice B m m'), (2, .slice C k k'), (3, .slice D l l')]).run Tryz.prog W =
    .ok (.slice (some ⟨W.heap.size, 0, none⟩) 4 4) (W.alloc (.cells #[.slice A n n', .slice B m m', .slice C k k', .slice D l l'] 23 (0, 0))) := by kernel_rfl
set_option maxHeartbeats 16000000 in
theorem gram_walk (w : World) (A0 A1 A2 : Option Addr) (l0 l1 l2 c0 c1 c2 side : Nat) (f0 f1 f2 : Nat → Int × Int × Int) (hR0 : RatS w A0 l0 f0) (hR1 : RatS w A1 l1 f1) (hR2 : RatS w A2 l2 f2) (h0 : Rat64 f0) (h1 : Rat64 f1) (h2 : Rat64 f2)
    (hl0 : l0 ≤ 9223372036854775807) (hl1 : l1 ≤ 9223372036854775807) (hl2 : l2 ≤ 9223372036854775807) (hs : side < 256) (hT : Tab w) :
    Calls Tryz.prog 5 #[.agg #[.slice A0 l0 c0, .slice A1 l1 c1, .slice A2 l2 c2], .int .u8 side] w fun e w' => e = .returned (.bool true) ∧ Below w.heap.size w w' := by
  obtain ⟨n, hn⟩ : ∃ n, n = side % 5 := ⟨_, rfl⟩
  have hw1 : ((side : Int)).tmod 5 = (n : Int) := by
    rw [Int.tmod_eq_emod_of_nonneg (by omega)]
    omega
  have hn4 : n ≤ 4 := by omega
  clear hn
  have hsq0 := fun W (hb : Below w.heap.size w W) => squareM_any W A0 l0 c0 n f0 (hR0.below hb) h0 (by omega) hl0 (hT.below hb)
  have hsq1 := fun W (hb : Below w.heap.size w W) => squareM_any W A1 l1 c1 n f1 (hR1.below hb) h1 (by omega) hl1 (hT.below hb)
  have hsq2 := fun W (hb : Below w.heap.size w W) => squareM_any W A2 l2 c2 n f2 (hR2.below hb) h2 (by omega) hl2 (hT.below hb)
  have hz0 := sqF_sz' h0 l0 n
  have hz1 := sqF_sz' h1 l1 n
  have hz2 := sqF_sz' h2 l2 n
  generalize sqF f0 l0 n = Q0 at *
  generalize sqF f1 l1 n = Q1 at *
  generalize sqF f2 l2 n = Q2 at *
  have HS0 := Lib.hid hsq0
  have HS1 := Lib.hid hsq1
  have HS2 := Lib.hid hsq2
  have HZ0 := Lib.hid hz0
  have HZ1 := Lib.hid hz1
  have HZ2 := Lib.hid hz2
  have HT0 := Lib.hid hT
  clear hR0 hR1 hR2 h0 h1 h2 hsq0 hsq1 hsq2 hz0 hz1 hz2 hT
  obtain ⟨X, hXX⟩ : ∃ X, X = mulM n (adjM Q0) Q0 := ⟨_, rfl⟩
  obtain ⟨Y, hYY⟩ : ∃ Y, Y = mulM n (adjM Q1) Q1 := ⟨_, rfl⟩
  have HXX := Lib.hid hXX
  have HYY := Lib.hid hYY
  have HSX := Lib.hid (show ∀ i k, Sz (X i k) 25 by rw [hXX]; exact mulM_sz hn4 (fun i k => (HZ0.out k i).conj) HZ0.out)
  have HSY := Lib.hid (show ∀ i k, Sz (Y i k) 25 by rw [hYY]; exact mulM_sz hn4 (fun i k => (HZ1.out k i).conj) HZ1.out)
  have HPX := Lib.hid (show Psd n 0 X by rw [hXX]; exact gram_psd n Q0)
  have HPY := Lib.hid (show Psd n 0 Y by rw [hYY]; exact gram_psd n Q1)
  clear hXX hYY
  go_enter Tryz.func5, Tryz.ntmps5
  go_upto_region 3 with fail
  clear hw1
  obtain ⟨W1, hW1⟩ : ∃ W1 : World, W1 = w.alloc (.cells #[.slice A0 l0 c0, .slice A1 l1 c1, .slice A2 l2 c2] 51) := ⟨_, rfl⟩
  rw [← hW1]
  have B1 := Lib.hid (show Below w.heap.size w W1 by rw [hW1]; exact below_alloc _ _)
  have HC := Lib.hid (show W1.heap[w.heap.size]? = some (.cells #[.slice A0 l0 c0, .slice A1 l1 c1, .slice A2 l2 c2] 51 (0, 0)) by rw [hW1]; exact heap_alloc_new _ _)
  clear hW1
  refine region_lin [.val (kIs (.func (.func 21) #[] #[])), .val (kIs (.pointer (some ⟨w.heap.size, 0, none⟩))), .val (kIs (.slice A0 l0 c0)), .val (kIs (.int .i64 (n : Int))), .val (kMat n n Q0), .val (kMat n n (mulM n (adjM Q0) Q0)), .val (kIs (.func (.func 21) #[] #[])), .val (kIs (.pointer (some ⟨w.heap.size, 1, none⟩))), .val (kIs (.slice A1 l1 c1)), .val (kIs (.int .i64 (n : Int))), .val (kMat n n Q1), .val (kMat n n (mulM n (adjM Q1) Q1)), .val (kIs (.pointer (some ⟨w.heap.size, 2, none⟩))), .val (kIs (.slice A2 l2 c2)), .val (kIs (.int .i64 (n : Int))), .val (kMat n n Q2), .val (kMat n n (mulM n (adjM Q0) Q0)), .val (kMat n n (mulM n (adjM Q1) Q1)), .val (kMat n n (Q2))]
    (by kernel_rfl) (by kernel_rfl) (by kernel_rfl) (by kernel_rfl) (by kernel_rfl) ⟨Stab.b (stab_is _), Stab.b (stab_is _), Stab.b (stab_is _), Stab.b (stab_is _), stab_mat _ _ _, stab_mat _ _ _, Stab.b (stab_is _), Stab.b (stab_is _), Stab.b (stab_is _), Stab.b (stab_is _), stab_mat _ _ _, stab_mat _ _ _, Stab.b (stab_is _), Stab.b (stab_is _), Stab.b (stab_is _), stab_mat _ _ _, stab_mat _ _ _, stab_mat _ _ _, stab_mat _ _ _, trivial⟩ (by simp) ⟨?_, ?_, ?_, ?_, ?_, ?_, ?_, ?_, ?_, ?_, ?_, ?_, ?_, ?_, ?_, ?_, ?_, ?_, ?_, trivial⟩ ?_
  · intro ts W hb hB hp; intro K hK; simp only [fillT, Nat.zero_add, Nat.reduceAdd, List.setIfInBounds_toArray, List.set_cons_zero, List.set_cons_succ] at hK ⊢; have HK := Lib.hid hK; clear hK hp; refine ⟨?_⟩; go_simp; exact HK.out _ _ rfl (Below.refl _ _)
  · intro ts W hb hB hp; intro K hK; simp only [fillT, Nat.zero_add, Nat.reduceAdd, List.setIfInBounds_toArray, List.set_cons_zero, List.set_cons_succ] at hK ⊢; have HK := Lib.hid hK; clear hK hp; refine ⟨?_⟩; go_simp; exact HK.out _ _ rfl (Below.refl _ _)
  · intro ts W hb hB hp; have h1 : ts 1 = _ := hp 1 (by kernel_rfl); intro K hK; simp only [fillT, Nat.zero_add, Nat.reduceAdd, List.setIfInBounds_toArray, List.set_cons_zero, List.set_cons_succ, h1] at hK ⊢; have HK := Lib.hid hK; clear hK hp; have hcell : W.cell? ⟨w.heap.size, 0, none⟩ = some (.slice A0 l0 c0) := (by simp [World.cell?, (hb.block _ (heap_ge_none HC.out)).trans HC.out]); refine ⟨?_⟩; go_simp; exact HK.out _ _ rfl (Below.refl _ _)
  · intro ts W hb hB hp; intro K hK; simp only [fillT, Nat.zero_add, Nat.reduceAdd, List.setIfInBounds_toArray, List.set_cons_zero, List.set_cons_succ] at hK ⊢; have HK := Lib.hid hK; clear hK hp; refine ⟨?_⟩; go_simp; exact HK.out _ _ rfl (Below.refl _ _)
  · intro ts W hb hB hp; have h2 : ts 2 = _ := hp 2 (by kernel_rfl); have h3 : ts 3 = _ := hp 3 (by kernel_rfl); intro K hK; simp only [fillT, Nat.zero_add, Nat.reduceAdd, List.setIfInBounds_toArray, List.set_cons_zero, List.set_cons_succ, h2, h3] at hK ⊢; have HK := Lib.hid hK; clear hK hp; refine ⟨?_⟩; go_simp; refine (HS0.out W (below_trans B1.out hb)).mono ?_; rintro e W9 ⟨g9, i9, rfl, hM9, hP9, hb9⟩; exact HK.out _ _ ⟨_, _, rfl, hM9⟩ hb9
  · intro ts W hb hB hp; have h0 : ts 0 = _ := hp 0 (by kernel_rfl); have h4 := hp 4 (by kernel_rfl); intro K hK; obtain ⟨gg, ig, e4, m4⟩ := h4; simp only [fillT, Nat.zero_add, Nat.reduceAdd, List.setIfInBounds_toArray, List.set_cons_zero, List.set_cons_succ, h0, e4] at hK ⊢; have HK := Lib.hid hK; clear hK hp; refine ⟨?_⟩; go_simp; refine (gramC_any W gg ig n Q0 m4 hn4 (HT0.out.below (below_trans B1.out hb)) HZ0.out).mono ?_; rintro e W9 ⟨g9, i9, rfl, hM9, hP9, hb9⟩; exact HK.out _ _ ⟨_, _, rfl, hM9⟩ hb9
  · intro ts W hb hB hp; intro K hK; simp only [fillT, Nat.zero_add, Nat.reduceAdd, List.setIfInBounds_toArray, List.set_cons_zero, List.set_cons_succ] at hK ⊢; have HK := Lib.hid hK; clear hK hp; refine ⟨?_⟩; go_simp; exact HK.out _ _ rfl (Below.refl _ _)
  · intro ts W hb hB hp; intro K hK; simp only [fillT, Nat.zero_add, Nat.reduceAdd, List.setIfInBounds_toArray, List.set_cons_zero, List.set_cons_succ] at hK ⊢; have HK := Lib.hid hK; clear hK hp; refine ⟨?_⟩; go_simp; exact HK.out _ _ rfl (Below.refl _ _)
  · intro ts W hb hB hp; have h7 : ts 7 = _ := hp 7 (by kernel_rfl); intro K hK; simp only [fillT, Nat.zero_add, Nat.reduceAdd, List.setIfInBounds_toArray, List.set_cons_zero, List.set_cons_succ, h7] at hK ⊢; have HK := Lib.hid hK; clear hK hp; have hcell : W.cell? ⟨w.heap.size, 1, none⟩ = some (.slice A1 l1 c1) := (by simp [World.cell?, (hb.block _ (heap_ge_none HC.out)).trans HC.out]); refine ⟨?_⟩; go_simp; exact HK.out _ _ rfl (Below.refl _ _)
  · intro ts W hb hB hp; intro K hK; simp only [fillT, Nat.zero_add, Nat.reduceAdd, List.setIfInBounds_toArray, List.set_cons_zero, List.set_cons_succ] at hK ⊢; have HK := Lib.hid hK; clear hK hp; refine ⟨?_⟩; go_simp; exact HK.out _ _ rfl (Below.refl _ _)
  · intro ts W hb hB hp; have h8 : ts 8 = _ := hp 8 (by kernel_rfl); have h9 : ts 9 = _ := hp 9 (by kernel_rfl); intro K hK; simp only [fillT, Nat.zero_add, Nat.reduceAdd, List.setIfInBounds_toArray, List.set_cons_zero, List.set_cons_succ, h8, h9] at hK ⊢; have HK := Lib.hid hK; clear hK hp; refine ⟨?_⟩; go_simp; refine (HS1.out W (below_trans B1.out hb)).mono ?_; rintro e W9 ⟨g9, i9, rfl, hM9, hP9, hb9⟩; exact HK.out _ _ ⟨_, _, rfl, hM9⟩ hb9
  · intro ts W hb hB hp; have h6 : ts 6 = _ := hp 6 (by kernel_rfl); have h10 := hp 10 (by kernel_rfl); intro K hK; obtain ⟨gg, ig, e10, m10⟩ := h10; simp only [fillT, Nat.zero_add, Nat.reduceAdd, List.setIfInBounds_toArray, List.set_cons_zero, List.set_cons_succ, h6, e10] at hK ⊢; have HK := Lib.hid hK; clear hK hp; refine ⟨?_⟩; go_simp; refine (gramC_any W gg ig n Q1 m10 hn4 (HT0.out.below (below_trans B1.out hb)) HZ1.out).mono ?_; rintro e W9 ⟨g9, i9, rfl, hM9, hP9, hb9⟩; exact HK.out _ _ ⟨_, _, rfl, hM9⟩ hb9
  · intro ts W hb hB hp; intro K hK; simp only [fillT, Nat.zero_add, Nat.reduceAdd, List.setIfInBounds_toArray, List.set_cons_zero, List.set_cons_succ] at hK ⊢; have HK := Lib.hid hK; clear hK hp; refine ⟨?_⟩; go_simp; exact HK.out _ _ rfl (Below.refl _ _)
  · intro ts W hb hB hp; have h12 : ts 12 = _ := hp 12 (by kernel_rfl); intro K hK; simp only [fillT, Nat.zero_add, Nat.reduceAdd, List.setIfInBounds_toArray, List.set_cons_zero, List.set_cons_succ, h12] at hK ⊢; have HK := Lib.hid hK; clear hK hp; have hcell : W.cell? ⟨w.heap.size, 2, none⟩ = some (.slice A2 l2 c2) := (by simp [World.cell?, (hb.block _ (heap_ge_none HC.out)).trans HC.out]); refine ⟨?_⟩; go_simp; exact HK.out _ _ rfl (Below.refl _ _)
  · intro ts W hb hB hp; intro K hK; simp only [fillT, Nat.zero_add, Nat.reduceAdd, List.setIfInBounds_toArray, List.set_cons_zero, List.set_cons_succ] at hK ⊢; have HK := Lib.hid hK; clear hK hp; refine ⟨?_⟩; go_simp; exact HK.out _ _ rfl (Below.refl _ _)
  · intro ts W hb hB hp; have h13 : ts 13 = _ := hp 13 (by kernel_rfl); have h14 : ts 14 = _ := hp 14 (by kernel_rfl); intro K hK; simp only [fillT, Nat.zero_add, Nat.reduceAdd, List.setIfInBounds_toArray, List.set_cons_zero, List.set_cons_succ, h13, h14] at hK ⊢; have HK := Lib.hid hK; clear hK hp; refine ⟨?_⟩; go_simp; refine (HS2.out W (below_trans B1.out hb)).mono ?_; rintro e W9 ⟨g9, i9, rfl, hM9, hP9, hb9⟩; exact HK.out _ _ ⟨_, _, rfl, hM9⟩ hb9
  · intro ts W hb hB hp; have h5 := hp 5 (by kernel_rfl); intro K hK; simp only [fillT, Nat.zero_add, Nat.reduceAdd, List.setIfInBounds_toArray, List.set_cons_zero, List.set_cons_succ] at hK ⊢; have HK := Lib.hid hK; clear hK hp; refine ⟨?_⟩; go_simp; exact HK.out _ _ h5 (Below.refl _ _)
  · intro ts W hb hB hp; have h11 := hp 11 (by kernel_rfl); intro K hK; simp only [fillT, Nat.zero_add, Nat.reduceAdd, List.setIfInBounds_toArray, List.set_cons_zero, List.set_cons_succ] at hK ⊢; have HK := Lib.hid hK; clear hK hp; refine ⟨?_⟩; go_simp; exact HK.out _ _ h11 (Below.refl _ _)
  · intro ts W hb hB hp; have h15 := hp 15 (by kernel_rfl); intro K hK; simp only [fillT, Nat.zero_add, Nat.reduceAdd, List.setIfInBounds_toArray, List.set_cons_zero, List.set_cons_succ] at hK ⊢; have HK := Lib.hid hK; clear hK hp; refine ⟨?_⟩; go_simp; exact HK.out _ _ h15 (Below.refl _ _)
  intro ts W3 hb hh hap
  have k16 := (hh 16 (by simp) : Held _ _ ts _ W3 16)
  have k17 := (hh 17 (by simp) : Held _ _ ts _ W3 17)
  have k18 := (hh 18 (by simp) : Held _ _ ts _ W3 18)
  obtain ⟨gx, ix, e16, hX⟩ := k16
  obtain ⟨gy, iy, e17, hY⟩ := k17
  obtain ⟨gz, iz, e18, hZ⟩ := k18
  simp only [fillT, Nat.zero_add, Nat.reduceAdd, List.setIfInBounds_toArray, List.set_cons_zero, List.set_cons_succ, e16, e17, e18]
  clear hh hap e16 e17 e18
  generalize ts 0 = u0 at *
  generalize ts 1 = u1 at *
  generalize ts 2 = u2 at *
  generalize ts 3 = u3 at *
  generalize ts 4 = u4 at *
  generalize ts 5 = u5 at *
  generalize ts 6 = u6 at *
  generalize ts 7 = u7 at *
  generalize ts 8 = u8 at *
  generalize ts 9 = u9 at *
  generalize ts 10 = u10 at *
  generalize ts 11 = u11 at *
  generalize ts 12 = u12 at *
  generalize ts 13 = u13 at *
  generalize ts 14 = u14 at *
  generalize ts 15 = u15 at *
  clear ts
  rw [← HXX.out] at hX
  rw [← HYY.out] at hY
  have HX3 := Lib.hid hX
  have HY3 := Lib.hid hY
  have HZ3 := Lib.hid hZ
  have KB3 := Lib.hid (below_trans B1.out hb)
  clear hX hY hZ hb HC HXX HYY HS0 HS1 HS2
  have hnn : ((n : Int) != (n : Int)) = false := by simp
  obtain ⟨Q, hQ⟩ : ∃ Q : Nat → Nat → Cx, Q = fun i k => (X i k).add (Y i k) := ⟨_, rfl⟩
  have HQ := Lib.hid (show ∀ i k, (X i k).add (Y i k) = Q i k by rw [hQ]; exact fun _ _ => rfl)
  have HSQ := Lib.hid (show ∀ i k, Sz (Q i k) 51 by rw [hQ]; exact fun i k => (HSX.out i k).add (HSY.out i k))
  have HPQ := Lib.hid (show Psd n 0 Q by rw [hQ]; exact HPX.out.add HPY.out)
  clear hQ
  obtain ⟨W6, hW6⟩ : ∃ W6, W6 = W3 := ⟨_, rfl⟩
  rw [← hW6] at HX3 HY3 HZ3 KB3 ⊢
  clear hW6
  obtain ⟨W1', hr1, hb1, hs1, hP⟩ := make_mat n n (by omega) W6 (upto Q 0 0) (fun _ => 0)
  have HB := Lib.hid hb1
  have HP := Lib.hid hP
  have HT6 := Lib.hid (HT0.out.below KB3.out)
  clear hb1 hP hs1
  go_wp2
  clear hr1
  go_loopw [57] (fun j wr => ∃ (i : Nat) (g2 : Nat → Nat), j = .int .i64 i ∧ i ≤ n ∧ Below W6.heap.size W6 wr ∧ PMat W6.heap.size wr W6.heap.size g2 n n i (upto Q i 0)) (fun j _ => n - (intOf j).toNat)
  case atStart => exact ⟨0, fun _ => 0, rfl, by omega, HB.out, HP.out⟩
  case round =>
    clear HP HB
    obtain ⟨i, g1, rfl, hin, hB, hP⟩ := hrel
    by_cases hi : i < n
    · obtain ⟨W2, hr2, hb2, hs2, hN2⟩ := make_row n (by omega) wr
      have P2 := hP.below hb2
      have f1' := P2.cell_nil (Nat.le_refl i) hi
      have f2' := P2.frozen i
      obtain ⟨P3, hB2, hE2⟩ := hP.row hb2 (Nat.le_refl _) (hN2.congr fun b _ => (if_neg (by omega) : upto Q i 0 i b = .zero).symm) hi
      have f3 := P3.cell (Nat.lt_succ_self i)
      rw [upf_same] at f3
      have K4 := Lib.hid P3
      have L4 := Lib.hid (hB2.below (below_trans hB hb2) (Nat.le_refl _))
      have x1 := (HX3.out.below L4.out).cell hi
      have x2 := (HY3.out.below L4.out).cell hi
      clear P3 hB2 hE2 P2 hP hB hb2 hs2 hN2
      obtain ⟨g2, hg2⟩ : ∃ g2, g2 = upf g1 i wr.heap.size := ⟨_, rfl⟩
      rw [← hg2] at K4
      clear hg2
      have hi1 : i < i + 1 := Nat.lt_succ_self i
      go_wp2
      clear hr2 f1' f2' f3 x1 x2
      go_loopw [86] (fun j wr => ∃ k : Nat, j = .int .i64 k ∧ k ≤ n ∧ Below W6.heap.size W6 wr ∧ PMat W6.heap.size wr W6.heap.size g2 n n (i + 1) (upto Q i k)) (fun j _ => n - (intOf j).toNat)
      case atStart => exact ⟨0, rfl, by omega, L4.out, K4.out⟩
      case round =>
        clear L4 K4
        rename_i wr1
        obtain ⟨k, rfl, hkn, hB, hP⟩ := hrel
        have KB := Lib.hid hB
        have HM := Lib.hid hP
        have HX := Lib.hid (HX3.out.below hB)
        have HY := Lib.hid (HY3.out.below hB)
        clear hB hP
        by_cases hk : k < n
        · go_upto_region 16 with fail
          refine region_last [.val (kIs (.slice (some ⟨W6.heap.size, 0, none⟩) n n)), .val (kIs (.int .i64 (i : Int))), .val (kIs (.pointer (some ⟨W6.heap.size, i, none⟩))), .val (kIs (.slice (some ⟨g2 i, 0, none⟩) n n)), .val (kIs (.int .i64 (k : Int))), .val (kIs (.slice (some ⟨gx, 0, none⟩) n n)), .val (kIs (.int .i64 (i : Int))), .val (kIs (.pointer (some ⟨gx, i, none⟩))), .val (kIs (.slice (some ⟨ix i, 0, none⟩) n n)), .val (kIs (.int .i64 (k : Int))), .val (kIs (.pointer (some ⟨(ix i), 5 * k, none⟩))), .val (kNum (X i k)), .val (kIs (.slice (some ⟨gy, 0, none⟩) n n)), .val (kIs (.int .i64 (i : Int))), .val (kIs (.pointer (some ⟨gy, i, none⟩))), .val (kIs (.slice (some ⟨iy i, 0, none⟩) n n)), .val (kIs (.int .i64 (k : Int))), .val (kIs (.pointer (some ⟨(iy i), 5 * k, none⟩))), .val (kNum (Y i k)), .val (kNum ((X i k).add (Y i k))), .val (kIs (.pointer (some ⟨(g2 i), 5 * k, none⟩)))]
            (by kernel_rfl) (by kernel_rfl) (by kernel_rfl) (by kernel_rfl) (by kernel_rfl) ⟨Stab.b (stab_is _), Stab.b (stab_is _), Stab.b (stab_is _), Stab.b (stab_is _), Stab.b (stab_is _), Stab.b (stab_is _), Stab.b (stab_is _), Stab.b (stab_is _), Stab.b (stab_is _), Stab.b (stab_is _), Stab.b (stab_is _), Stab.b (stab_num _), Stab.b (stab_is _), Stab.b (stab_is _), Stab.b (stab_is _), Stab.b (stab_is _), Stab.b (stab_is _), Stab.b (stab_is _), Stab.b (stab_num _), Stab.b (stab_num _), Stab.b (stab_is _), trivial⟩ (by simp) (ol := _) rfl (by kernel_rfl) ⟨?_, ?_, ?_, ?_, ?_, ?_, ?_, ?_, ?_, ?_, ?_, ?_, ?_, ?_, ?_, ?_, ?_, ?_, ?_, ?_, ?_, trivial⟩ ?_
          · intro ts W hb hB hp; intro K hK; simp only [fillT, Nat.zero_add, Nat.reduceAdd, List.setIfInBounds_toArray, List.set_cons_zero, List.set_cons_succ] at hK ⊢; have HK := Lib.hid hK; clear hK hp; refine ⟨?_⟩; go_simp; exact HK.out _ _ rfl (Below.refl _ _)
          · intro ts W hb hB hp; intro K hK; simp only [fillT, Nat.zero_add, Nat.reduceAdd, List.setIfInBounds_toArray, List.set_cons_zero, List.set_cons_succ] at hK ⊢; have HK := Lib.hid hK; clear hK hp; refine ⟨?_⟩; go_simp; exact HK.out _ _ rfl (Below.refl _ _)
          · intro ts W hb hB hp; have h0 : ts 0 = _ := hp 0 (by kernel_rfl); have h1 : ts 1 = _ := hp 1 (by kernel_rfl); intro K hK; simp only [fillT, Nat.zero_add, Nat.reduceAdd, List.setIfInBounds_toArray, List.set_cons_zero, List.set_cons_succ, h0, h1] at hK ⊢; have HK := Lib.hid hK; clear hK hp; refine ⟨?_⟩; go_simp; exact HK.out _ _ rfl (Below.refl _ _)
          · intro ts W hb hB hp; have h2 : ts 2 = _ := hp 2 (by kernel_rfl); intro K hK; simp only [fillT, Nat.zero_add, Nat.reduceAdd, List.setIfInBounds_toArray, List.set_cons_zero, List.set_cons_succ, h2] at hK ⊢; have HK := Lib.hid hK; clear hK hp; have hcell := (HM.out.below hb).cell hi1; refine ⟨?_⟩; go_simp; exact HK.out _ _ rfl (Below.refl _ _)
          · intro ts W hb hB hp; intro K hK; simp only [fillT, Nat.zero_add, Nat.reduceAdd, List.setIfInBounds_toArray, List.set_cons_zero, List.set_cons_succ] at hK ⊢; have HK := Lib.hid hK; clear hK hp; refine ⟨?_⟩; go_simp; exact HK.out _ _ rfl (Below.refl _ _)
          · intro ts W hb hB hp; intro K hK; simp only [fillT, Nat.zero_add, Nat.reduceAdd, List.setIfInBounds_toArray, List.set_cons_zero, List.set_cons_succ] at hK ⊢; have HK := Lib.hid hK; clear hK hp; refine ⟨?_⟩; go_simp; exact HK.out _ _ rfl (Below.refl _ _)
          · intro ts W hb hB hp; intro K hK; simp only [fillT, Nat.zero_add, Nat.reduceAdd, List.setIfInBounds_toArray, List.set_cons_zero, List.set_cons_succ] at hK ⊢; have HK := Lib.hid hK; clear hK hp; refine ⟨?_⟩; go_simp; exact HK.out _ _ rfl (Below.refl _ _)
          · intro ts W hb hB hp; have h5 : ts 5 = _ := hp 5 (by kernel_rfl); have h6 : ts 6 = _ := hp 6 (by kernel_rfl); intro K hK; simp only [fillT, Nat.zero_add, Nat.reduceAdd, List.setIfInBounds_toArray, List.set_cons_zero, List.set_cons_succ, h5, h6] at hK ⊢; have HK := Lib.hid hK; clear hK hp; refine ⟨?_⟩; go_simp; exact HK.out _ _ rfl (Below.refl _ _)
          · intro ts W hb hB hp; have h7 : ts 7 = _ := hp 7 (by kernel_rfl); intro K hK; simp only [fillT, Nat.zero_add, Nat.reduceAdd, List.setIfInBounds_toArray, List.set_cons_zero, List.set_cons_succ, h7] at hK ⊢; have HK := Lib.hid hK; clear hK hp; have hcell := (HX.out.below hb).cell hi; refine ⟨?_⟩; go_simp; exact HK.out _ _ rfl (Below.refl _ _)
          · intro ts W hb hB hp; intro K hK; simp only [fillT, Nat.zero_add, Nat.reduceAdd, List.setIfInBounds_toArray, List.set_cons_zero, List.set_cons_succ] at hK ⊢; have HK := Lib.hid hK; clear hK hp; refine ⟨?_⟩; go_simp; exact HK.out _ _ rfl (Below.refl _ _)
          · intro ts W hb hB hp; have h8 : ts 8 = _ := hp 8 (by kernel_rfl); have h9 : ts 9 = _ := hp 9 (by kernel_rfl); intro K hK; simp only [fillT, Nat.zero_add, Nat.reduceAdd, List.setIfInBounds_toArray, List.set_cons_zero, List.set_cons_succ, h8, h9] at hK ⊢; have HK := Lib.hid hK; clear hK hp; refine ⟨?_⟩; go_simp; exact HK.out _ _ (by simp [kIs, Nat.mul_comm]) (Below.refl _ _)
          · intro ts W hb hB hp; have h10 : ts 10 = _ := hp 10 (by kernel_rfl); intro K hK; simp only [fillT, Nat.zero_add, Nat.reduceAdd, List.setIfInBounds_toArray, List.set_cons_zero, List.set_cons_succ, h10] at hK ⊢; have HK := Lib.hid hK; clear hK hp; refine ⟨?_⟩; refine wp_load_elem rfl rfl ((HX.out.row hi).below hb) hk (fun v hv => HK.out _ _ (hv) (Below.refl _ _))
          · intro ts W hb hB hp; intro K hK; simp only [fillT, Nat.zero_add, Nat.reduceAdd, List.setIfInBounds_toArray, List.set_cons_zero, List.set_cons_succ] at hK ⊢; have HK := Lib.hid hK; clear hK hp; refine ⟨?_⟩; go_simp; exact HK.out _ _ rfl (Below.refl _ _)
          · intro ts W hb hB hp; intro K hK; simp only [fillT, Nat.zero_add, Nat.reduceAdd, List.setIfInBounds_toArray, List.set_cons_zero, List.set_cons_succ] at hK ⊢; have HK := Lib.hid hK; clear hK hp; refine ⟨?_⟩; go_simp; exact HK.out _ _ rfl (Below.refl _ _)
          · intro ts W hb hB hp; have h12 : ts 12 = _ := hp 12 (by kernel_rfl); have h13 : ts 13 = _ := hp 13 (by kernel_rfl); intro K hK; simp only [fillT, Nat.zero_add, Nat.reduceAdd, List.setIfInBounds_toArray, List.set_cons_zero, List.set_cons_succ, h12, h13] at hK ⊢; have HK := Lib.hid hK; clear hK hp; refine ⟨?_⟩; go_simp; exact HK.out _ _ rfl (Below.refl _ _)
          · intro ts W hb hB hp; have h14 : ts 14 = _ := hp 14 (by kernel_rfl); intro K hK; simp only [fillT, Nat.zero_add, Nat.reduceAdd, List.setIfInBounds_toArray, List.set_cons_zero, List.set_cons_succ, h14] at hK ⊢; have HK := Lib.hid hK; clear hK hp; have hcell := (HY.out.below hb).cell hi; refine ⟨?_⟩; go_simp; exact HK.out _ _ rfl (Below.refl _ _)
          · intro ts W hb hB hp; intro K hK; simp only [fillT, Nat.zero_add, Nat.reduceAdd, List.setIfInBounds_toArray, List.set_cons_zero, List.set_cons_succ] at hK ⊢; have HK := Lib.hid hK; clear hK hp; refine ⟨?_⟩; go_simp; exact HK.out _ _ rfl (Below.refl _ _)
          · intro ts W hb hB hp; have h15 : ts 15 = _ := hp 15 (by kernel_rfl); have h16 : ts 16 = _ := hp 16 (by kernel_rfl); intro K hK; simp only [fillT, Nat.zero_add, Nat.reduceAdd, List.setIfInBounds_toArray, List.set_cons_zero, List.set_cons_succ, h15, h16] at hK ⊢; have HK := Lib.hid hK; clear hK hp; refine ⟨?_⟩; go_simp; exact HK.out _ _ (by simp [kIs, Nat.mul_comm]) (Below.refl _ _)
          · intro ts W hb hB hp; have h17 : ts 17 = _ := hp 17 (by kernel_rfl); intro K hK; simp only [fillT, Nat.zero_add, Nat.reduceAdd, List.setIfInBounds_toArray, List.set_cons_zero, List.set_cons_succ, h17] at hK ⊢; have HK := Lib.hid hK; clear hK hp; refine ⟨?_⟩; refine wp_load_elem rfl rfl ((HY.out.row hi).below hb) hk (fun v hv => HK.out _ _ (hv) (Below.refl _ _))
          · intro ts W hb hB hp; have h11 : IsNum W (ts 11) (X i k) := hp 11 (by kernel_rfl); have h18 : IsNum W (ts 18) (Y i k) := hp 18 (by kernel_rfl); intro K hK; simp only [fillT, Nat.zero_add, Nat.reduceAdd, List.setIfInBounds_toArray, List.set_cons_zero, List.set_cons_succ] at hK ⊢; have HK := Lib.hid hK; clear hK hp; refine ⟨?_⟩; go_simp; refine (addN_any _ _ (X i k) (Y i k) W h11 h18 (25) (25) (HSX.out _ _) (HSY.out _ _) (by omega) (HT6.out.below (below_trans KB.out hb))).mono ?_; rintro e W9 ⟨r9, rfl, hr9, hb9⟩; exact HK.out _ _ hr9 hb9
          · intro ts W hb hB hp; have h3 : ts 3 = _ := hp 3 (by kernel_rfl); have h4 : ts 4 = _ := hp 4 (by kernel_rfl); intro K hK; simp only [fillT, Nat.zero_add, Nat.reduceAdd, List.setIfInBounds_toArray, List.set_cons_zero, List.set_cons_succ, h3, h4] at hK ⊢; have HK := Lib.hid hK; clear hK hp; refine ⟨?_⟩; go_simp; exact HK.out _ _ (by simp [kIs, Nat.mul_comm]) (Below.refl _ _)
          intro ts W9 hb9 hh hap K hK
          have h19 := held_num (hh 19 (by simp)) rfl
          have e20 := held_is (hh 20 (by simp)) rfl
          have HK := Lib.hid hK
          clear hK hh hap
          simp only [fillT, Nat.zero_add, Nat.reduceAdd, List.setIfInBounds_toArray, List.set_cons_zero, List.set_cons_succ, e20]
          refine ⟨?_⟩
          refine wp_store_elem rfl (k := k) rfl rfl ((HM.out.rows _ hi1).below hb9) hk h19 (fun W4 hbut hext hrow => HK.out _ _ ?_)
          clear e20 h19
          have M3 := HM.out.below hb9 |>.set hi1 hbut hext hrow
          rw [HQ.out] at M3
          have e5 := upto_next Q i k
          unfold upm at e5
          rw [e5] at M3
          have M4 := Lib.hid M3
          have B4 := Lib.hid (hbut.below (below_trans KB.out hb9) (HM.out.sep.los i hi1))
          clear hbut hext hrow hb9 M3 HM KB HX HY e5
          go_wp2
          go_roundw
          case rel => exact ⟨k + 1, by go_num, by omega, B4.out, M4.out⟩
          case measure => simp [intOf]; omega
        · obtain rfl : n = k := by omega
          have HM3 := Lib.hid (HM.out.congr (F' := upto Q (i + 1) 0) fun a b _ hb => upto_shut _ i n a b hb)
          go_wp2
          go_roundw
          case rel => exact ⟨i + 1, g2, by go_num, by omega, KB.out, HM3.out⟩
          case measure => simp [intOf]; omega
    · obtain rfl : n = i := by omega
      obtain ⟨h1, h2⟩ := hP.done
      have HS6 := Lib.hid (h1.congr (F' := Q) fun a b ha _ => upto_all _ n a b ha)
      have HX6 := Lib.hid (HX3.out.below hB)
      have HY6 := Lib.hid (HY3.out.below hB)
      have HZ6 := Lib.hid (HZ3.out.below hB)
      have KB6 := Lib.hid (below_trans KB3.out hB)
      clear hB hP h1 h2 HX3 HY3 HZ3 KB3
      go_wp2_with fail
      refine (adjointN_sq wr gz iz n Q2 HZ6.out (by omega)).mono ?_
      rintro e W7 ⟨gt, it, rfl, hM, hP, hb⟩
      have HX7 := Lib.hid (HX6.out.below hb)
      have HY7 := Lib.hid (HY6.out.below hb)
      have HZ7 := Lib.hid (HZ6.out.below hb)
      have HS7 := Lib.hid (HS6.out.below hb)
      have HT7 := Lib.hid hM
      have KB7 := Lib.hid (below_trans KB6.out hb)
      clear hb hM hP HX6 HY6 HZ6 HS6 KB6
      go_wp2_with fail
      refine (productN_sq W7 gt W6.heap.size it g1 n 2 51 (adjM Q2) Q HT7.out HS7.out (by omega) (HT0.out.below KB7.out) (fun a b _ _ => (HZ2.out b a).conj) (fun a b _ _ => HSQ.out a b) (by omega)).mono ?_
      rintro e W8 ⟨gp, ip, rfl, hM, hP, hb⟩
      have HX8 := Lib.hid (HX7.out.below hb)
      have HY8 := Lib.hid (HY7.out.below hb)
      have HZ8 := Lib.hid (HZ7.out.below hb)
      have HS8 := Lib.hid (HS7.out.below hb)
      have HP8 := Lib.hid hM
      have KB8 := Lib.hid (below_trans KB7.out hb)
      clear hb hM hP HX7 HY7 HZ7 HS7 HT7 KB7
      have HSP := Lib.hid (mulM_szs (s := 2) (s1 := 51) (S := 221) (F := adjM Q2) (G := Q) hn4 (fun i k => (HZ2.out k i).conj) HSQ.out (by omega))
      have HSR := Lib.hid (mulM_szs (s := 221) (s1 := 2) (S := 901) (F := mulM n (adjM Q2) Q) (G := Q2) hn4 HSP.out HZ2.out (by omega))
      go_wp2_with fail
      refine (productN_sq W8 gp gz ip iz n 221 2 (mulM n (adjM Q2) Q) Q2 HP8.out HZ8.out (by omega) (HT0.out.below KB8.out) (fun a b _ _ => HSP.out a b) (fun a b _ _ => HZ2.out a b) (by omega)).mono ?_
      rintro e W9 ⟨gq, iq, rfl, hM, hP, hb⟩
      have HX9 := Lib.hid (HX8.out.below hb)
      have HY9 := Lib.hid (HY8.out.below hb)
      have HS9 := Lib.hid (HS8.out.below hb)
      have HQ9 := Lib.hid hM
      have KB9 := Lib.hid (below_trans KB8.out hb)
      clear hb hM hP HX8 HY8 HZ8 HS8 HP8 KB8
      have hbl := buildL4_run W9 (some ⟨gx, 0, none⟩) (some ⟨gy, 0, none⟩) (some ⟨W6.heap.size, 0, none⟩) (some ⟨gq, 0, none⟩) n n n n n n n n
      obtain ⟨W10, hW10⟩ : ∃ W10 : World, W10 = W9.alloc (.cells #[.slice (some ⟨gx, 0, none⟩) n n, .slice (some ⟨gy, 0, none⟩) n n, .slice (some ⟨W6.heap.size, 0, none⟩) n n, .slice (some ⟨gq, 0, none⟩) n n] 23) := ⟨_, rfl⟩
      have hb10 : Below W9.heap.size W9 W10 := by rw [hW10]; exact below_alloc _ _
      have HL := Lib.hid (show W10.heap[W9.heap.size]? = some (.cells #[.slice (some ⟨gx, 0, none⟩) n n, .slice (some ⟨gy, 0, none⟩) n n, .slice (some ⟨W6.heap.size, 0, none⟩) n n, .slice (some ⟨gq, 0, none⟩) n n] 23 (0, 0)) by rw [hW10]; exact heap_alloc_new _ _)
      rw [← hW10] at hbl
      have HALL := Lib.hid (show ∀ j, j < 4 → ∃ go gi F, W10.cell? ⟨W9.heap.size, j, none⟩ = some (.slice (some ⟨go, 0, none⟩) n n) ∧ MatAt W10 go gi n n F ∧ Psd n 0 F ∧ ∀ a b, Sz (F a b) 901 from fun j hj => by
        have hj4 : j = 0 ∨ j = 1 ∨ j = 2 ∨ j = 3 := by omega
        rcases hj4 with rfl | rfl | rfl | rfl
        · exact ⟨gx, ix, X, by simp [World.cell?, HL.out], HX9.out.below hb10, HPX.out, fun a b => (HSX.out a b).mono (by omega)⟩
        · exact ⟨gy, iy, Y, by simp [World.cell?, HL.out], HY9.out.below hb10, HPY.out, fun a b => (HSY.out a b).mono (by omega)⟩
        · exact ⟨_, g1, Q, by simp [World.cell?, HL.out], HS9.out.below hb10, HPQ.out, fun a b => (HSQ.out a b).mono (by omega)⟩
        · exact ⟨gq, iq, mulM n (mulM n (adjM Q2) Q) Q2, by simp [World.cell?, HL.out], HQ9.out.below hb10, HPQ.out.conjugate Q2, HSR.out⟩)
      have hlt10 : W9.heap.size < W10.heap.size := by rw [hW10]; simp
      have KB10 := Lib.hid (below_trans KB9.out hb10)
      have HG := Lib.hid (small_gram hn4)
      have HW := Lib.hid hW10
      clear hW10 hb10 HL HX9 HY9 HS9 HQ9 KB9
      clear hbl
      go_wp2
      rw [← HW.out]
      go_loopw [140] (fun j wr => ∃ k : Nat, j = .int .i64 k ∧ k ≤ 4 ∧ Below W10.heap.size W10 wr) (fun j _ => 4 - (intOf j).toNat)
      case atStart => exact ⟨0, rfl, by omega, Below.refl _ _⟩
      case round =>
        rename_i wr1
        obtain ⟨k, rfl, hk4, hB⟩ := hrel
        have KL := Lib.hid hB
        have KB := Lib.hid (below_trans KB10.out hB)
        clear hB
        by_cases hk : k < 4
        · obtain ⟨go, gi, F, hcell0, hM, hPs, hSz⟩ := HALL.out k hk
          have hcell : wr.cell? ⟨W9.heap.size, k, none⟩ = some (.slice (some ⟨go, 0, none⟩) n n) := (KL.out.cell (p := ⟨W9.heap.size, k, none⟩) hlt10).trans hcell0
          have HD := Lib.hid (definiteN_yes wr go gi n 901 F (hM.below KL.out) (by omega) (HT0.out.below KB.out) hSz HG.out hPs)
          have hk1 : (k : Int) < 4 := by omega
          clear hcell0 hM hPs hSz
          go_wp2_with fail
          clear hcell
          refine HD.out.mono ?_
          rintro e W11 ⟨rfl, hb⟩
          have KL2 := Lib.hid (below_trans KL.out hb)
          clear hb HD KL KB
          go_wp2
          go_roundw
          case rel => exact ⟨k + 1, by go_num, by omega, KL2.out⟩
          case measure => simp [intOf]; omega
        · obtain rfl : k = 4 := by omega
          have hk1 : ¬ ((4 : Int) < 4) := by omega
          go_wp2_with fail
          refine (awake_any wr (HT0.out.below KB.out)).mono ?_
          rintro e W11 ⟨rfl, hb⟩
          have KB2 := Lib.hid (below_trans KB.out hb)
          clear hb
          go_wp2
          go_ret
          exact ⟨rfl, KB2.out⟩
end Go.Proofs.YtmlkpnfjgifgfaaGreatDoor
