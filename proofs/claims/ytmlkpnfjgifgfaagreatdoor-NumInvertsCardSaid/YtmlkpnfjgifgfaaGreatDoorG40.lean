/- The law NumInverts. -/
import Derived.Test.YtmlkpnfjgifgfaaGreatDoorG38
set_option linter.unusedSimpArgs false
set_option linter.unusedVariables false
namespace Go.Proofs.YtmlkpnfjgifgfaaGreatDoor
open Go.RowKit
set_option maxRecDepth 100000

/-- What the sizes of numbers grow to in a matrix of up to 4 rows. -/
theorem small_sz {n : Nat} (hn : n ≤ 4) : szE 2 n ≤ 1874 ∧ szX (szE 2 n) n ≤ 273756 := by
  have h : n = 0 ∨ n = 1 ∨ n = 2 ∨ n = 3 ∨ n = 4 := by omega
  rcases h with rfl | rfl | rfl | rfl | rfl <;> decide
theorem small_h5 {n : Nat} (hn : n ≤ 4) : szE 2 n + n * (szE 2 n + szX (szE 2 n) n + 2) + 5 * szE 2 n + szX (szE 2 n) n + 10 < 549755813888 := by
  obtain ⟨h1, h2⟩ := small_sz hn
  have := Nat.mul_le_mul hn (show szE 2 n + szX (szE 2 n) n + 2 ≤ 275632 by omega)
  omega
theorem sqF_sz {f : Nat → Int × Int × Int} (h : Rat64 f) (len n : Nat) : ∀ i k, Sz (sqF f len n i k) 2 := fun i k => by
  unfold sqF
  split
  · exact Sz.zero (by omega)
  · obtain ⟨h1, h2, h3⟩ := h ((i * n + k) % len)
    exact sz_of h1.1 h1.2 h2.1 h2.2 h3.1 h3.2
theorem idF_sz : ∀ i k, Sz (idF i k) 1 := fun i k => by
  unfold idF
  split
  · exact Sz.int (by rw [show (1 : Int).natAbs = 1 from rfl, wl_one]; omega) (by omega)
  · exact Sz.zero (by omega)
/-- The product with the inverse from the right. -/
theorem inv_right {n : Nat} {F : Nat → Nat → Cx} (h : (elimS n n 0 F 0).1 = n) : ∀ i k, i < n → k < n → sm (fun j => (F i j).mul (invF n F j k)) 0 n = idF i k := fun i k hi hk => by
  have hG : ∀ i j, j < n → F i j = addI F n n i j := fun i j hj => (if_pos hj).symm
  have hs := (elimS_cols n n 0 F (addI F n n) 0 (by omega) hG).1
  rw [h] at hs
  have h1 := elim_solves (n := n) (k := n + k) (by omega) (addI F n n) hs.symm i hi
  have e1 : addI F n n i (n + k) = idF i k := by
    unfold addI
    rw [if_neg (by omega), if_pos hi, show n + k - n = k by omega]
  rw [show (fun i => addI F n n i (n + k)) i = addI F n n i (n + k) from rfl, e1] at h1
  rw [← h1]
  exact sm_congr _ _ fun j _ hj => by rw [hG i j (by omega)]; rfl
theorem invF_sz {n : Nat} {F : Nat → Nat → Cx} (hF : ∀ i k, Sz (F i k) 2) : ∀ a b, a < n → b < n → Sz (invF n F a b) (szX (szE 2 n) n) := fun a b ha hb => by
  refine solT_sz (m := n + n) (S := szE 2 n) (fun i k hi hk => elimS_sz n (n + n) 2 (by omega) n 0 _ 0 (by omega) (fun i k hi hk => ?_) i k hi hk) (by omega) (by omega) n (Nat.le_refl _) a
  unfold addI
  split
  · exact hF i k
  · exact (idF_sz _ _).mono (by decide)
theorem solve_right {n : Nat} {F : Nat → Nat → Cx} {f : Nat → Cx} (h : (elimS n n 0 F 0).1 = n) : ∀ i, i < n → sm (fun j => (F i j).mul (solX (elimS n n 0 (addC F n f n) 0).2.2 n n j)) 0 n = f i := fun i hi => by
  have hG : ∀ i j, j < n → F i j = addC F n f n i j := fun i j hj => (if_pos hj).symm
  have hs := (elimS_cols n n 0 F (addC F n f n) 0 (by omega) hG).1
  rw [h] at hs
  have h1 := elim_solves (n := n) (k := n) (Nat.le_refl _) (addC F n f n) hs.symm i hi
  have e1 : addC F n f n i n = f i := by
    unfold addC
    rw [if_neg (by omega), if_pos hi]
  rw [show (fun i => addC F n f n i n) i = addC F n f n i n from rfl, e1] at h1
  rw [← h1]
  exact sm_congr _ _ fun j _ hj => by rw [hG i j (by omega)]
theorem solve_sz {n : Nat} {F : Nat → Nat → Cx} {f : Nat → Cx} (hF : ∀ i k, Sz (F i k) 2) (hf : ∀ i, Sz (f i) 2) : ∀ j, Sz (solX (elimS n n 0 (addC F n f n) 0).2.2 n n j) (szX (szE 2 n) n) := fun j => by
  refine solT_sz (m := n + 1) (S := szE 2 n) (fun i k hi hk => elimS_sz n (n + 1) 2 (by omega) n 0 _ 0 (by omega) (fun i k hi hk => ?_) i k hi hk) (by omega) (by omega) n (Nat.le_refl _) j
  unfold addC
  split
  · exact hF i k
  · exact hf i
/-- A slice of one number, written out. -/
theorem build1 (W : World) (v : Value) (x : Cx) (h : IsNum W v x) : ∃ W', (Instr.buildSlice 42 1 #[(0, v)]).run Tryz.prog W = .ok (.slice (some ⟨W.heap.size, 0, none⟩) 1 1) W' ∧
    Below W.heap.size W W' ∧ NBlk W' W.heap.size 1 (fun _ => x) := by
  obtain ⟨A, n, c, p, A', n', c', p', A'', n'', c'', -, -, -, rfl, -⟩ := h.parts
  have hb : Below W.heap.size W (W.alloc (.cells #[.slice A n c, .bool p, .slice A' n' c', .bool p', .slice A'' n'' c''] 30 (0, 0))) := below_alloc _ _
  refine ⟨_, build1_run W _ _ _ _ _, hb, _, heap_alloc_new _ _, rfl, by simp [Value.oneCell'], fun j hj => ?_⟩
  obtain rfl : j = 0 := by omega
  exact ⟨A, A', A'', p, p', n, c, n', c', n'', c'', rfl, rfl, rfl, rfl, rfl, h.below hb⟩
def kRowB (B n : Nat) (f : Nat → Cx) : Value → World → Prop := fun v W => ∃ g, v = .slice (some ⟨g, 0, none⟩) n n ∧ NBlk W g n f ∧ B ≤ g
theorem stab_rowB (B n : Nat) (f : Nat → Cx) : StabB (kRowB B n f) := fun _ _ _ hb ⟨g, h1, h2, h3⟩ => ⟨g, h1, h2.below hb, h3⟩
end Go.Proofs.YtmlkpnfjgifgfaaGreatDoor
set_option linter.unusedSimpArgs false
set_option linter.unusedVariables false
namespace Go.Proofs.YtmlkpnfjgifgfaaGreatDoor
open Go.RowKit
set_option maxRecDepth 100000

theorem int_one_ne : Cx.int 1 ≠ .zero := by decide +kernel

set_option maxHeartbeats 8000000 in
theorem inverts_nil (w : World) (A A' : Option Addr) (len cap len' cap' side : Nat) (f f' : Nat → Int × Int × Int) (hR : RatS w A len f) (hR' : RatS w A' len' f') (h64 : Rat64 f) (h64' : Rat64 f') (hl : len ≤ 9223372036854775807) (hl' : len' ≤ 9223372036854775807) (hside : side < 256) (hn : side % 5 = 0) (hT : Tab w) :
    Calls Tryz.prog 3 #[.slice A len cap, .slice A' len' cap', .int .u8 side] w fun e w' => e = .returned (.bool true) ∧ Below w.heap.size w w' := by
  have HR0 := Lib.hid hR
  have HR1 := Lib.hid hR'
  have HT := Lib.hid hT
  have H64 := Lib.hid h64
  have H65 := Lib.hid h64'
  have hw1 : ((side : Int)).tmod 5 = (0 : Int) := by
    rw [Int.tmod_eq_emod_of_nonneg (by omega)]
    omega
  have hw2 : (side : Int) % 5 = (0 : Int) := by omega
  clear hR hR' h64 h64' hT hn
  go_enter Tryz.func3, Tryz.ntmps3
  go_wp2_with fail
  clear hw1 hw2
  refine (squareM_any w A len cap 0 f HR0.out H64.out (by omega) hl HT.out).mono ?_
  rintro e W1 ⟨gm, gi, rfl, hM, hP, hb1⟩
  have HM1 := Lib.hid hM
  have KB1 := Lib.hid hb1
  clear hM hP hb1
  go_upto_region 3 with fail
  refine region_lin [.val (kIs (.slice (some ⟨gm, 0, none⟩) 0 0)), .val (kTup (.int 1) 0), .val (kTup (.int 1) 0), .val (kNum (.int 1)), .val (kIs (.int .i64 0)), .box 30 zNum, .put 5 3, .val (kIs (.int .i64 0))]
    (by kernel_rfl) (by kernel_rfl) (by kernel_rfl) (by kernel_rfl) (by kernel_rfl) ⟨stab_is _, stab_tup _ _, stab_tup _ _, stab_num _, stab_is _, stab_is _, trivial⟩ (by simp) ⟨?_, ?_, ?_, ?_, ?_, alloc_num, store_num _, ?_, trivial⟩ ?_
  · intro ts W hb hB hp; intro K hK; simp only [fillT, Nat.zero_add, Nat.reduceAdd, List.setIfInBounds_toArray, List.set_cons_zero, List.set_cons_succ] at hK ⊢; have HK := Lib.hid hK; clear hK hp; refine ⟨?_⟩; go_simp; exact HK.out _ _ rfl (Below.refl _ _)
  · intro ts W hb hB hp; have h0 : ts 0 = _ := hp 0 (by kernel_rfl); intro K hK; simp only [fillT, Nat.zero_add, Nat.reduceAdd, List.setIfInBounds_toArray, List.set_cons_zero, List.set_cons_succ, h0] at hK ⊢; have HK := Lib.hid hK; clear hK hp; refine ⟨?_⟩; go_simp; refine (detN_nil W _ _).mono ?_; rintro e W9 ⟨r9, rfl, hr9, hb9⟩; exact HK.out _ _ ⟨r9, rfl, hr9⟩ hb9
  · intro ts W hb hB hp; have h1 := hp 1 (by kernel_rfl); intro K hK; simp only [fillT, Nat.zero_add, Nat.reduceAdd, List.setIfInBounds_toArray, List.set_cons_zero, List.set_cons_succ] at hK ⊢; have HK := Lib.hid hK; clear hK hp; refine ⟨?_⟩; go_simp; exact HK.out _ _ h1 (Below.refl _ _)
  · intro ts W hb hB hp; have h2 := hp 2 (by kernel_rfl); intro K hK; obtain ⟨u2, e2, n2⟩ := h2; simp only [fillT, Nat.zero_add, Nat.reduceAdd, List.setIfInBounds_toArray, List.set_cons_zero, List.set_cons_succ, e2] at hK ⊢; have HK := Lib.hid hK; clear hK hp; refine ⟨?_⟩; go_simp; exact HK.out _ _ n2 (Below.refl _ _)
  · intro ts W hb hB hp; have h2 := hp 2 (by kernel_rfl); intro K hK; obtain ⟨u2, e2, n2⟩ := h2; simp only [fillT, Nat.zero_add, Nat.reduceAdd, List.setIfInBounds_toArray, List.set_cons_zero, List.set_cons_succ, e2] at hK ⊢; have HK := Lib.hid hK; clear hK hp; refine ⟨?_⟩; go_simp; exact HK.out _ _ rfl (Below.refl _ _)
  · intro ts W hb hB hp; have h4 : ts 4 = _ := hp 4 (by kernel_rfl); intro K hK; simp only [fillT, Nat.zero_add, Nat.reduceAdd, List.setIfInBounds_toArray, List.set_cons_zero, List.set_cons_succ, h4] at hK ⊢; have HK := Lib.hid hK; clear hK hp; refine ⟨?_⟩; go_simp; exact HK.out _ _ rfl (Below.refl _ _)
  intro ts W2 hb2 hh hap
  have e7 := held_is (hh 7 (by simp)) rfl
  obtain ⟨g9, A9, n9, c9, p9, A9b, n9b, c9b, p9b, A9c, n9c, c9c, e5, lo9, z9, X9, N9⟩ := held_box (x := .int 1) (hh 5 (by simp)) rfl (hh 6 (by simp)) rfl (hh 3 (by simp)) rfl
  simp only [fillT, Nat.zero_add, Nat.reduceAdd, List.setIfInBounds_toArray, List.set_cons_zero, List.set_cons_succ, e7, e5]
  clear hh hap e7 e5
  generalize ts 0 = u0_W2 at *
  generalize ts 1 = u1_W2 at *
  generalize ts 2 = u2_W2 at *
  generalize ts 3 = u3_W2 at *
  generalize ts 4 = u4_W2 at *
  clear ts
  have HM2 := Lib.hid (HM1.out.below hb2)
  have KB2 := Lib.hid (below_trans KB1.out hb2)
  clear hb2 HM1 KB1 lo9
  go_wp2_with fail
  refine (rankN_nil W2 gm gi 0 _ HM2.out (by omega)).mono ?_
  rintro e W3 ⟨rfl, hb3⟩
  have HM3 := Lib.hid (HM2.out.below hb3)
  have KB3 := Lib.hid (below_trans KB2.out hb3)
  replace X9 := (hb3.block _ z9).trans X9
  replace z9 := Nat.lt_of_lt_of_le z9 hb3.size
  replace N9 := N9.below hb3
  clear hb3 HM2 KB2
  go_wp2_with fail
  refine (inverseN_nil W3 gm gi _ HM3.out (HT.out.below KB3.out)).mono ?_
  rintro e W4 ⟨gv, gj, rfl, hV, hP, hb4⟩
  have HM4 := Lib.hid (HM3.out.below hb4)
  have HV4 := Lib.hid hV
  have KB4 := Lib.hid (below_trans KB3.out hb4)
  replace X9 := (hb4.block _ z9).trans X9
  replace z9 := Nat.lt_of_lt_of_le z9 hb4.size
  replace N9 := N9.below hb4
  clear hb4 HM3 KB3 hV hP
  go_upto_region 6 with fail
  refine region_lin [.val (kIs (.int .i64 0)), .val (kIs (.bool false)), .val (kIs (.bool false)), .val (kIs (.int .i64 0)), .val (kIs (.bool false)), .val (kIs (.bool false)), .val (kIs (.bool false)), .val (kIs (.agg #[.slice A9 n9 c9, .bool p9, .slice A9b n9b c9b, .bool p9b, .slice A9c n9c c9c])), .val (kIs (.bool true)), .val (kIs (.int .i64 0)), .val (kIs (.bool true)), .val (kIs (.bool false)), .val (kIs (.bool false)), .val (kIs (.bool false)), .val (kIs (.agg #[.slice A9 n9 c9, .bool p9, .slice A9b n9b c9b, .bool p9b, .slice A9c n9c c9c])), .val (kIs (.bool true)), .val (kIs (.int .i64 0)), .val (kIs (.int .i64 0)), .val (kIs (.bool true)), .val (kIs (.bool false)), .val (kIs (.bool false))]
    (by kernel_rfl) (by kernel_rfl) (by kernel_rfl) (by kernel_rfl) (by kernel_rfl) ⟨Stab.b (stab_is _), Stab.b (stab_is _), Stab.b (stab_is _), Stab.b (stab_is _), Stab.b (stab_is _), Stab.b (stab_is _), Stab.b (stab_is _), Stab.b (stab_is _), Stab.b (stab_is _), Stab.b (stab_is _), Stab.b (stab_is _), Stab.b (stab_is _), Stab.b (stab_is _), Stab.b (stab_is _), Stab.b (stab_is _), Stab.b (stab_is _), Stab.b (stab_is _), Stab.b (stab_is _), Stab.b (stab_is _), Stab.b (stab_is _), Stab.b (stab_is _), trivial⟩ (by simp) ⟨?_, ?_, ?_, ?_, ?_, ?_, ?_, ?_, ?_, ?_, ?_, ?_, ?_, ?_, ?_, ?_, ?_, ?_, ?_, ?_, ?_, trivial⟩ ?_
  · intro ts W hb hB hp; intro K hK; simp only [fillT, Nat.zero_add, Nat.reduceAdd, List.setIfInBounds_toArray, List.set_cons_zero, List.set_cons_succ] at hK ⊢; have HK := Lib.hid hK; clear hK hp; refine ⟨?_⟩; go_simp; exact HK.out _ _ rfl (Below.refl _ _)
  · intro ts W hb hB hp; have h0 : ts 0 = _ := hp 0 (by kernel_rfl); intro K hK; simp only [fillT, Nat.zero_add, Nat.reduceAdd, List.setIfInBounds_toArray, List.set_cons_zero, List.set_cons_succ, h0] at hK ⊢; have HK := Lib.hid hK; clear hK hp; refine ⟨?_⟩; go_simp; exact HK.out _ _ (by simp [kIs, *]) (Below.refl _ _)
  · intro ts W hb hB hp; have h1 : ts 1 = _ := hp 1 (by kernel_rfl); intro K hK; simp only [fillT, Nat.zero_add, Nat.reduceAdd, List.setIfInBounds_toArray, List.set_cons_zero, List.set_cons_succ, h1] at hK ⊢; have HK := Lib.hid hK; clear hK hp; refine ⟨?_⟩; go_simp; exact HK.out _ _ rfl (Below.refl _ _)
  · intro ts W hb hB hp; have h2 : ts 2 = _ := hp 2 (by kernel_rfl); refine Guarded.on h2 ?_; clear h2; intro K hK; simp only [fillT, Nat.zero_add, Nat.reduceAdd, List.setIfInBounds_toArray, List.set_cons_zero, List.set_cons_succ] at hK ⊢; have HK := Lib.hid hK; clear hK hp; refine ⟨?_⟩; go_simp; exact HK.out _ _ rfl (Below.refl _ _)
  · intro ts W hb hB hp; have h3 : ts 3 = _ := hp 3 (by kernel_rfl); have h2 : ts 2 = _ := hp 2 (by kernel_rfl); refine Guarded.on h2 ?_; clear h2; intro K hK; simp only [fillT, Nat.zero_add, Nat.reduceAdd, List.setIfInBounds_toArray, List.set_cons_zero, List.set_cons_succ, h3] at hK ⊢; have HK := Lib.hid hK; clear hK hp; refine ⟨?_⟩; go_simp; exact HK.out _ _ (by simp [kIs, *]) (Below.refl _ _)
  · intro ts W hb hB hp; have h2 : ts 2 = _ := hp 2 (by kernel_rfl); have h4 : ts 4 = _ := hp 4 (by kernel_rfl); intro K hK; simp only [fillT, Nat.zero_add, Nat.reduceAdd, List.setIfInBounds_toArray, List.set_cons_zero, List.set_cons_succ, h2, h4] at hK ⊢; have HK := Lib.hid hK; clear hK hp; refine ⟨?_⟩; go_simp; exact HK.out _ _ rfl (Below.refl _ _)
  · intro ts W hb hB hp; have h5 : ts 5 = _ := hp 5 (by kernel_rfl); intro K hK; simp only [fillT, Nat.zero_add, Nat.reduceAdd, List.setIfInBounds_toArray, List.set_cons_zero, List.set_cons_succ, h5] at hK ⊢; have HK := Lib.hid hK; clear hK hp; refine ⟨?_⟩; go_simp; exact HK.out _ _ rfl (Below.refl _ _)
  · intro ts W hb hB hp; have h6 : ts 6 = _ := hp 6 (by kernel_rfl); refine Guarded.on h6 ?_; clear h6; intro K hK; simp only [fillT, Nat.zero_add, Nat.reduceAdd, List.setIfInBounds_toArray, List.set_cons_zero, List.set_cons_succ] at hK ⊢; refine ⟨?_⟩; refine wp_load_row _ _ rfl (g9) rfl _ _ (0, 0) _ ((hb.block _ (z9)).trans X9) Tryz.underlying30 rfl (by kernel_rfl) ?_; exact hK _ _ rfl (Below.refl _ _)
  · intro ts W hb hB hp; have h7 : ts 7 = _ := hp 7 (by kernel_rfl); have h6 : ts 6 = _ := hp 6 (by kernel_rfl); refine Guarded.on h6 ?_; clear h6; intro K hK; simp only [fillT, Nat.zero_add, Nat.reduceAdd, List.setIfInBounds_toArray, List.set_cons_zero, List.set_cons_succ, h7] at hK ⊢; have HK := Lib.hid hK; clear hK hp; refine ⟨?_⟩; go_simp; refine (clearN_k _ (.int 1) W (N9.below hb) (clear_t int_one_ne)).mono ?_; rintro e W9 ⟨rfl, hb9⟩; exact HK.out _ _ rfl hb9
  · intro ts W hb hB hp; have h6 : ts 6 = _ := hp 6 (by kernel_rfl); refine Guarded.on h6 ?_; clear h6; intro K hK; simp only [fillT, Nat.zero_add, Nat.reduceAdd, List.setIfInBounds_toArray, List.set_cons_zero, List.set_cons_succ] at hK ⊢; have HK := Lib.hid hK; clear hK hp; refine ⟨?_⟩; go_simp; exact HK.out _ _ rfl (Below.refl _ _)
  · intro ts W hb hB hp; have h9 : ts 9 = _ := hp 9 (by kernel_rfl); have h6 : ts 6 = _ := hp 6 (by kernel_rfl); refine Guarded.on h6 ?_; clear h6; intro K hK; simp only [fillT, Nat.zero_add, Nat.reduceAdd, List.setIfInBounds_toArray, List.set_cons_zero, List.set_cons_succ, h9] at hK ⊢; have HK := Lib.hid hK; clear hK hp; refine ⟨?_⟩; go_simp; exact HK.out _ _ (by simp [kIs, *]) (Below.refl _ _)
  · intro ts W hb hB hp; have h8 : ts 8 = _ := hp 8 (by kernel_rfl); have h10 : ts 10 = _ := hp 10 (by kernel_rfl); have h6 : ts 6 = _ := hp 6 (by kernel_rfl); refine Guarded.on h6 ?_; clear h6; intro K hK; simp only [fillT, Nat.zero_add, Nat.reduceAdd, List.setIfInBounds_toArray, List.set_cons_zero, List.set_cons_succ, h8, h10] at hK ⊢; have HK := Lib.hid hK; clear hK hp; refine ⟨?_⟩; go_simp; exact HK.out _ _ (by simp [kIs, *]) (Below.refl _ _)
  · intro ts W hb hB hp; have h6 : ts 6 = _ := hp 6 (by kernel_rfl); have h11 : ts 11 = _ := hp 11 (by kernel_rfl); intro K hK; simp only [fillT, Nat.zero_add, Nat.reduceAdd, List.setIfInBounds_toArray, List.set_cons_zero, List.set_cons_succ, h6, h11] at hK ⊢; have HK := Lib.hid hK; clear hK hp; refine ⟨?_⟩; go_simp; exact HK.out _ _ rfl (Below.refl _ _)
  · intro ts W hb hB hp; have h12 : ts 12 = _ := hp 12 (by kernel_rfl); intro K hK; simp only [fillT, Nat.zero_add, Nat.reduceAdd, List.setIfInBounds_toArray, List.set_cons_zero, List.set_cons_succ, h12] at hK ⊢; have HK := Lib.hid hK; clear hK hp; refine ⟨?_⟩; go_simp; exact HK.out _ _ rfl (Below.refl _ _)
  · intro ts W hb hB hp; have h13 : ts 13 = _ := hp 13 (by kernel_rfl); refine Guarded.on h13 ?_; clear h13; intro K hK; simp only [fillT, Nat.zero_add, Nat.reduceAdd, List.setIfInBounds_toArray, List.set_cons_zero, List.set_cons_succ] at hK ⊢; refine ⟨?_⟩; refine wp_load_row _ _ rfl (g9) rfl _ _ (0, 0) _ ((hb.block _ (z9)).trans X9) Tryz.underlying30 rfl (by kernel_rfl) ?_; exact hK _ _ rfl (Below.refl _ _)
  · intro ts W hb hB hp; have h14 : ts 14 = _ := hp 14 (by kernel_rfl); have h13 : ts 13 = _ := hp 13 (by kernel_rfl); refine Guarded.on h13 ?_; clear h13; intro K hK; simp only [fillT, Nat.zero_add, Nat.reduceAdd, List.setIfInBounds_toArray, List.set_cons_zero, List.set_cons_succ, h14] at hK ⊢; have HK := Lib.hid hK; clear hK hp; refine ⟨?_⟩; go_simp; refine (clearN_k _ (.int 1) W (N9.below hb) (clear_t int_one_ne)).mono ?_; rintro e W9 ⟨rfl, hb9⟩; exact HK.out _ _ rfl hb9
  · intro ts W hb hB hp; have h13 : ts 13 = _ := hp 13 (by kernel_rfl); refine Guarded.on h13 ?_; clear h13; intro K hK; simp only [fillT, Nat.zero_add, Nat.reduceAdd, List.setIfInBounds_toArray, List.set_cons_zero, List.set_cons_succ] at hK ⊢; have HK := Lib.hid hK; clear hK hp; refine ⟨?_⟩; go_simp; exact HK.out _ _ rfl (Below.refl _ _)
  · intro ts W hb hB hp; have h13 : ts 13 = _ := hp 13 (by kernel_rfl); refine Guarded.on h13 ?_; clear h13; intro K hK; simp only [fillT, Nat.zero_add, Nat.reduceAdd, List.setIfInBounds_toArray, List.set_cons_zero, List.set_cons_succ] at hK ⊢; have HK := Lib.hid hK; clear hK hp; refine ⟨?_⟩; go_simp; exact HK.out _ _ rfl (Below.refl _ _)
  · intro ts W hb hB hp; have h16 : ts 16 = _ := hp 16 (by kernel_rfl); have h17 : ts 17 = _ := hp 17 (by kernel_rfl); have h13 : ts 13 = _ := hp 13 (by kernel_rfl); refine Guarded.on h13 ?_; clear h13; intro K hK; simp only [fillT, Nat.zero_add, Nat.reduceAdd, List.setIfInBounds_toArray, List.set_cons_zero, List.set_cons_succ, h16, h17] at hK ⊢; have HK := Lib.hid hK; clear hK hp; refine ⟨?_⟩; go_simp; exact HK.out _ _ (by simp [kIs, *]) (Below.refl _ _)
  · intro ts W hb hB hp; have h15 : ts 15 = _ := hp 15 (by kernel_rfl); have h18 : ts 18 = _ := hp 18 (by kernel_rfl); have h13 : ts 13 = _ := hp 13 (by kernel_rfl); refine Guarded.on h13 ?_; clear h13; intro K hK; simp only [fillT, Nat.zero_add, Nat.reduceAdd, List.setIfInBounds_toArray, List.set_cons_zero, List.set_cons_succ, h15, h18] at hK ⊢; have HK := Lib.hid hK; clear hK hp; refine ⟨?_⟩; go_simp; exact HK.out _ _ (by simp [kIs, *]) (Below.refl _ _)
  · intro ts W hb hB hp; have h13 : ts 13 = _ := hp 13 (by kernel_rfl); have h19 : ts 19 = _ := hp 19 (by kernel_rfl); intro K hK; simp only [fillT, Nat.zero_add, Nat.reduceAdd, List.setIfInBounds_toArray, List.set_cons_zero, List.set_cons_succ, h13, h19] at hK ⊢; have HK := Lib.hid hK; clear hK hp; refine ⟨?_⟩; go_simp; exact HK.out _ _ rfl (Below.refl _ _)
  intro ts W5 hb5 hh hap
  have e20 := held_is (hh 20 (by simp)) rfl
  simp only [fillT, Nat.zero_add, Nat.reduceAdd, List.setIfInBounds_toArray, List.set_cons_zero, List.set_cons_succ, e20]
  clear hh hap e20
  generalize ts 0 = u0_W5 at *
  generalize ts 1 = u1_W5 at *
  generalize ts 2 = u2_W5 at *
  generalize ts 3 = u3_W5 at *
  generalize ts 4 = u4_W5 at *
  generalize ts 5 = u5_W5 at *
  generalize ts 6 = u6_W5 at *
  generalize ts 7 = u7_W5 at *
  generalize ts 8 = u8_W5 at *
  generalize ts 9 = u9_W5 at *
  generalize ts 10 = u10_W5 at *
  generalize ts 11 = u11_W5 at *
  generalize ts 12 = u12_W5 at *
  generalize ts 13 = u13_W5 at *
  generalize ts 14 = u14_W5 at *
  generalize ts 15 = u15_W5 at *
  generalize ts 16 = u16_W5 at *
  generalize ts 17 = u17_W5 at *
  generalize ts 18 = u18_W5 at *
  generalize ts 19 = u19_W5 at *
  clear ts
  have HM5 := Lib.hid (HM4.out.below hb5)
  have HV5 := Lib.hid (HV4.out.below hb5)
  have KB5 := Lib.hid (below_trans KB4.out hb5)
  clear hb5 HM4 HV4 KB4 X9 N9 z9
  go_wp2_with fail
  refine (squareM_any W5 A' len' cap' 0 f' (HR1.out.below KB5.out) H65.out (by omega) hl' (HT.out.below KB5.out)).mono ?_
  rintro e W6 ⟨gr, gs, rfl, hR, hP, hb6⟩
  have HM6 := Lib.hid (HM5.out.below hb6)
  have HV6 := Lib.hid (HV5.out.below hb6)
  have KB6 := Lib.hid (below_trans KB5.out hb6)
  clear hb6 HM5 HV5 KB5 hR hP
  go_wp2_with fail
  refine (productN_nil W6 _ _ _ _).mono ?_
  rintro e W7 ⟨gp, gq, rfl, hPm, hP, hb7⟩
  have HP7 := Lib.hid hPm
  have KB7 := Lib.hid (below_trans KB6.out hb7)
  clear hb7 hPm hP HM6 HV6 KB6
  go_wp2_with fail
  refine (productN_nil W7 _ _ _ _).mono ?_
  rintro e W8 ⟨gk, gl, rfl, hQm, hP, hb8⟩
  have HP8 := Lib.hid (HP7.out.below hb8)
  have HQ8 := Lib.hid hQm
  have KB8 := Lib.hid (below_trans KB7.out hb8)
  clear hb8 hQm hP HP7 KB7
  go_wp2_with fail
  refine (identityN_any W8 0 (by omega)).mono ?_
  rintro e W9 ⟨gI, iI, rfl, hI, hP, hb9⟩
  have HP9 := Lib.hid (HP8.out.below hb9)
  have HQ9 := Lib.hid (HQ8.out.below hb9)
  have HI9 := Lib.hid hI
  have KB9 := Lib.hid (below_trans KB8.out hb9)
  clear hb9 hI hP HP8 HQ8 KB8
  go_wp2_with fail
  refine (sameM_true W9 gp gI gq iI 0 0 1 _ _ HP9.out HI9.out (by omega) (by omega) (fun a b ha => absurd ha (by omega)) (fun a b ha => absurd ha (by omega)) (by omega) (fun a b ha => absurd ha (by omega))).mono ?_
  rintro e W10 ⟨rfl, hb10⟩
  have HP10 := Lib.hid (HP9.out.below hb10)
  have HQ10 := Lib.hid (HQ9.out.below hb10)
  have KB10 := Lib.hid (below_trans KB9.out hb10)
  clear hb10 HP9 HQ9 HI9 KB9
  go_wp2_with fail
  refine (sameM_true W10 gk gp gl gq 0 0 1 _ _ HQ10.out HP10.out (by omega) (by omega) (fun a b ha => absurd ha (by omega)) (fun a b ha => absurd ha (by omega)) (by omega) (fun a b ha => absurd ha (by omega))).mono ?_
  rintro e W11 ⟨rfl, hb11⟩
  have KB11 := Lib.hid (below_trans KB10.out hb11)
  clear hb11 HP10 HQ10 KB10
  go_wp2
  go_loopw [111] (fun j wr => j = .int .i64 0 ∧ Below w.heap.size w wr) (fun _ _ => 0)
  case atStart => exact ⟨rfl, KB11.out⟩
  case round =>
    clear KB11
    obtain ⟨rfl, hB⟩ := hrel
    have KB := Lib.hid hB
    clear hB
    go_wp2_with fail
    refine (awake_any wr (HT.out.below KB.out)).mono ?_
    rintro e W12 ⟨rfl, hb12⟩
    have KB12 := Lib.hid (below_trans KB.out hb12)
    clear hb12 KB
    go_wp2
    go_ret
    exact ⟨rfl, KB12.out⟩
end Go.Proofs.YtmlkpnfjgifgfaaGreatDoor
set_option linter.unusedSimpArgs false
set_option linter.unusedVariables false
namespace Go.Proofs.YtmlkpnfjgifgfaaGreatDoor
open Go.RowKit
set_option maxRecDepth 100000

set_option maxHeartbeats 8000000 in
theorem inverts_no (w : World) (A A' : Option Addr) (len cap len' cap' side n : Nat) (f f' : Nat → Int × Int × Int) (hR : RatS w A len f) (hR' : RatS w A' len' f') (h64 : Rat64 f) (h64' : Rat64 f') (hl : len ≤ 9223372036854775807) (hl' : len' ≤ 9223372036854775807) (hside : side < 256) (hn : side % 5 = n) (hn0 : 0 < n) (hst : (elimS n n 0 (sqF f len n) 0).1 ≠ n) (hT : Tab w) :
    Calls Tryz.prog 3 #[.slice A len cap, .slice A' len' cap', .int .u8 side] w fun e w' => e = .returned (.bool true) ∧ Below w.heap.size w w' := by
  have HR0 := Lib.hid hR
  have HR1 := Lib.hid hR'
  have HT := Lib.hid hT
  have H64 := Lib.hid h64
  have H65 := Lib.hid h64'
  have hw1 : ((side : Int)).tmod 5 = (n : Int) := by
    rw [Int.tmod_eq_emod_of_nonneg (by omega)]
    omega
  have hw2 : (side : Int) % 5 = (n : Int) := by omega
  clear hR hR' h64 h64' hT hn
  go_enter Tryz.func3, Tryz.ntmps3
  go_wp2_with fail
  obtain ⟨F, hF⟩ : ∃ F, F = sqF f len n := ⟨_, rfl⟩
  have hSF : ∀ i k, Sz (F i k) 2 := by rw [hF]; exact sqF_sz H64.out len n
  have HSF := Lib.hid hSF
  have hn4 : n ≤ 4 := by omega
  rw [← hF] at hst
  have HDZ := Lib.hid (show detF n F = .zero from Classical.byContradiction fun h => hst ((detF_ne hn0 F).1 h))
  obtain ⟨RK, hRK⟩ : ∃ RK, RK = rkS n n 0 0 F := ⟨_, rfl⟩
  have hrk : RK ≠ n := fun e => hst ((rkS_full n n 0 F 0 (by omega)).1 (by rw [← hRK]; exact e))
  have hrk1 : ((RK : Int) == (n : Int)) = false := by simp; omega
  have HRR := Lib.hid hRK
  have HST := Lib.hid hst
  clear hst hRK hrk
  clear hSF
  have hsq := squareM_any w A len cap n f HR0.out H64.out (by omega) hl HT.out
  rw [← hF] at hsq
  refine hsq.mono ?_
  clear hsq hF hw1 hw2
  rintro e W1 ⟨gm, gi, rfl, hM, hP, hb1⟩
  have HM1 := Lib.hid hM
  have KB1 := Lib.hid hb1
  have HH := Lib.hid (small_h5 hn4)
  have HZ := Lib.hid (small_sz hn4)
  clear hM hP hb1
  go_upto_region 3 with fail
  refine region_lin [.val (kIs (.slice (some ⟨gm, 0, none⟩) n n)), .val (kTup (detF n F) 0), .val (kTup (detF n F) 0), .val (kNum (detF n F)), .val (kIs (.int .i64 0)), .box 30 zNum, .put 5 3, .val (kIs (.int .i64 0))]
    (by kernel_rfl) (by kernel_rfl) (by kernel_rfl) (by kernel_rfl) (by kernel_rfl) ⟨stab_is _, stab_tup _ _, stab_tup _ _, stab_num _, stab_is _, stab_is _, trivial⟩ (by simp) ⟨?_, ?_, ?_, ?_, ?_, alloc_num, store_num _, ?_, trivial⟩ ?_
  · intro ts W hb hB hp; intro K hK; simp only [fillT, Nat.zero_add, Nat.reduceAdd, List.setIfInBounds_toArray, List.set_cons_zero, List.set_cons_succ] at hK ⊢; have HK := Lib.hid hK; clear hK hp; refine ⟨?_⟩; go_simp; exact HK.out _ _ rfl (Below.refl _ _)
  · intro ts W hb hB hp; have h0 : ts 0 = _ := hp 0 (by kernel_rfl); intro K hK; simp only [fillT, Nat.zero_add, Nat.reduceAdd, List.setIfInBounds_toArray, List.set_cons_zero, List.set_cons_succ, h0] at hK ⊢; have HK := Lib.hid hK; clear hK hp; refine ⟨?_⟩; go_simp; refine (detN_any W gm gi n 2 F (HM1.out.below hb) hn0 (by omega) (HT.out.below (below_trans KB1.out hb)) (fun a b _ _ => HSF.out a b) (by have := HZ.out.1; omega)).mono ?_; rintro e W9 ⟨r9, rfl, hr9, hb9⟩; exact HK.out _ _ ⟨r9, rfl, hr9⟩ hb9
  · intro ts W hb hB hp; have h1 := hp 1 (by kernel_rfl); intro K hK; simp only [fillT, Nat.zero_add, Nat.reduceAdd, List.setIfInBounds_toArray, List.set_cons_zero, List.set_cons_succ] at hK ⊢; have HK := Lib.hid hK; clear hK hp; refine ⟨?_⟩; go_simp; exact HK.out _ _ h1 (Below.refl _ _)
  · intro ts W hb hB hp; have h2 := hp 2 (by kernel_rfl); intro K hK; obtain ⟨u2, e2, n2⟩ := h2; simp only [fillT, Nat.zero_add, Nat.reduceAdd, List.setIfInBounds_toArray, List.set_cons_zero, List.set_cons_succ, e2] at hK ⊢; have HK := Lib.hid hK; clear hK hp; refine ⟨?_⟩; go_simp; exact HK.out _ _ n2 (Below.refl _ _)
  · intro ts W hb hB hp; have h2 := hp 2 (by kernel_rfl); intro K hK; obtain ⟨u2, e2, n2⟩ := h2; simp only [fillT, Nat.zero_add, Nat.reduceAdd, List.setIfInBounds_toArray, List.set_cons_zero, List.set_cons_succ, e2] at hK ⊢; have HK := Lib.hid hK; clear hK hp; refine ⟨?_⟩; go_simp; exact HK.out _ _ rfl (Below.refl _ _)
  · intro ts W hb hB hp; have h4 : ts 4 = _ := hp 4 (by kernel_rfl); intro K hK; simp only [fillT, Nat.zero_add, Nat.reduceAdd, List.setIfInBounds_toArray, List.set_cons_zero, List.set_cons_succ, h4] at hK ⊢; have HK := Lib.hid hK; clear hK hp; refine ⟨?_⟩; go_simp; exact HK.out _ _ rfl (Below.refl _ _)
  intro ts W2 hb2 hh hap
  have e7 := held_is (hh 7 (by simp)) rfl
  obtain ⟨g9, A9, n9, c9, p9, A9b, n9b, c9b, p9b, A9c, n9c, c9c, e5, lo9, z9, X9, N9⟩ := held_box (x := detF n F) (hh 5 (by simp)) rfl (hh 6 (by simp)) rfl (hh 3 (by simp)) rfl
  simp only [fillT, Nat.zero_add, Nat.reduceAdd, List.setIfInBounds_toArray, List.set_cons_zero, List.set_cons_succ, e7, e5]
  clear hh hap e7 e5
  generalize ts 0 = u0_W2 at *
  generalize ts 1 = u1_W2 at *
  generalize ts 2 = u2_W2 at *
  generalize ts 3 = u3_W2 at *
  generalize ts 4 = u4_W2 at *
  clear ts
  have HM2 := Lib.hid (HM1.out.below hb2)
  have KB2 := Lib.hid (below_trans KB1.out hb2)
  clear hb2 HM1 KB1 lo9
  have hrank := rankN_any W2 gm gi n 2 F HM2.out hn0 (by omega) (HT.out.below KB2.out) (fun a b _ _ => HSF.out a b) (by have := HZ.out.1; omega)
  have HRK := Lib.hid hrank
  clear hrank
  go_wp2_with fail
  rw [← HRR.out] at HRK
  refine HRK.out.mono ?_
  rintro e W3 ⟨rfl, hb3⟩
  have HM3 := Lib.hid (HM2.out.below hb3)
  have KB3 := Lib.hid (below_trans KB2.out hb3)
  replace X9 := (hb3.block _ z9).trans X9
  replace z9 := Nat.lt_of_lt_of_le z9 hb3.size
  replace N9 := N9.below hb3
  clear hb3 HM2 KB2
  have hinv := inverseN_any W3 gm gi n 2 F HM3.out hn0 (by omega) (HT.out.below KB3.out) (fun a b _ _ => HSF.out a b) HH.out
  have HIV := Lib.hid hinv
  clear hinv
  go_wp2_with fail
  refine HIV.out.mono ?_
  intro e W4 hre
  have hre2 : e = .returned (.tuple #[.slice none 0 0, .int .i64 6]) ∧ Below W3.heap.size W3 W4 := by
    unfold RetInv at hre
    rw [if_neg HST.out] at hre
    exact hre
  clear hre
  obtain ⟨rfl, hb4⟩ := hre2
  have HM4 := Lib.hid (HM3.out.below hb4)
  have KB4 := Lib.hid (below_trans KB3.out hb4)
  replace X9 := (hb4.block _ z9).trans X9
  replace z9 := Nat.lt_of_lt_of_le z9 hb4.size
  replace N9 := N9.below hb4
  clear hb4 HM3 KB3 HIV HRK
  go_upto_region 6 with fail
  refine region_lin [.val (kIs (.int .i64 0)), .val (kIs (.bool false)), .val (kIs (.bool false)), .val (kIs (.int .i64 0)), .val (kIs (.bool false)), .val (kIs (.bool false)), .val (kIs (.bool false)), .val (kIs (.agg #[.slice A9 n9 c9, .bool p9, .slice A9b n9b c9b, .bool p9b, .slice A9c n9c c9c])), .val (kIs (.bool false)), .val (kIs (.int .i64 6)), .val (kIs (.bool false)), .val (kIs (.bool false)), .val (kIs (.bool false)), .val (kIs (.bool false)), .val (kIs (.agg #[.slice A9 n9 c9, .bool p9, .slice A9b n9b c9b, .bool p9b, .slice A9c n9c c9c])), .val (kIs (.bool false)), .val (kIs (.int .i64 (RK : Nat))), .val (kIs (.int .i64 (n : Int))), .val (kIs (.bool false)), .val (kIs (.bool false)), .val (kIs (.bool false))]
    (by kernel_rfl) (by kernel_rfl) (by kernel_rfl) (by kernel_rfl) (by kernel_rfl) ⟨Stab.b (stab_is _), Stab.b (stab_is _), Stab.b (stab_is _), Stab.b (stab_is _), Stab.b (stab_is _), Stab.b (stab_is _), Stab.b (stab_is _), Stab.b (stab_is _), Stab.b (stab_is _), Stab.b (stab_is _), Stab.b (stab_is _), Stab.b (stab_is _), Stab.b (stab_is _), Stab.b (stab_is _), Stab.b (stab_is _), Stab.b (stab_is _), Stab.b (stab_is _), Stab.b (stab_is _), Stab.b (stab_is _), Stab.b (stab_is _), Stab.b (stab_is _), trivial⟩ (by simp) ⟨?_, ?_, ?_, ?_, ?_, ?_, ?_, ?_, ?_, ?_, ?_, ?_, ?_, ?_, ?_, ?_, ?_, ?_, ?_, ?_, ?_, trivial⟩ ?_
  · intro ts W hb hB hp; intro K hK; simp only [fillT, Nat.zero_add, Nat.reduceAdd, List.setIfInBounds_toArray, List.set_cons_zero, List.set_cons_succ] at hK ⊢; have HK := Lib.hid hK; clear hK hp; refine ⟨?_⟩; go_simp; exact HK.out _ _ rfl (Below.refl _ _)
  · intro ts W hb hB hp; have h0 : ts 0 = _ := hp 0 (by kernel_rfl); intro K hK; simp only [fillT, Nat.zero_add, Nat.reduceAdd, List.setIfInBounds_toArray, List.set_cons_zero, List.set_cons_succ, h0] at hK ⊢; have HK := Lib.hid hK; clear hK hp; refine ⟨?_⟩; go_simp; exact HK.out _ _ (by simp [kIs, *]) (Below.refl _ _)
  · intro ts W hb hB hp; have h1 : ts 1 = _ := hp 1 (by kernel_rfl); intro K hK; simp only [fillT, Nat.zero_add, Nat.reduceAdd, List.setIfInBounds_toArray, List.set_cons_zero, List.set_cons_succ, h1] at hK ⊢; have HK := Lib.hid hK; clear hK hp; refine ⟨?_⟩; go_simp; exact HK.out _ _ rfl (Below.refl _ _)
  · intro ts W hb hB hp; have h2 : ts 2 = _ := hp 2 (by kernel_rfl); refine Guarded.on h2 ?_; clear h2; intro K hK; simp only [fillT, Nat.zero_add, Nat.reduceAdd, List.setIfInBounds_toArray, List.set_cons_zero, List.set_cons_succ] at hK ⊢; have HK := Lib.hid hK; clear hK hp; refine ⟨?_⟩; go_simp; exact HK.out _ _ rfl (Below.refl _ _)
  · intro ts W hb hB hp; have h3 : ts 3 = _ := hp 3 (by kernel_rfl); have h2 : ts 2 = _ := hp 2 (by kernel_rfl); refine Guarded.on h2 ?_; clear h2; intro K hK; simp only [fillT, Nat.zero_add, Nat.reduceAdd, List.setIfInBounds_toArray, List.set_cons_zero, List.set_cons_succ, h3] at hK ⊢; have HK := Lib.hid hK; clear hK hp; refine ⟨?_⟩; go_simp; exact HK.out _ _ (by simp [kIs, *]) (Below.refl _ _)
  · intro ts W hb hB hp; have h2 : ts 2 = _ := hp 2 (by kernel_rfl); have h4 : ts 4 = _ := hp 4 (by kernel_rfl); intro K hK; simp only [fillT, Nat.zero_add, Nat.reduceAdd, List.setIfInBounds_toArray, List.set_cons_zero, List.set_cons_succ, h2, h4] at hK ⊢; have HK := Lib.hid hK; clear hK hp; refine ⟨?_⟩; go_simp; exact HK.out _ _ rfl (Below.refl _ _)
  · intro ts W hb hB hp; have h5 : ts 5 = _ := hp 5 (by kernel_rfl); intro K hK; simp only [fillT, Nat.zero_add, Nat.reduceAdd, List.setIfInBounds_toArray, List.set_cons_zero, List.set_cons_succ, h5] at hK ⊢; have HK := Lib.hid hK; clear hK hp; refine ⟨?_⟩; go_simp; exact HK.out _ _ rfl (Below.refl _ _)
  · intro ts W hb hB hp; have h6 : ts 6 = _ := hp 6 (by kernel_rfl); refine Guarded.on h6 ?_; clear h6; intro K hK; simp only [fillT, Nat.zero_add, Nat.reduceAdd, List.setIfInBounds_toArray, List.set_cons_zero, List.set_cons_succ] at hK ⊢; refine ⟨?_⟩; refine wp_load_row _ _ rfl (g9) rfl _ _ (0, 0) _ ((hb.block _ (z9)).trans X9) Tryz.underlying30 rfl (by kernel_rfl) ?_; exact hK _ _ rfl (Below.refl _ _)
  · intro ts W hb hB hp; have h7 : ts 7 = _ := hp 7 (by kernel_rfl); have h6 : ts 6 = _ := hp 6 (by kernel_rfl); refine Guarded.on h6 ?_; clear h6; intro K hK; simp only [fillT, Nat.zero_add, Nat.reduceAdd, List.setIfInBounds_toArray, List.set_cons_zero, List.set_cons_succ, h7] at hK ⊢; have HK := Lib.hid hK; clear hK hp; refine ⟨?_⟩; go_simp; refine (clearN_k _ (detF n F) W (N9.below hb) (clear_f HDZ.out)).mono ?_; rintro e W9 ⟨rfl, hb9⟩; exact HK.out _ _ rfl hb9
  · intro ts W hb hB hp; have h6 : ts 6 = _ := hp 6 (by kernel_rfl); refine Guarded.on h6 ?_; clear h6; intro K hK; simp only [fillT, Nat.zero_add, Nat.reduceAdd, List.setIfInBounds_toArray, List.set_cons_zero, List.set_cons_succ] at hK ⊢; have HK := Lib.hid hK; clear hK hp; refine ⟨?_⟩; go_simp; exact HK.out _ _ rfl (Below.refl _ _)
  · intro ts W hb hB hp; have h9 : ts 9 = _ := hp 9 (by kernel_rfl); have h6 : ts 6 = _ := hp 6 (by kernel_rfl); refine Guarded.on h6 ?_; clear h6; intro K hK; simp only [fillT, Nat.zero_add, Nat.reduceAdd, List.setIfInBounds_toArray, List.set_cons_zero, List.set_cons_succ, h9] at hK ⊢; have HK := Lib.hid hK; clear hK hp; refine ⟨?_⟩; go_simp; exact HK.out _ _ (by simp [kIs, *]) (Below.refl _ _)
  · intro ts W hb hB hp; have h8 : ts 8 = _ := hp 8 (by kernel_rfl); have h10 : ts 10 = _ := hp 10 (by kernel_rfl); have h6 : ts 6 = _ := hp 6 (by kernel_rfl); refine Guarded.on h6 ?_; clear h6; intro K hK; simp only [fillT, Nat.zero_add, Nat.reduceAdd, List.setIfInBounds_toArray, List.set_cons_zero, List.set_cons_succ, h8, h10] at hK ⊢; have HK := Lib.hid hK; clear hK hp; refine ⟨?_⟩; go_simp; exact HK.out _ _ (by simp [kIs, *]) (Below.refl _ _)
  · intro ts W hb hB hp; have h6 : ts 6 = _ := hp 6 (by kernel_rfl); have h11 : ts 11 = _ := hp 11 (by kernel_rfl); intro K hK; simp only [fillT, Nat.zero_add, Nat.reduceAdd, List.setIfInBounds_toArray, List.set_cons_zero, List.set_cons_succ, h6, h11] at hK ⊢; have HK := Lib.hid hK; clear hK hp; refine ⟨?_⟩; go_simp; exact HK.out _ _ rfl (Below.refl _ _)
  · intro ts W hb hB hp; have h12 : ts 12 = _ := hp 12 (by kernel_rfl); intro K hK; simp only [fillT, Nat.zero_add, Nat.reduceAdd, List.setIfInBounds_toArray, List.set_cons_zero, List.set_cons_succ, h12] at hK ⊢; have HK := Lib.hid hK; clear hK hp; refine ⟨?_⟩; go_simp; exact HK.out _ _ rfl (Below.refl _ _)
  · intro ts W hb hB hp; have h13 : ts 13 = _ := hp 13 (by kernel_rfl); refine Guarded.on h13 ?_; clear h13; intro K hK; simp only [fillT, Nat.zero_add, Nat.reduceAdd, List.setIfInBounds_toArray, List.set_cons_zero, List.set_cons_succ] at hK ⊢; refine ⟨?_⟩; refine wp_load_row _ _ rfl (g9) rfl _ _ (0, 0) _ ((hb.block _ (z9)).trans X9) Tryz.underlying30 rfl (by kernel_rfl) ?_; exact hK _ _ rfl (Below.refl _ _)
  · intro ts W hb hB hp; have h14 : ts 14 = _ := hp 14 (by kernel_rfl); have h13 : ts 13 = _ := hp 13 (by kernel_rfl); refine Guarded.on h13 ?_; clear h13; intro K hK; simp only [fillT, Nat.zero_add, Nat.reduceAdd, List.setIfInBounds_toArray, List.set_cons_zero, List.set_cons_succ, h14] at hK ⊢; have HK := Lib.hid hK; clear hK hp; refine ⟨?_⟩; go_simp; refine (clearN_k _ (detF n F) W (N9.below hb) (clear_f HDZ.out)).mono ?_; rintro e W9 ⟨rfl, hb9⟩; exact HK.out _ _ rfl hb9
  · intro ts W hb hB hp; have h13 : ts 13 = _ := hp 13 (by kernel_rfl); refine Guarded.on h13 ?_; clear h13; intro K hK; simp only [fillT, Nat.zero_add, Nat.reduceAdd, List.setIfInBounds_toArray, List.set_cons_zero, List.set_cons_succ] at hK ⊢; have HK := Lib.hid hK; clear hK hp; refine ⟨?_⟩; go_simp; exact HK.out _ _ rfl (Below.refl _ _)
  · intro ts W hb hB hp; have h13 : ts 13 = _ := hp 13 (by kernel_rfl); refine Guarded.on h13 ?_; clear h13; intro K hK; simp only [fillT, Nat.zero_add, Nat.reduceAdd, List.setIfInBounds_toArray, List.set_cons_zero, List.set_cons_succ] at hK ⊢; have HK := Lib.hid hK; clear hK hp; refine ⟨?_⟩; go_simp; exact HK.out _ _ rfl (Below.refl _ _)
  · intro ts W hb hB hp; have h16 : ts 16 = _ := hp 16 (by kernel_rfl); have h17 : ts 17 = _ := hp 17 (by kernel_rfl); have h13 : ts 13 = _ := hp 13 (by kernel_rfl); refine Guarded.on h13 ?_; clear h13; intro K hK; simp only [fillT, Nat.zero_add, Nat.reduceAdd, List.setIfInBounds_toArray, List.set_cons_zero, List.set_cons_succ, h16, h17] at hK ⊢; have HK := Lib.hid hK; clear hK hp; refine ⟨?_⟩; go_simp; exact HK.out _ _ (by simp [kIs, *]) (Below.refl _ _)
  · intro ts W hb hB hp; have h15 : ts 15 = _ := hp 15 (by kernel_rfl); have h18 : ts 18 = _ := hp 18 (by kernel_rfl); have h13 : ts 13 = _ := hp 13 (by kernel_rfl); refine Guarded.on h13 ?_; clear h13; intro K hK; simp only [fillT, Nat.zero_add, Nat.reduceAdd, List.setIfInBounds_toArray, List.set_cons_zero, List.set_cons_succ, h15, h18] at hK ⊢; have HK := Lib.hid hK; clear hK hp; refine ⟨?_⟩; go_simp; exact HK.out _ _ (by simp [kIs, *]) (Below.refl _ _)
  · intro ts W hb hB hp; have h13 : ts 13 = _ := hp 13 (by kernel_rfl); have h19 : ts 19 = _ := hp 19 (by kernel_rfl); intro K hK; simp only [fillT, Nat.zero_add, Nat.reduceAdd, List.setIfInBounds_toArray, List.set_cons_zero, List.set_cons_succ, h13, h19] at hK ⊢; have HK := Lib.hid hK; clear hK hp; refine ⟨?_⟩; go_simp; exact HK.out _ _ rfl (Below.refl _ _)
  intro ts W5 hb5 hh hap
  have e20 := held_is (hh 20 (by simp)) rfl
  simp only [fillT, Nat.zero_add, Nat.reduceAdd, List.setIfInBounds_toArray, List.set_cons_zero, List.set_cons_succ, e20]
  clear hh hap e20
  generalize ts 0 = u0_W5 at *
  generalize ts 1 = u1_W5 at *
  generalize ts 2 = u2_W5 at *
  generalize ts 3 = u3_W5 at *
  generalize ts 4 = u4_W5 at *
  generalize ts 5 = u5_W5 at *
  generalize ts 6 = u6_W5 at *
  generalize ts 7 = u7_W5 at *
  generalize ts 8 = u8_W5 at *
  generalize ts 9 = u9_W5 at *
  generalize ts 10 = u10_W5 at *
  generalize ts 11 = u11_W5 at *
  generalize ts 12 = u12_W5 at *
  generalize ts 13 = u13_W5 at *
  generalize ts 14 = u14_W5 at *
  generalize ts 15 = u15_W5 at *
  generalize ts 16 = u16_W5 at *
  generalize ts 17 = u17_W5 at *
  generalize ts 18 = u18_W5 at *
  generalize ts 19 = u19_W5 at *
  clear ts
  have KB5 := Lib.hid (below_trans KB4.out hb5)
  clear hb5 HM4 KB4 X9 N9 z9 hrk1
  go_wp2_with fail
  refine (squareM_any W5 A' len' cap' n f' (HR1.out.below KB5.out) H65.out (by omega) hl' (HT.out.below KB5.out)).mono ?_
  rintro e W6 ⟨gr, gs, rfl, hR, hP, hb6⟩
  have KB6 := Lib.hid (below_trans KB5.out hb6)
  clear hb6 KB5 hR hP
  go_wp2_with fail
  refine (awake_any W6 (HT.out.below KB6.out)).mono ?_
  rintro e W7 ⟨rfl, hb7⟩
  have KB7 := Lib.hid (below_trans KB6.out hb7)
  clear hb7 KB6
  go_wp2
  go_ret
  exact ⟨rfl, KB7.out⟩
end Go.Proofs.YtmlkpnfjgifgfaaGreatDoor
