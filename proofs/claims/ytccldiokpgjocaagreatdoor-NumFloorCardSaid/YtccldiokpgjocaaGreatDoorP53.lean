import Derived.Test.YtccldiokpgjocaaGreatDoorP16
import Derived.Test.YtccldiokpgjocaaGreatDoorP27
import Derived.Test.YtccldiokpgjocaaGreatDoorP31
import Derived.Test.YtccldiokpgjocaaGreatDoorP38
import Derived.Test.YtccldiokpgjocaaGreatDoorP52
set_option linter.unusedSimpArgs false
set_option linter.unusedVariables false
namespace Go.Proofs.YtccldiokpgjocaaGreatDoor
open Go.RowKit
set_option maxRecDepth 100000
theorem store_ri (z : Int) : StoreOk Tryz.prog 32 zRI (kRI z) := ⟨by kernel_rfl, fun v W h => by
  obtain ⟨A, n, c, rfl, -⟩ := h.parts
  exact ⟨_, rfl, rfl, by simp [Value.oneCell']⟩⟩
theorem stab_ri (z : Int) : Stab (kRI z) := fun _ _ _ he h => IsRI.ext h he
theorem held_ri {kl : List RK} {B : Nat} {ts : Nat → Value} {W : World} {i : Nat} {z : Int} (h : Held kl B ts (fun _ => true) W i) (hk : rk kl i = .val (kRI z)) : IsRI W (ts i) z := by
  unfold Held at h
  rw [hk] at h
  exact h
theorem held_boxRI {kl : List RK} {B : Nat} {ts : Nat → Value} {W : World} {b c k : Nat} {z : Int} (h : Held kl B ts (fun _ => true) W b) (hb : rk kl b = .box 32 zRI) (h' : Held kl B ts (fun _ => true) W k) (hk : rk kl k = .put b c)
    (h2 : Held kl B ts (fun _ => true) W c) (hc : rk kl c = .val (kRI z)) : ∃ g p A n m, ts b = .pointer (some ⟨g, 0, none⟩) ∧ B ≤ g ∧ g < W.heap.size ∧ W.heap[g]? = some (.cells #[.bool p, .slice A n m] 32 (0, 0)) ∧ IsRI W (.agg #[.bool p, .slice A n m]) z := by
  have hx := held_ri h2 hc
  unfold Held at h h'
  rw [hb] at h
  rw [hk] at h'
  simp only at h h'
  obtain ⟨g, h1, h3, h4, -⟩ := h
  obtain ⟨g', cs', T, z', e1, e2, e3, e4⟩ := h'
  rw [h1] at e1
  injection e1 with e1
  injection e1 with e1
  injection e1 with e1
  subst e1
  rw [hb] at e3
  injection e3 with e3 _
  subst e3
  obtain ⟨A, n, c, he, -⟩ := hx.parts
  rw [he] at e2 hx
  injection e2 with e2
  subst e2
  exact ⟨g, _, A, n, c, h1, h3, h4, e4, hx⟩
theorem one_runQ (W : World) : (Instr.buildSlice 25 1 #[(0, .int .u32 1)]).run Tryz.prog W =
    .ok (.slice (some ⟨W.heap.size, 0, none⟩) 1 1) (W.alloc (.cells #[.int .u32 1] 45)) := by simp [go_sem]
theorem shl_sign (z : Int) (k : Nat) : (z * 2 ^ k).natAbs = z.natAbs * 2 ^ k ∧ (decide (z < 0) && decide (0 < z.natAbs * 2 ^ k)) = decide (z * 2 ^ k < 0) := by
  have hk := two_pos k
  rw [pow_int, Int.natAbs_mul, Int.natAbs_natCast]
  refine ⟨rfl, ?_⟩
  generalize 2 ^ k = c at *
  rcases Int.lt_or_le z 0 with h | h
  · have h1 : z * (c : Int) < 0 := Int.mul_neg_of_neg_of_pos h (by omega)
    have h2 : 0 < z.natAbs * c := Nat.mul_pos (by omega) hk
    simp [h, h1, h2]
  · have h1 : 0 ≤ z * (c : Int) := Int.mul_nonneg h (by omega)
    have h3 : ¬ z * (c : Int) < 0 := by omega
    have h4 : ¬ z < 0 := by omega
    simp [h4, h3]
set_option maxHeartbeats 2000000 in
theorem rFloor_any (v : Value) (x : Cx) (k : Int) (w : World) (h : IsQ w v x) (m : Nat) (hx : Sz x m) (hm : m < 268435456) :
    Calls Tryz.prog 28 #[v, .int .i64 k] w (RetQ w (x.flr (kcl k))) := by
  obtain ⟨A1, n1, c1, p1, A1b, n1b, c1b, p1b, A1c, n1c, c1c, a1, b1, d1, rfl, hl1, hr1, hi1, hs1, hn1, hm1, hd1, hp1, hq1, hs2, hs3⟩ := h.parts
  have s1 := hx _ _ _ hl1
  have hkc : (k < 0 → kcl k = 0) ∧ (1000 < k → kcl k = 1000) ∧ (0 ≤ k → k ≤ 1000 → k = (kcl k : Int)) ∧ kcl k ≤ 1000 := by unfold kcl; omega
  obtain ⟨hk1, hk2, hk3, hk4⟩ := hkc
  generalize kcl k = K at *
  have v1 := wl_shl a1 K
  have v2 := wl_shl b1 K
  have f1 := wl_fl (a1 * 2 ^ K) hl1.pos
  have f2 := wl_fl (b1 * 2 ^ K) hl1.pos
  have w2 := wl_two K
  have HS10 := hid (fun W (hb : Below w.heap.size w W) => rNatShl_any _ a1.natAbs K W (hs2.below hb) (by omega) (by omega))
  have HS11 := hid (fun W (hb : Below w.heap.size w W) => rNatShl_any _ b1.natAbs K W (hs3.below hb) (by omega) (by omega))
  have HG10 := hid (fun W v (h1 : IsNat W v (a1.natAbs * 2 ^ K)) => rsigned_any p1 v _ (a1 * 2 ^ K) W h1 (shl_sign a1 K).1 (by rw [hp1]; exact (shl_sign a1 K).2))
  have HG11 := hid (fun W v (h1 : IsNat W v (b1.natAbs * 2 ^ K)) => rsigned_any p1b v _ (b1 * 2 ^ K) W h1 (shl_sign b1 K).1 (by rw [hq1]; exact (shl_sign b1 K).2))
  have HDD := hid (fun W (hb : Below w.heap.size w W) => hs1.below hb)
  have HF10 := hid (fun W v u (h1 : IsRI W v (a1 * 2 ^ K)) (h2 : IsNat W u d1) => rIntFloor_any _ _ _ _ W h1 h2 hl1.pos (by omega) (by omega))
  have HF11 := hid (fun W v u (h1 : IsRI W v (b1 * 2 ^ K)) (h2 : IsNat W u d1) => rIntFloor_any _ _ _ _ W h1 h2 hl1.pos (by omega) (by omega))
  have HP := hid (fun W v (h1 : IsNat W v 1) => (rNatShl_any v 1 K W h1 (by rw [wl_one]; omega) (by omega)).mono (R' := RetNat W (2 ^ K)) fun e w' h => by rw [Nat.one_mul] at h; exact h)
  have HMk := hid (fun W v u t (h1 : IsRI W v (a1 * 2 ^ K / (d1 : Int))) (h2 : IsRI W u (b1 * 2 ^ K / (d1 : Int))) (h3 : IsNat W t (2 ^ K)) =>
    rMake_any _ _ _ _ _ (2 ^ K) (x.flr K) W h1 h2 h3 (two_pos K) (by rw [flz_of hl1.pos hl1.2.2.1]; exact (flr_terms x K).1) (by rw [flz_of hl1.pos hl1.2.2.2]; exact (flr_terms x K).2) (by omega) (by omega) (by omega))
  clear h hx hm s1 v1 v2 f1 f2 w2 hl1 hr1 hi1 hs1 hn1 hm1 hd1 hp1 hq1 hs2 hs3
  go_enter Tryz.func28, Tryz.ntmps28
  go_upto_region 1 with fail
  obtain ⟨W1, hW1⟩ : ∃ W1 : World, W1 = (w.alloc (.cells #[.bool p1, .slice A1 n1 c1, .bool p1b, .slice A1b n1b c1b, .slice A1c n1c c1c] 34)).alloc (.cells #[.bool false, .slice none 0 0, .bool false, .slice none 0 0, .slice none 0 0] 34) := ⟨_, rfl⟩
  rw [← hW1]
  have B1 : Below w.heap.size w W1 := by rw [hW1]; exact bel
  have X := boxes2 w (.cells #[.bool p1, .slice A1 n1 c1, .bool p1b, .slice A1b n1b c1b, .slice A1c n1c c1c] 34) (.cells #[.bool false, .slice none 0 0, .bool false, .slice none 0 0, .slice none 0 0] 34)
  rw [← hW1] at X
  obtain ⟨X0, z0, X1, z1⟩ := X
  clear hW1
  have B := B1
  clear B1
  go_upto_if 8 with fail
  go_cut [1] from 7 to 8 (fun s wx => ∃ k0 : Int, s = .int .i64 k0 ∧ (k < 0 ∧ k0 = 0 ∨ 0 ≤ k ∧ k0 = k) ∧ W1 = wx)
  case first =>
    by_cases hc : k < 0
    · go_wp2
      go_meet
      exact ⟨0, rfl, .inl ⟨hc, rfl⟩, rfl⟩
    · go_wp2
      go_meet
      exact ⟨k, rfl, .inr ⟨by omega, rfl⟩, rfl⟩
  case rest =>
  obtain ⟨k0, rfl, hk0, rfl⟩ := hcut
  go_upto_if 10 with fail
  go_cut [1] from 9 to 10 (fun s wx => s = .int .i64 (K : Int) ∧ W1 = wx)
  case first =>
    by_cases hc : 1000 < k0
    · have h9 : (K : Int) = 1000 := by omega
      go_wp2
      go_meet
      exact ⟨by rw [h9], rfl⟩
    · have h9 : (K : Int) = k0 := by omega
      go_wp2
      go_meet
      exact ⟨by rw [h9], rfl⟩
  case rest =>
  obtain ⟨rfl, rfl⟩ := hcut
  have hkp : (0 : Int) ≤ (K : Int) := by omega
  clear hk0 hk1 hk2 hk3
  go_upto_region 5 with fail
  refine region_lin [.val (kIs (.pointer (some ⟨w.heap.size, 0, none⟩))), .val (kIs (.pointer (some ⟨w.heap.size, 0, none⟩))), .val (kIs (.bool p1)), .val (kIs (.pointer (some ⟨w.heap.size, 0, none⟩))), .val (kIs (.pointer (some ⟨w.heap.size, 1, none⟩))), .val (kIs (.slice A1 n1 c1)), .val (kIs (.int .i64 (K : Int))), .val (kNat (a1.natAbs * 2 ^ K)), .val (kRI (a1 * 2 ^ K)), .val (kIs (.pointer (some ⟨w.heap.size, 4, none⟩))), .val (kIs (.slice A1c n1c c1c)), .val (kRI (a1 * 2 ^ K / (d1 : Int))), .box 32 zRI, .put 12 11]
    (by kernel_rfl) (by kernel_rfl) (by kernel_rfl) (by kernel_rfl) (by kernel_rfl) ⟨stab_is _, stab_is _, stab_is _, stab_is _, stab_is _, stab_is _, stab_is _, stab_nat _, stab_ri _, stab_is _, stab_is _, stab_ri _, trivial⟩ (by simp) ⟨?_, ?_, ?_, ?_, ?_, ?_, ?_, ?_, ?_, ?_, ?_, ?_, alloc_ri, store_ri _, trivial⟩ ?_
  · exact obp
  · intro ts W hb hB hp; have h0 : ts 0 = _ := hp 0 (by kernel_rfl); intro K hK; simp only [fillT, Nat.zero_add, Nat.reduceAdd, sA, sB, sC, h0] at hK ⊢; have HK := hid hK; clear hK hp; refine ⟨?_⟩; go_simp; exact HK.out _ _ rfl rfB
  · intro ts W hb hB hp; have h1 : ts 1 = _ := hp 1 (by kernel_rfl); intro K hK; simp only [fillT, Nat.zero_add, Nat.reduceAdd, sA, sB, sC, h1] at hK ⊢; have HK := hid hK; clear hK hp; obtain ⟨f0, f1, f2, f3, f4, -, -, -, -, -⟩ := bx5 ((hb.block _ z0).trans X0); refine ⟨?_⟩; go_simp; exact HK.out _ _ rfl rfB
  · exact obp
  · intro ts W hb hB hp; have h3 : ts 3 = _ := hp 3 (by kernel_rfl); intro K hK; simp only [fillT, Nat.zero_add, Nat.reduceAdd, sA, sB, sC, h3] at hK ⊢; have HK := hid hK; clear hK hp; refine ⟨?_⟩; go_simp; exact HK.out _ _ rfl rfB
  · intro ts W hb hB hp; have h4 : ts 4 = _ := hp 4 (by kernel_rfl); intro K hK; simp only [fillT, Nat.zero_add, Nat.reduceAdd, sA, sB, sC, h4] at hK ⊢; have HK := hid hK; clear hK hp; obtain ⟨f0, f1, f2, f3, f4, -, -, -, -, -⟩ := bx5 ((hb.block _ z0).trans X0); refine ⟨?_⟩; go_simp; exact HK.out _ _ rfl rfB
  · exact obp
  · intro ts W hb hB hp; have h5 : ts 5 = _ := hp 5 (by kernel_rfl); have h6 : ts 6 = _ := hp 6 (by kernel_rfl); intro K hK; simp only [fillT, Nat.zero_add, Nat.reduceAdd, sA, sB, sC, h5, h6] at hK ⊢; have HK := hid hK; clear hK hp; refine ⟨?_⟩; go_simp; refine (HS10.out W (below_trans B hb)).mono ?_; rintro e W9 ⟨r9, rfl, hr9, hb9⟩; exact HK.out _ _ hr9 hb9
  · intro ts W hb hB hp; have h2 : ts 2 = _ := hp 2 (by kernel_rfl); have h7 := hp 7 (by kernel_rfl); intro K hK; simp only [fillT, Nat.zero_add, Nat.reduceAdd, sA, sB, sC, h2] at hK ⊢; have HK := hid hK; clear hK hp; refine ⟨?_⟩; go_simp; refine (HG10.out W _ h7).mono ?_; rintro e W9 ⟨r9, rfl, hr9, hb9⟩; exact HK.out _ _ hr9 hb9
  · exact obp
  · intro ts W hb hB hp; have h9 : ts 9 = _ := hp 9 (by kernel_rfl); intro K hK; simp only [fillT, Nat.zero_add, Nat.reduceAdd, sA, sB, sC, h9] at hK ⊢; have HK := hid hK; clear hK hp; obtain ⟨f0, f1, f2, f3, f4, -, -, -, -, -⟩ := bx5 ((hb.block _ z0).trans X0); refine ⟨?_⟩; go_simp; exact HK.out _ _ rfl rfB
  · intro ts W hb hB hp; have h8 := hp 8 (by kernel_rfl); have h10 : ts 10 = _ := hp 10 (by kernel_rfl); intro K hK; simp only [fillT, Nat.zero_add, Nat.reduceAdd, sA, sB, sC, h10] at hK ⊢; have HK := hid hK; clear hK hp; refine ⟨?_⟩; go_simp; refine (HF10.out W _ _ h8 (HDD.out W (below_trans B hb))).mono ?_; rintro e W9 ⟨r9, rfl, hr9, hb9⟩; exact HK.out _ _ hr9 hb9
  intro ts W2 hb2 hh hap
  obtain ⟨g10, q10, A10, n10, c10, e10, lo10, z10, X10, H10⟩ := held_boxRI (z := a1 * 2 ^ K / (d1 : Int)) (hh 12 (by simp)) rfl (hh 13 (by simp)) rfl (hh 11 (by simp)) rfl
  simp only [fillT, Nat.zero_add, Nat.reduceAdd, sA, sB, sC, e10]
  clear hh hap e10
  generalize ts 0 = u0_W2 at *
  generalize ts 1 = u1_W2 at *
  generalize ts 2 = u2_W2 at *
  generalize ts 3 = u3_W2 at *
  generalize ts 4 = u4_W2 at *
  generalize ts 5 = u5_W2 at *
  generalize ts 6 = u6_W2 at *
  generalize ts 7 = u7_W2 at *
  generalize ts 8 = u8_W2 at *
  generalize ts 9 = u9_W2 at *
  generalize ts 10 = u10_W2 at *
  generalize ts 11 = u11_W2 at *
  clear ts
  replace X0 := (hb2.block _ z0).trans X0
  replace z0 := Nat.lt_of_lt_of_le z0 hb2.size
  replace X1 := (hb2.block _ z1).trans X1
  replace z1 := Nat.lt_of_lt_of_le z1 hb2.size
  replace B := below_trans B hb2
  clear hb2
  go_upto_region 6 with fail
  refine region_lin [.val (kIs (.pointer (some ⟨w.heap.size, 2, none⟩))), .val (kIs (.pointer (some ⟨w.heap.size, 2, none⟩))), .val (kIs (.bool p1b)), .val (kIs (.pointer (some ⟨w.heap.size, 2, none⟩))), .val (kIs (.pointer (some ⟨w.heap.size, 3, none⟩))), .val (kIs (.slice A1b n1b c1b)), .val (kIs (.int .i64 (K : Int))), .val (kNat (b1.natAbs * 2 ^ K)), .val (kRI (b1 * 2 ^ K)), .val (kIs (.pointer (some ⟨w.heap.size, 4, none⟩))), .val (kIs (.slice A1c n1c c1c)), .val (kRI (b1 * 2 ^ K / (d1 : Int))), .box 32 zRI, .put 12 11]
    (by kernel_rfl) (by kernel_rfl) (by kernel_rfl) (by kernel_rfl) (by kernel_rfl) ⟨stab_is _, stab_is _, stab_is _, stab_is _, stab_is _, stab_is _, stab_is _, stab_nat _, stab_ri _, stab_is _, stab_is _, stab_ri _, trivial⟩ (by simp) ⟨?_, ?_, ?_, ?_, ?_, ?_, ?_, ?_, ?_, ?_, ?_, ?_, alloc_ri, store_ri _, trivial⟩ ?_
  · exact obp
  · intro ts W hb hB hp; have h0 : ts 0 = _ := hp 0 (by kernel_rfl); intro K hK; simp only [fillT, Nat.zero_add, Nat.reduceAdd, sA, sB, sC, h0] at hK ⊢; have HK := hid hK; clear hK hp; refine ⟨?_⟩; go_simp; exact HK.out _ _ rfl rfB
  · intro ts W hb hB hp; have h1 : ts 1 = _ := hp 1 (by kernel_rfl); intro K hK; simp only [fillT, Nat.zero_add, Nat.reduceAdd, sA, sB, sC, h1] at hK ⊢; have HK := hid hK; clear hK hp; obtain ⟨f0, f1, f2, f3, f4, -, -, -, -, -⟩ := bx5 ((hb.block _ z0).trans X0); refine ⟨?_⟩; go_simp; exact HK.out _ _ rfl rfB
  · exact obp
  · intro ts W hb hB hp; have h3 : ts 3 = _ := hp 3 (by kernel_rfl); intro K hK; simp only [fillT, Nat.zero_add, Nat.reduceAdd, sA, sB, sC, h3] at hK ⊢; have HK := hid hK; clear hK hp; refine ⟨?_⟩; go_simp; exact HK.out _ _ rfl rfB
  · intro ts W hb hB hp; have h4 : ts 4 = _ := hp 4 (by kernel_rfl); intro K hK; simp only [fillT, Nat.zero_add, Nat.reduceAdd, sA, sB, sC, h4] at hK ⊢; have HK := hid hK; clear hK hp; obtain ⟨f0, f1, f2, f3, f4, -, -, -, -, -⟩ := bx5 ((hb.block _ z0).trans X0); refine ⟨?_⟩; go_simp; exact HK.out _ _ rfl rfB
  · exact obp
  · intro ts W hb hB hp; have h5 : ts 5 = _ := hp 5 (by kernel_rfl); have h6 : ts 6 = _ := hp 6 (by kernel_rfl); intro K hK; simp only [fillT, Nat.zero_add, Nat.reduceAdd, sA, sB, sC, h5, h6] at hK ⊢; have HK := hid hK; clear hK hp; refine ⟨?_⟩; go_simp; refine (HS11.out W (below_trans B hb)).mono ?_; rintro e W9 ⟨r9, rfl, hr9, hb9⟩; exact HK.out _ _ hr9 hb9
  · intro ts W hb hB hp; have h2 : ts 2 = _ := hp 2 (by kernel_rfl); have h7 := hp 7 (by kernel_rfl); intro K hK; simp only [fillT, Nat.zero_add, Nat.reduceAdd, sA, sB, sC, h2] at hK ⊢; have HK := hid hK; clear hK hp; refine ⟨?_⟩; go_simp; refine (HG11.out W _ h7).mono ?_; rintro e W9 ⟨r9, rfl, hr9, hb9⟩; exact HK.out _ _ hr9 hb9
  · exact obp
  · intro ts W hb hB hp; have h9 : ts 9 = _ := hp 9 (by kernel_rfl); intro K hK; simp only [fillT, Nat.zero_add, Nat.reduceAdd, sA, sB, sC, h9] at hK ⊢; have HK := hid hK; clear hK hp; obtain ⟨f0, f1, f2, f3, f4, -, -, -, -, -⟩ := bx5 ((hb.block _ z0).trans X0); refine ⟨?_⟩; go_simp; exact HK.out _ _ rfl rfB
  · intro ts W hb hB hp; have h8 := hp 8 (by kernel_rfl); have h10 : ts 10 = _ := hp 10 (by kernel_rfl); intro K hK; simp only [fillT, Nat.zero_add, Nat.reduceAdd, sA, sB, sC, h10] at hK ⊢; have HK := hid hK; clear hK hp; refine ⟨?_⟩; go_simp; refine (HF11.out W _ _ h8 (HDD.out W (below_trans B hb))).mono ?_; rintro e W9 ⟨r9, rfl, hr9, hb9⟩; exact HK.out _ _ hr9 hb9
  intro ts W3 hb3 hh hap
  obtain ⟨g11, q11, A11, n11, c11, e11, lo11, z11, X11, H11⟩ := held_boxRI (z := b1 * 2 ^ K / (d1 : Int)) (hh 12 (by simp)) rfl (hh 13 (by simp)) rfl (hh 11 (by simp)) rfl
  simp only [fillT, Nat.zero_add, Nat.reduceAdd, sA, sB, sC, e11]
  clear hh hap e11
  generalize ts 0 = u0_W3 at *
  generalize ts 1 = u1_W3 at *
  generalize ts 2 = u2_W3 at *
  generalize ts 3 = u3_W3 at *
  generalize ts 4 = u4_W3 at *
  generalize ts 5 = u5_W3 at *
  generalize ts 6 = u6_W3 at *
  generalize ts 7 = u7_W3 at *
  generalize ts 8 = u8_W3 at *
  generalize ts 9 = u9_W3 at *
  generalize ts 10 = u10_W3 at *
  generalize ts 11 = u11_W3 at *
  clear ts
  replace X0 := (hb3.block _ z0).trans X0
  replace z0 := Nat.lt_of_lt_of_le z0 hb3.size
  replace X1 := (hb3.block _ z1).trans X1
  replace z1 := Nat.lt_of_lt_of_le z1 hb3.size
  replace X10 := (hb3.block _ z10).trans X10
  replace z10 := Nat.lt_of_lt_of_le z10 hb3.size
  replace H10 := H10.below hb3
  replace B := below_trans B hb3
  clear hb3
  go_upto_region 7 with fail
  refine region_last [.val (kIs (.agg #[.bool q10, .slice A10 n10 c10])), .val (kIs (.agg #[.bool q11, .slice A11 n11 c11])), .val (kNat 1), .val (kIs (.int .i64 (K : Int))), .val (kNat (2 ^ K)), .val (kQ (x.flr K))]
    (by kernel_rfl) (by kernel_rfl) (by kernel_rfl) (by kernel_rfl) (by kernel_rfl) ⟨Stab.b (stab_is _), Stab.b (stab_is _), stabB_nat _, Stab.b (stab_is _), stabB_nat _, stabB_q _, trivial⟩ (by simp) (ol := _) rfl (by kernel_rfl) ⟨?_, ?_, ?_, ?_, ?_, ?_, trivial⟩ ?_
  · intro ts W hb hB hp; intro K hK; simp only [fillT, Nat.zero_add, Nat.reduceAdd, sA, sB, sC] at hK ⊢; have HK := hid hK; clear hK hp; obtain ⟨f0, f1, -, -⟩ := bx2 ((hb.block _ z10).trans X10); refine ⟨?_⟩; go_simp; exact HK.out _ _ rfl rfB
  · intro ts W hb hB hp; intro K hK; simp only [fillT, Nat.zero_add, Nat.reduceAdd, sA, sB, sC] at hK ⊢; have HK := hid hK; clear hK hp; obtain ⟨f0, f1, -, -⟩ := bx2 ((hb.block _ z11).trans X11); refine ⟨?_⟩; go_simp; exact HK.out _ _ rfl rfB
  · intro ts W hb hB hp; intro K hK; simp only [fillT, Nat.zero_add, Nat.reduceAdd, sA, sB, sC] at hK ⊢; have HK := hid hK; clear hK hp; refine ⟨?_⟩; exact wp_buildSlice rfl (by simp [Act.eval]) (one_runQ W) (HK.out _ _ (one_nat W) (below_alloc _ _))
  · exact obp
  · intro ts W hb hB hp; have h2 := hp 2 (by kernel_rfl); have h3 : ts 3 = _ := hp 3 (by kernel_rfl); intro K hK; simp only [fillT, Nat.zero_add, Nat.reduceAdd, sA, sB, sC, h3] at hK ⊢; have HK := hid hK; clear hK hp; refine ⟨?_⟩; go_simp; refine (HP.out W _ h2).mono ?_; rintro e W9 ⟨r9, rfl, hr9, hb9⟩; exact HK.out _ _ hr9 hb9
  · intro ts W hb hB hp; have h0 : ts 0 = _ := hp 0 (by kernel_rfl); have h1 : ts 1 = _ := hp 1 (by kernel_rfl); have h4 := hp 4 (by kernel_rfl); intro K hK; simp only [fillT, Nat.zero_add, Nat.reduceAdd, sA, sB, sC, h0, h1] at hK ⊢; have HK := hid hK; clear hK hp; refine ⟨?_⟩; go_simp; refine (HMk.out W _ _ _ (H10.below hb) (H11.below hb) h4).mono ?_; rintro e W9 ⟨r9, rfl, hr9, hb9⟩; exact HK.out _ _ hr9 hb9
  intro ts W5 hb5 hh hap K9 hK
  have hq : IsQ W5 (ts 5) (x.flr K) := hh 5 (by simp)
  obtain ⟨A9, n9, c9, p9, A9b, n9b, c9b, p9b, A9c, n9c, c9c, qa, qb, qd, hqe, -⟩ := hq.parts
  have Y0 := (hb5.block (w.heap.size + 1) (by omega)).trans X1
  have HK := hid hK
  clear hK
  simp only [fillT, Nat.zero_add, Nat.reduceAdd, sA, sB, sC, hqe]
  rw [hqe] at hq
  clear hh hap hqe
  refine ⟨?_⟩
  refine wp_store_row _ _ _ rfl (w.heap.size + 1) _ rfl rfl _ _ Y0 (by kernel_rfl) rfl (by simp [Value.oneCell']) (HK.out _ _ ?_)
  have hput := putAt_setRow (cs := #[.bool p9, .slice A9 n9 c9, .bool p9b, .slice A9b n9b c9b, .slice A9c n9c c9c]) Y0
  have hext := hput.ext Y0 (by decide)
  have B2 := hput.below (below_trans B hb5) (by omega)
  generalize W5.setRow (w.heap.size + 1) #[.bool p9, .slice A9 n9 c9, .bool p9b, .slice A9b n9b c9b, .slice A9c n9c c9c] = W6 at *
  have h5 := hq.ext hext
  obtain ⟨f0, f1, f2, f3, f4, y0, y1, y2, y3, y4⟩ := bx5 hput.here
  clear hput hext hq Y0 HK
  go_wp2
  refine bodyPost_ret (v := .agg #[.bool p9, .slice A9 n9 c9, .bool p9b, .slice A9b n9b c9b, .slice A9c n9c c9c]) (by simp [results, Tryz.results28, go_sem, f0, f1, f2, f3, f4]) rfl ?_
  exact ⟨_, rfl, h5, B2⟩
end Go.Proofs.YtccldiokpgjocaaGreatDoor
set_option linter.unusedSimpArgs false
set_option linter.unusedVariables false
namespace Go.Proofs.YtccldiokpgjocaaGreatDoor
open Go.RowKit
theorem shl_lt {n : Nat} (h : n ≤ 32) : 0 < 2 ^ n ∧ 2 ^ n ≤ 4294967296 := by
  refine ⟨two_pos n, ?_⟩
  have := Nat.pow_le_pow_right (n := 2) (by omega) h
  have e : (2 : Nat) ^ 32 = 4294967296 := by decide +kernel
  omega
theorem shl_one (n s : Nat) (h : s = 2 ^ n) (hl : 0 < 2 ^ n ∧ 2 ^ n ≤ 4294967296) : IntKind.i64.wrap ((2 : Int) ^ n) = (s : Int) := by
  rw [pow_int, ← h, IntKind.wrap_i64]
  rw [← h] at hl
  omega
theorem ofR_pow (s n : Nat) (h : s = 2 ^ n) : (ofR 1 0 (s : Int)).re * ((2 ^ n : Nat) : Rat) = 1 ∧ (ofR 1 0 (s : Int)).im = 0 := by
  have hp := two_pos n
  rw [← h] at hp ⊢
  have hs := natCast_ne hp
  unfold ofR
  rw [if_neg (by omega)]
  constructor
  · show ((1 : Int) : Rat) / (((s : Nat) : Int) : Rat) * _ = 1
    rw [Rat.intCast_natCast, Rat.div_mul_cancel hs]
    rfl
  · show ((0 : Int) : Rat) / _ = 0
    rw [Rat.div_def]
    exact Rat.zero_mul _
theorem step_eq {N na nb sa sb : Nat} (h : na + nb = N) (ha : sa = 2 ^ na) (hb : sb = 2 ^ nb) : ((ofR 1 0 (sa : Int)).mul (ofR 1 0 (sb : Int))).re * ((2 ^ N : Nat) : Rat) = 1 ∧ ((ofR 1 0 (sa : Int)).mul (ofR 1 0 (sb : Int))).im = 0 := by
  obtain ⟨a1, a2⟩ := ofR_pow sa na ha
  obtain ⟨b1, b2⟩ := ofR_pow sb nb hb
  have e : ((2 ^ N : Nat) : Rat) = ((2 ^ na : Nat) : Rat) * ((2 ^ nb : Nat) : Rat) := by rw [← h, Nat.pow_add, Rat.natCast_mul]
  constructor
  · show ((ofR 1 0 (sa : Int)).re * (ofR 1 0 (sb : Int)).re - (ofR 1 0 (sa : Int)).im * (ofR 1 0 (sb : Int)).im) * _ = 1
    rw [e, a2, b2]
    grind
  · show (ofR 1 0 (sa : Int)).re * (ofR 1 0 (sb : Int)).im + (ofR 1 0 (sa : Int)).im * (ofR 1 0 (sb : Int)).re = 0
    rw [a2, b2]
    grind
theorem rest_terms {p : Rat} {a : Int} {d : Nat} (hd : 0 < d) (h : p * (d : Rat) = (a : Rat)) (N : Nat) :
    (p - (flz p N : Rat) / ((2 ^ N : Nat) : Rat)) * ((d * 2 ^ N : Nat) : Rat) = ((a * 2 ^ N % (d : Int) : Int) : Rat) := by
  have hn := natCast_ne (two_pos N)
  have e := Int.mul_ediv_add_emod (a * 2 ^ N) (d : Int)
  rw [flz_of hd h N, pow_int] at e
  have e2 : (d : Rat) * (flz p N : Rat) + ((a * 2 ^ N % (d : Int) : Int) : Rat) = (a : Rat) * ((2 ^ N : Nat) : Rat) := by
    have := congrArg (fun z : Int => (z : Rat)) e
    simp only [Rat.intCast_add, Rat.intCast_mul, Rat.intCast_natCast] at this
    rw [pow_int]
    exact this
  rw [Rat.natCast_mul]
  have hc : (flz p N : Rat) / ((2 ^ N : Nat) : Rat) * ((2 ^ N : Nat) : Rat) = (flz p N : Rat) := Rat.div_mul_cancel hn
  generalize (flz p N : Rat) / ((2 ^ N : Nat) : Rat) = g at *
  generalize ((2 ^ N : Nat) : Rat) = t at *
  grind
theorem cmp_nonneg {p : Rat} {r : Int} {m : Nat} (hm : 0 < m) (h : p * (m : Rat) = (r : Rat)) (hr : 0 ≤ r) : 0 ≤ cmpC ⟨p, 0⟩ (.int 0) := by
  have h1 : sgnR (p - ((0 : Int) : Rat)) = cmpI (r * ((1 : Nat) : Int)) (0 * (m : Int)) := sub_sgn hm (by omega) h (by simp)
  have h2 : sgnR ((0 : Rat) - 0) = 0 := by decide +kernel
  unfold cmpC
  rw [show (Cx.int 0).re = ((0 : Int) : Rat) from rfl, show (Cx.int 0).im = 0 from rfl, h1, h2]
  unfold cmpI
  split
  · split <;> (try split) <;> omega
  · omega
theorem cmp_less {p : Rat} {r : Int} {m N : Nat} {S : Cx} (hm : 0 < m) (h : p * ((m * 2 ^ N : Nat) : Rat) = (r : Rat)) (hr : r < (m : Int)) (hS : S.re * ((2 ^ N : Nat) : Rat) = 1) : cmpC ⟨p, 0⟩ S < 0 := by
  have h1 : sgnR (p - S.re) = cmpI (r * ((2 ^ N : Nat) : Int)) (1 * ((m * 2 ^ N : Nat) : Int)) := sub_sgn (Nat.mul_pos hm (two_pos N)) (two_pos N) h (by rw [hS]; rfl)
  have hlt : r * ((2 ^ N : Nat) : Int) < 1 * ((m * 2 ^ N : Nat) : Int) := by
    rw [Int.one_mul, Int.natCast_mul]
    exact Int.mul_lt_mul_of_pos_right hr (by have := two_pos N; omega)
  unfold cmpC
  rw [h1]
  unfold cmpI
  rw [if_pos hlt, if_pos (by decide)]
  decide
theorem flz_int (z : Int) : flz (z : Rat) 0 = z := by
  unfold flz
  simp
theorem floor_law {x S : Cx} {N : Nat} (hS : S.re * ((2 ^ N : Nat) : Rat) = 1 ∧ S.im = 0) :
    0 ≤ cmpC (x.sub (x.flr N)).real (.int 0) ∧ 0 ≤ cmpC (x.sub (x.flr N)).imag (.int 0) ∧ cmpC (x.sub (x.flr N)).real S < 0 ∧ cmpC (x.sub (x.flr N)).imag S < 0 ∧ ((x.flr N).div S).flr (kcl 0) = (x.flr N).div S ∧ S ≠ .zero := by
  obtain ⟨a, b, d, hl⟩ := Low.ex x
  have r1 := rest_terms hl.pos hl.2.2.1 N
  have r2 := rest_terms hl.pos hl.2.2.2 N
  have hd : 0 < d * 2 ^ N := Nat.mul_pos hl.pos (two_pos N)
  have hd0 : (d : Int) ≠ 0 := by have := hl.pos; omega
  have hdp : (0 : Int) < (d : Int) := by have := hl.pos; omega
  refine ⟨cmp_nonneg hd r1 (Int.emod_nonneg _ hd0), cmp_nonneg hd r2 (Int.emod_nonneg _ hd0), cmp_less hl.pos r1 (Int.emod_lt_of_pos _ hdp) hS.1, cmp_less hl.pos r2 (Int.emod_lt_of_pos _ hdp) hS.1, ?_, ?_⟩
  · have hk : kcl 0 = 0 := by decide
    have hn := natCast_ne (two_pos N)
    have hre : S.re ≠ 0 := fun e => by
      have := hS.1
      rw [e, Rat.zero_mul] at this
      exact absurd this (by decide)
    have hq : ∀ F : Int, (F : Rat) / ((2 ^ N : Nat) : Rat) * (S.re / (S.re * S.re)) = (F : Rat) := fun F => by
      have e1 : (F : Rat) / ((2 ^ N : Nat) : Rat) * ((2 ^ N : Nat) : Rat) = (F : Rat) := Rat.div_mul_cancel hn
      have e2 : S.re / (S.re * S.re) * (S.re * S.re) = S.re := Rat.div_mul_cancel (fun e => by rcases Rat.mul_eq_zero.1 e with e | e <;> exact hre e)
      have e3 := hS.1
      generalize (F : Rat) / ((2 ^ N : Nat) : Rat) = f at *
      generalize S.re / (S.re * S.re) = g at *
      grind
    have hw : (x.flr N).div S = ⟨(flz x.re N : Rat), (flz x.im N : Rat)⟩ := by
      unfold Cx.div Cx.mul Cx.inv Cx.nrm Cx.flr
      rw [hS.2]
      have e0 : -(0 : Rat) / (S.re * S.re + 0 * 0) = 0 := by rw [Rat.div_def]; grind
      have e1 : S.re * S.re + 0 * 0 = S.re * S.re := by grind
      have q1 := hq (flz x.re N)
      have q2 := hq (flz x.im N)
      refine Cx.ext ?_ ?_
      · show _ * (S.re / (S.re * S.re + 0 * 0)) - _ * (-(0 : Rat) / (S.re * S.re + 0 * 0)) = _
        rw [e0, e1, q1]
        grind
      · show _ * (-(0 : Rat) / (S.re * S.re + 0 * 0)) + _ * (S.re / (S.re * S.re + 0 * 0)) = _
        rw [e0, e1, q2]
        grind
    rw [hw, hk]
    refine Cx.ext ?_ ?_
    · show (flz (flz x.re N : Rat) 0 : Rat) / ((2 ^ 0 : Nat) : Rat) = _
      rw [flz_int, Nat.pow_zero]
      grind
    · show (flz (flz x.im N : Rat) 0 : Rat) / ((2 ^ 0 : Nat) : Rat) = _
      rw [flz_int, Nat.pow_zero]
      grind
  · intro e
    have := hS.1
    rw [e] at this
    rw [show Cx.zero.re = 0 from rfl, Rat.zero_mul] at this
    exact absurd this (by decide)
end Go.Proofs.YtccldiokpgjocaaGreatDoor
