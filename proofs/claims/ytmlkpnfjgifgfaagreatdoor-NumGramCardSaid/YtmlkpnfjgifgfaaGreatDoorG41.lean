/- Walks of matrices of numbers: firstClear, hermitian. -/
import Derived.Test.YtmlkpnfjgifgfaaGreatDoorG40
set_option linter.unusedSimpArgs false
set_option linter.unusedVariables false
namespace Go.Proofs.YtmlkpnfjgifgfaaGreatDoor
open Go.RowKit
set_option maxRecDepth 100000

set_option maxHeartbeats 2000000 in
theorem firstClearN_none (w : World) (g n c : Nat) (f : Nat → Cx) (hX : NBlk w g n f) (hn : n ≤ 1073741824) (hc : c ≤ n) (hz : ∀ k, c ≤ k → k < n → f k = .zero) :
    Calls Tryz.prog 58 #[.slice (some ⟨g, 0, none⟩) n n, .int .i64 c] w fun e w' => e = .returned (.int .i64 (-1)) ∧ Below w.heap.size w w' := by
  have HX0 := Lib.hid hX
  have HZ := Lib.hid hz
  clear hX hz
  go_enter Tryz.func58, Tryz.ntmps58
  go_wp2
  go_loopw [5] (fun j wr => ∃ k : Nat, j = .int .i64 k ∧ c ≤ k ∧ k ≤ n ∧ Below w.heap.size w wr) (fun j _ => n - (intOf j).toNat)
  case atStart => exact ⟨c, rfl, by omega, hc, Below.refl _ _⟩
  case round =>
    obtain ⟨k, rfl, hfk, hkn, hB⟩ := hrel
    have KB := Lib.hid hB
    have HX := Lib.hid (HX0.out.below hB)
    clear hB
    by_cases hk : k < n
    · go_upto_region 4 with fail
      refine region_lin [.val (kIs (.slice (some ⟨g, 0, none⟩) n n)), .val (kIs (.int .i64 (k : Int))), .val (kIs (.pointer (some ⟨g, 5 * k, none⟩))), .val (kNum (f k)), .val (kIs (.bool false))]
        (by kernel_rfl) (by kernel_rfl) (by kernel_rfl) (by kernel_rfl) (by kernel_rfl) ⟨Stab.b (stab_is _), Stab.b (stab_is _), Stab.b (stab_is _), Stab.b (stab_num _), Stab.b (stab_is _), trivial⟩ (by simp) ⟨?_, ?_, ?_, ?_, ?_, trivial⟩ ?_
      · intro ts W hb hB hp; intro K hK; simp only [fillT, Nat.zero_add, Nat.reduceAdd, List.setIfInBounds_toArray, List.set_cons_zero, List.set_cons_succ] at hK ⊢; have HK := Lib.hid hK; clear hK hp; refine ⟨?_⟩; go_simp; exact HK.out _ _ rfl (Below.refl _ _)
      · intro ts W hb hB hp; intro K hK; simp only [fillT, Nat.zero_add, Nat.reduceAdd, List.setIfInBounds_toArray, List.set_cons_zero, List.set_cons_succ] at hK ⊢; have HK := Lib.hid hK; clear hK hp; refine ⟨?_⟩; go_simp; exact HK.out _ _ rfl (Below.refl _ _)
      · intro ts W hb hB hp; have h0 : ts 0 = _ := hp 0 (by kernel_rfl); have h1 : ts 1 = _ := hp 1 (by kernel_rfl); intro K hK; simp only [fillT, Nat.zero_add, Nat.reduceAdd, List.setIfInBounds_toArray, List.set_cons_zero, List.set_cons_succ, h0, h1] at hK ⊢; have HK := Lib.hid hK; clear hK hp; refine ⟨?_⟩; go_simp; exact HK.out _ _ (by simp [kIs, Nat.mul_comm]) (Below.refl _ _)
      · intro ts W hb hB hp; have h2 : ts 2 = _ := hp 2 (by kernel_rfl); intro K hK; simp only [fillT, Nat.zero_add, Nat.reduceAdd, List.setIfInBounds_toArray, List.set_cons_zero, List.set_cons_succ, h2] at hK ⊢; have HK := Lib.hid hK; clear hK hp; refine ⟨?_⟩; refine wp_load_elem rfl rfl (HX.out.below hb) hk (fun v hv => HK.out _ _ (hv) (Below.refl _ _))
      · intro ts W hb hB hp; have h3 : IsNum W (ts 3) (f k) := hp 3 (by kernel_rfl); intro K hK; simp only [fillT, Nat.zero_add, Nat.reduceAdd, List.setIfInBounds_toArray, List.set_cons_zero, List.set_cons_succ] at hK ⊢; have HK := Lib.hid hK; clear hK hp; refine ⟨?_⟩; go_simp; refine (clearN_k _ (f k) W h3 (clear_f (HZ.out k hfk hk))).mono ?_; rintro e W9 ⟨rfl, hb9⟩; exact HK.out _ _ rfl hb9
      intro ts W2 hb2 hh hap
      have e4 := held_is (hh 4 (by simp)) rfl
      simp only [fillT, Nat.zero_add, Nat.reduceAdd, List.setIfInBounds_toArray, List.set_cons_zero, List.set_cons_succ, e4]
      clear hh hap e4
      generalize ts 0 = u0_W2 at *
      generalize ts 1 = u1_W2 at *
      generalize ts 2 = u2_W2 at *
      generalize ts 3 = u3_W2 at *
      clear ts
      have KB2 := Lib.hid (below_trans KB.out hb2)
      clear hb2 HX KB
      go_wp2
      go_roundw
      case rel => exact ⟨k + 1, by go_num, by omega, by omega, KB2.out⟩
      case measure => simp [intOf]; omega
    · obtain rfl : n = k := by omega
      go_wp2
      go_ret
      exact ⟨rfl, KB.out⟩
set_option maxHeartbeats 4000000 in
theorem hermitianN_true (w : World) (ga : Nat) (gi : Nat → Nat) (n s : Nat) (F : Nat → Nat → Cx) (hA : MatAt w ga gi n n F) (hn1 : n ≤ 1073741824) (hS : ∀ a b, Sz (F a b) s) (hs : s < 549755813888) (hE : ∀ a b, a < n → b < n → F a b = (F b a).conj) :
    Calls Tryz.prog 55 #[.slice (some ⟨ga, 0, none⟩) n n] w fun e w' => e = .returned (.bool true) ∧ Below w.heap.size w w' := by
  have HA0 := Lib.hid hA
  have HS := Lib.hid hS
  have HE := Lib.hid hE
  clear hA hS hE
  go_enter Tryz.func55, Tryz.ntmps55
  go_wp2
  go_loopw [8] (fun j wr => ∃ i : Nat, j = .int .i64 i ∧ i ≤ n ∧ Below w.heap.size w wr) (fun j _ => n - (intOf j).toNat)
  case atStart => exact ⟨0, rfl, by omega, Below.refl _ _⟩
  case round =>
    obtain ⟨i, rfl, hin, hB⟩ := hrel
    have KB0 := Lib.hid hB
    have hA1 := HA0.out.below hB
    clear hB
    by_cases hi : i < n
    · have hrow := hA1.cell hi
      clear hA1
      go_wp2
      clear hrow
      go_loopw [5] (fun j wr => ∃ k : Nat, j = .int .i64 k ∧ k ≤ i + 1 ∧ Below w.heap.size w wr) (fun j _ => i + 1 - (intOf j).toNat)
      case atStart => exact ⟨0, rfl, by omega, KB0.out⟩
      case round =>
        clear KB0
        rename_i wr1
        obtain ⟨k, rfl, hki, hB⟩ := hrel
        have KB := Lib.hid hB
        have HA := Lib.hid (HA0.out.below hB)
        clear hB
        by_cases hk : k ≤ i
        · have hkn : k < n := by omega
          go_upto_region 7 with fail
          refine region_lin [.val (kIs (.slice (some ⟨(gi i), 0, none⟩) n n)), .val (kIs (.int .i64 (k : Int))), .val (kIs (.pointer (some ⟨(gi i), 5 * k, none⟩))), .val (kNum (F i k)), .val (kIs (.slice (some ⟨ga, 0, none⟩) n n)), .val (kIs (.int .i64 (k : Int))), .val (kIs (.pointer (some ⟨ga, k, none⟩))), .val (kIs (.slice (some ⟨gi k, 0, none⟩) n n)), .val (kIs (.int .i64 (i : Int))), .val (kIs (.pointer (some ⟨(gi k), 5 * i, none⟩))), .val (kNum (F k i)), .val (kNum ((F k i).conj)), .val (kIs (.bool true)), .val (kIs (.bool false))]
            (by kernel_rfl) (by kernel_rfl) (by kernel_rfl) (by kernel_rfl) (by kernel_rfl) ⟨Stab.b (stab_is _), Stab.b (stab_is _), Stab.b (stab_is _), Stab.b (stab_num _), Stab.b (stab_is _), Stab.b (stab_is _), Stab.b (stab_is _), Stab.b (stab_is _), Stab.b (stab_is _), Stab.b (stab_is _), Stab.b (stab_num _), Stab.b (stab_num _), Stab.b (stab_is _), Stab.b (stab_is _), trivial⟩ (by simp) ⟨?_, ?_, ?_, ?_, ?_, ?_, ?_, ?_, ?_, ?_, ?_, ?_, ?_, ?_, trivial⟩ ?_
          · intro ts W hb hB hp; intro K hK; simp only [fillT, Nat.zero_add, Nat.reduceAdd, List.setIfInBounds_toArray, List.set_cons_zero, List.set_cons_succ] at hK ⊢; have HK := Lib.hid hK; clear hK hp; refine ⟨?_⟩; go_simp; exact HK.out _ _ rfl (Below.refl _ _)
          · intro ts W hb hB hp; intro K hK; simp only [fillT, Nat.zero_add, Nat.reduceAdd, List.setIfInBounds_toArray, List.set_cons_zero, List.set_cons_succ] at hK ⊢; have HK := Lib.hid hK; clear hK hp; refine ⟨?_⟩; go_simp; exact HK.out _ _ rfl (Below.refl _ _)
          · intro ts W hb hB hp; have h0 : ts 0 = _ := hp 0 (by kernel_rfl); have h1 : ts 1 = _ := hp 1 (by kernel_rfl); intro K hK; simp only [fillT, Nat.zero_add, Nat.reduceAdd, List.setIfInBounds_toArray, List.set_cons_zero, List.set_cons_succ, h0, h1] at hK ⊢; have HK := Lib.hid hK; clear hK hp; refine ⟨?_⟩; go_simp; exact HK.out _ _ (by simp [kIs, Nat.mul_comm]) (Below.refl _ _)
          · intro ts W hb hB hp; have h2 : ts 2 = _ := hp 2 (by kernel_rfl); intro K hK; simp only [fillT, Nat.zero_add, Nat.reduceAdd, List.setIfInBounds_toArray, List.set_cons_zero, List.set_cons_succ, h2] at hK ⊢; have HK := Lib.hid hK; clear hK hp; refine ⟨?_⟩; refine wp_load_elem rfl rfl ((HA.out.row hi).below hb) hkn (fun v hv => HK.out _ _ (hv) (Below.refl _ _))
          · intro ts W hb hB hp; intro K hK; simp only [fillT, Nat.zero_add, Nat.reduceAdd, List.setIfInBounds_toArray, List.set_cons_zero, List.set_cons_succ] at hK ⊢; have HK := Lib.hid hK; clear hK hp; refine ⟨?_⟩; go_simp; exact HK.out _ _ rfl (Below.refl _ _)
          · intro ts W hb hB hp; intro K hK; simp only [fillT, Nat.zero_add, Nat.reduceAdd, List.setIfInBounds_toArray, List.set_cons_zero, List.set_cons_succ] at hK ⊢; have HK := Lib.hid hK; clear hK hp; refine ⟨?_⟩; go_simp; exact HK.out _ _ rfl (Below.refl _ _)
          · intro ts W hb hB hp; have h4 : ts 4 = _ := hp 4 (by kernel_rfl); have h5 : ts 5 = _ := hp 5 (by kernel_rfl); intro K hK; simp only [fillT, Nat.zero_add, Nat.reduceAdd, List.setIfInBounds_toArray, List.set_cons_zero, List.set_cons_succ, h4, h5] at hK ⊢; have HK := Lib.hid hK; clear hK hp; refine ⟨?_⟩; go_simp; exact HK.out _ _ rfl (Below.refl _ _)
          · intro ts W hb hB hp; have h6 : ts 6 = _ := hp 6 (by kernel_rfl); intro K hK; simp only [fillT, Nat.zero_add, Nat.reduceAdd, List.setIfInBounds_toArray, List.set_cons_zero, List.set_cons_succ, h6] at hK ⊢; have HK := Lib.hid hK; clear hK hp; have hcell := (HA.out.below hb).cell hkn; refine ⟨?_⟩; go_simp; exact HK.out _ _ rfl (Below.refl _ _)
          · intro ts W hb hB hp; intro K hK; simp only [fillT, Nat.zero_add, Nat.reduceAdd, List.setIfInBounds_toArray, List.set_cons_zero, List.set_cons_succ] at hK ⊢; have HK := Lib.hid hK; clear hK hp; refine ⟨?_⟩; go_simp; exact HK.out _ _ rfl (Below.refl _ _)
          · intro ts W hb hB hp; have h7 : ts 7 = _ := hp 7 (by kernel_rfl); have h8 : ts 8 = _ := hp 8 (by kernel_rfl); intro K hK; simp only [fillT, Nat.zero_add, Nat.reduceAdd, List.setIfInBounds_toArray, List.set_cons_zero, List.set_cons_succ, h7, h8] at hK ⊢; have HK := Lib.hid hK; clear hK hp; refine ⟨?_⟩; go_simp; exact HK.out _ _ (by simp [kIs, Nat.mul_comm]) (Below.refl _ _)
          · intro ts W hb hB hp; have h9 : ts 9 = _ := hp 9 (by kernel_rfl); intro K hK; simp only [fillT, Nat.zero_add, Nat.reduceAdd, List.setIfInBounds_toArray, List.set_cons_zero, List.set_cons_succ, h9] at hK ⊢; have HK := Lib.hid hK; clear hK hp; refine ⟨?_⟩; refine wp_load_elem rfl rfl ((HA.out.row hkn).below hb) hi (fun v hv => HK.out _ _ (hv) (Below.refl _ _))
          · intro ts W hb hB hp; have h10 : IsNum W (ts 10) (F k i) := hp 10 (by kernel_rfl); intro K hK; simp only [fillT, Nat.zero_add, Nat.reduceAdd, List.setIfInBounds_toArray, List.set_cons_zero, List.set_cons_succ] at hK ⊢; have HK := Lib.hid hK; clear hK hp; refine ⟨?_⟩; go_simp; refine (conjN_any _ (F k i) W h10).mono ?_; rintro e W9 ⟨r9, rfl, hr9, hb9⟩; exact HK.out _ _ hr9 hb9
          · intro ts W hb hB hp; have h3 : IsNum W (ts 3) (F i k) := hp 3 (by kernel_rfl); have h11 : IsNum W (ts 11) ((F k i).conj) := hp 11 (by kernel_rfl); intro K hK; simp only [fillT, Nat.zero_add, Nat.reduceAdd, List.setIfInBounds_toArray, List.set_cons_zero, List.set_cons_succ] at hK ⊢; have HK := Lib.hid hK; clear hK hp; refine ⟨?_⟩; go_simp; refine (sameN_k _ _ (F i k) ((F k i).conj) W h3 h11 s (HS.out _ _) (Sz.conj (HS.out _ _)) (by omega) (same_t (HE.out i k hi hkn))).mono ?_; rintro e W9 ⟨rfl, hb9⟩; exact HK.out _ _ rfl hb9
          · intro ts W hb hB hp; have h12 : ts 12 = _ := hp 12 (by kernel_rfl); intro K hK; simp only [fillT, Nat.zero_add, Nat.reduceAdd, List.setIfInBounds_toArray, List.set_cons_zero, List.set_cons_succ, h12] at hK ⊢; have HK := Lib.hid hK; clear hK hp; refine ⟨?_⟩; go_simp; exact HK.out _ _ rfl (Below.refl _ _)
          intro ts W3 hb3 hh hap
          have e13 := held_is (hh 13 (by simp)) rfl
          simp only [fillT, Nat.zero_add, Nat.reduceAdd, List.setIfInBounds_toArray, List.set_cons_zero, List.set_cons_succ, e13]
          clear hh hap e13
          generalize ts 0 = u0_W3 at *
          generalize ts 1 = u1_W3 at *
          generalize ts 2 = u2_W3 at *
          generalize ts 3 = u3_W3 at *
          generalize ts 4 = u4_W3 at *
          generalize ts 5 = u5_W3 at *
          generalize ts 6 = u6_W3 at *
          generalize ts 7 = u7_W3 at *
          generalize ts 8 = u8_W3 at *
          generalize ts 9 = u9_W3 at *
          generalize ts 10 = u10_W3 at *
          generalize ts 11 = u11_W3 at *
          generalize ts 12 = u12_W3 at *
          clear ts
          have KB3 := Lib.hid (below_trans KB.out hb3)
          clear hb3 HA KB
          go_wp2
          go_roundw
          case rel => exact ⟨k + 1, by go_num, by omega, KB3.out⟩
          case measure => simp [intOf]; omega
        · go_wp2
          go_roundw
          case rel => exact ⟨i + 1, by go_num, by omega, KB.out⟩
          case measure => simp [intOf]; omega
    · obtain rfl : n = i := by omega
      clear hA1
      go_wp2
      go_ret
      exact ⟨rfl, KB0.out⟩
end Go.Proofs.YtmlkpnfjgifgfaaGreatDoor
