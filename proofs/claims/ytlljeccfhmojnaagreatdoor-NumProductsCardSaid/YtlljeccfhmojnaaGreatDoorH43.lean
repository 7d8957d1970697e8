import Derived.Test.YtlljeccfhmojnaaGreatDoorH30
import Derived.Test.YtlljeccfhmojnaaGreatDoorH42
set_option linter.unusedSimpArgs false
set_option linter.unusedVariables false
namespace Go.Proofs.YtlljeccfhmojnaaGreatDoor
open Go.RowKit
set_option maxRecDepth 100000
/-- The matrix out of which rows i and below are still 0, and of row k nothing behind. -/
def uptoA (Q : Nat → Nat → Cx) (i k : Nat) : Nat → Nat → Cx := fun a b => if b < i ∨ b = i ∧ a < k then Q a b else .zero
theorem uptoA_next (Q : Nat → Nat → Cx) (i k : Nat) : upm (uptoA Q i k) k i (Q k i) = uptoA Q i (k + 1) := by
  funext a b
  unfold upm upf uptoA
  by_cases h : a = k
  · subst h
    simp only [if_true]
    by_cases h2 : b = i
    · subst h2; simp
    · simp only [if_neg h2]
      by_cases h3 : b < i
      · rw [if_pos (.inl h3), if_pos (.inl h3)]
      · rw [if_neg (by omega), if_neg (by omega)]
  · simp only [if_neg h]
    by_cases h2 : b < i ∨ b = i ∧ a < k
    · rw [if_pos h2, if_pos (by omega)]
    · rw [if_neg h2, if_neg (by omega)]
set_option maxHeartbeats 4000000 in
theorem rAdjoint_ok (w : World) (ga : Nat) (gi : Nat → Nat) (n m ca : Nat) (F : Nat → Nat → Cx) (hA : MatQ w ga gi n m F) (hn : 0 < n) (hn1 : n ≤ 32) (hm1 : m ≤ 32) :
    Calls Tryz.prog 51 #[.slice (some ⟨ga, 0, none⟩) n ca] w fun e w' => ∃ go gk, e = .returned (.tuple #[.slice (some ⟨go, 0, none⟩) m m, .int .i64 0]) ∧ MatQ w' go gk m n (adjM F) ∧ Below w.heap.size w w' := by
  have HV1 := Lib.hid (fun W (hb : Below w.heap.size w W) => rValid_any W _ n _ F ((hA.below hb).qss ca) (by omega) (fun _ _ => by omega))
  have HC1 := Lib.hid (fun W (hb : Below w.heap.size w W) => rColumns_any W _ n _ F ((hA.below hb).qss ca))
  rw [if_neg (by omega)] at HC1
  have HZ := Lib.hid (fun W => rZeros_any W m n (by omega) (by omega))
  have v1 : Vld n (fun _ => m) := ⟨hn1, fun _ _ => ⟨rfl, hm1⟩⟩
  have V1 := Lib.hid v1
  have HA := Lib.hid hA
  obtain ⟨Q, hQ⟩ : ∃ Q, Q = adjM F := ⟨_, rfl⟩
  rw [← hQ]
  have HQ := Lib.hid hQ
  clear hA v1 hQ
  go_enter Tryz.func51, Tryz.ntmps51
  go_wp2_with fail
  refine (HV1.out w (Below.refl _ _)).mono ?_
  rintro e W2 ⟨b, rfl, hb1, hb2⟩
  obtain rfl : b = true := hb1.2 V1.out
  clear hb1
  go_wp2_with fail
  refine (HC1.out W2 hb2).mono ?_
  rintro e W4 ⟨rfl, rfl⟩
  go_wp2_with fail
  refine (HZ.out W2).mono ?_
  rintro e W4 ⟨g3, rfl, hM, hS, hb5⟩
  have hlo : w.heap.size ≤ W2.heap.size := hb2.size
  have KB0 := Lib.hid (below_trans hb2 hb5)
  have HM0 := Lib.hid (hM.congr (F' := uptoA Q 0 0) fun a b _ _ => (if_neg (by omega) : uptoA Q 0 0 a b = .zero).symm)
  have HSep := Lib.hid hS
  clear hb2 hb5 hM hS
  obtain ⟨go3, hgo3⟩ : ∃ g, W2.heap.size = g := ⟨_, rfl⟩
  rw [hgo3] at HM0 HSep hlo
  simp only [hgo3]
  clear hgo3
  go_wp2_with fail
  go_loopw [5] (fun iv wr => ∃ i : Nat, iv = .int .i64 (i : Int) ∧ i ≤ n ∧ Below w.heap.size w wr ∧ MatQ wr go3 g3 m n (uptoA Q i 0)) (fun iv _ => n - (intOf iv).toNat)
  case atStart => exact ⟨0, rfl, by omega, KB0.out, HM0.out⟩
  case round =>
    clear KB0 HM0
    obtain ⟨i, rfl, hin, hB, hM⟩ := hrel
    have KB := Lib.hid hB
    have HM := Lib.hid hM
    clear hB hM
    by_cases hi : i < n
    · have hi0 : (0 : Int) ≤ (i : Int) := by omega
      have hi1 : (i : Int) < (n : Int) := by omega
      go_wp2_with fail
      go_loopw [6] (fun kv wx => ∃ k : Nat, kv = .int .i64 (k : Int) ∧ k ≤ m ∧ Below w.heap.size w wx ∧ MatQ wx go3 g3 m n (uptoA Q i k)) (fun kv _ => m - (intOf kv).toNat)
      case atStart => exact ⟨0, rfl, by omega, KB.out, HM.out⟩
      case round =>
        clear KB HM
        obtain ⟨k, rfl, hkm, hB, hM⟩ := hrel
        have KB := Lib.hid hB
        have HM := Lib.hid hM
        clear hB hM
        have hcellA := (HA.out.below KB.out).cell hi
        by_cases hk : k < m
        · have hk0 : (0 : Int) ≤ (k : Int) := by omega
          have hk1 : (k : Int) < (m : Int) := by omega
          go_upto_region 10 with fail
          clear hcellA
          refine region_last [.val (kIs (.slice (some ⟨go3, 0, none⟩) m m)), .val (kIs (.int .i64 (k : Int))), .val (kIs (.pointer (some ⟨go3, k, none⟩))), .val (kIs (.slice (some ⟨g3 k, 0, none⟩) n n)), .val (kIs (.int .i64 (i : Int))), .val (kIs (.slice (some ⟨ga, 0, none⟩) n ca)), .val (kIs (.int .i64 (i : Int))), .val (kIs (.pointer (some ⟨ga, i, none⟩))), .val (kIs (.slice (some ⟨gi i, 0, none⟩) m m)), .val (kIs (.int .i64 (k : Int))), .val (kIs (.pointer (some ⟨gi i, 5 * k, none⟩))), .val (kQ (F i k)), .val (kQ ((F i k).conj)), .val (kIs (.pointer (some ⟨g3 k, 5 * i, none⟩)))]
            (by kernel_rfl) (by kernel_rfl) (by kernel_rfl) (by kernel_rfl) (by kernel_rfl) ⟨Stab.b (stab_is _), Stab.b (stab_is _), Stab.b (stab_is _), Stab.b (stab_is _), Stab.b (stab_is _), Stab.b (stab_is _), Stab.b (stab_is _), Stab.b (stab_is _), Stab.b (stab_is _), Stab.b (stab_is _), Stab.b (stab_is _), stabB_q _, stabB_q _, Stab.b (stab_is _), trivial⟩ (by simp) (ol := _) rfl (by kernel_rfl) ⟨?_, ?_, ?_, ?_, ?_, ?_, ?_, ?_, ?_, ?_, ?_, ?_, ?_, ?_, trivial⟩ ?_
          · exact obp
          · exact obp
          · intro ts W hb hB hp; have h0 : ts 0 = _ := hp 0 (by kernel_rfl); have h1 : ts 1 = _ := hp 1 (by kernel_rfl); intro K hK; simp only [fillT, Nat.zero_add, Nat.reduceAdd, sA, sB, sC, h0, h1] at hK ⊢; have HK := Lib.hid hK; clear hK hp; refine ⟨?_⟩; go_simp; exact HK.out _ _ rfl (Below.refl _ _)
          · intro ts W hb hB hp; have h2 : ts 2 = _ := hp 2 (by kernel_rfl); intro K hK; simp only [fillT, Nat.zero_add, Nat.reduceAdd, sA, sB, sC, h2] at hK ⊢; have HK := Lib.hid hK; clear hK hp; have hcell := (HM.out.below hb).cell hk; refine ⟨?_⟩; go_simp; exact HK.out _ _ rfl (Below.refl _ _)
          · exact obp
          · exact obp
          · exact obp
          · intro ts W hb hB hp; have h5 : ts 5 = _ := hp 5 (by kernel_rfl); have h6 : ts 6 = _ := hp 6 (by kernel_rfl); intro K hK; simp only [fillT, Nat.zero_add, Nat.reduceAdd, sA, sB, sC, h5, h6] at hK ⊢; have HK := Lib.hid hK; clear hK hp; refine ⟨?_⟩; go_simp; exact HK.out _ _ rfl (Below.refl _ _)
          · intro ts W hb hB hp; have h7 : ts 7 = _ := hp 7 (by kernel_rfl); intro K hK; simp only [fillT, Nat.zero_add, Nat.reduceAdd, sA, sB, sC, h7] at hK ⊢; have HK := Lib.hid hK; clear hK hp; have hcell := ((HA.out.below KB.out).below hb).cell hi; refine ⟨?_⟩; go_simp; exact HK.out _ _ rfl (Below.refl _ _)
          · exact obp
          · intro ts W hb hB hp; have h8 : ts 8 = _ := hp 8 (by kernel_rfl); have h9 : ts 9 = _ := hp 9 (by kernel_rfl); intro K hK; simp only [fillT, Nat.zero_add, Nat.reduceAdd, sA, sB, sC, h8, h9] at hK ⊢; have HK := Lib.hid hK; clear hK hp; refine ⟨?_⟩; go_simp; exact HK.out _ _ (by simp [kIs, Nat.mul_comm]) (Below.refl _ _)
          · intro ts W hb hB hp; have h10 : ts 10 = _ := hp 10 (by kernel_rfl); intro K hK; simp only [fillT, Nat.zero_add, Nat.reduceAdd, sA, sB, sC, h10] at hK ⊢; have HK := Lib.hid hK; clear hK hp; refine ⟨?_⟩; refine wp_load_qe rfl rfl (((HA.out.below KB.out).below hb).row hi) hk trivial (fun v hv => HK.out _ _ hv (Below.refl _ _))
          · intro ts W hb hB hp; have h11 := hp 11 (by kernel_rfl); intro K hK; simp only [fillT, Nat.zero_add, Nat.reduceAdd, sA, sB, sC] at hK ⊢; have HK := Lib.hid hK; clear hK hp; refine ⟨?_⟩; go_simp; refine (rConj_any _ _ W h11).mono ?_; rintro e W9 ⟨r9, rfl, hr9, hb9⟩; exact HK.out _ _ hr9 hb9
          · intro ts W hb hB hp; have h3 : ts 3 = _ := hp 3 (by kernel_rfl); have h4 : ts 4 = _ := hp 4 (by kernel_rfl); intro K hK; simp only [fillT, Nat.zero_add, Nat.reduceAdd, sA, sB, sC, h3, h4] at hK ⊢; have HK := Lib.hid hK; clear hK hp; refine ⟨?_⟩; go_simp; exact HK.out _ _ (by simp [kIs, Nat.mul_comm]) (Below.refl _ _)
          intro ts W3 hb3 hh hap K hK
          have h9 := held_q (hh 12 (by simp)) rfl
          have e9 := held_is (hh 13 (by simp)) rfl
          have HK := Lib.hid hK
          clear hK hh hap
          simp only [fillT, Nat.zero_add, Nat.reduceAdd, sA, sB, sC, e9]
          refine ⟨?_⟩
          refine wp_store_qe rfl (k := i) rfl rfl ((HM.out.below hb3).row hk) hi h9 (fun W4 hbut hext hrow => HK.out _ _ ?_)
          clear e9 h9
          have M3 := (HM.out.below hb3).set HSep.out hk hbut hext (hrow.to (V' := fun _ => True) (f' := upf (uptoA Q i k k) i ((F i k).conj)) fun _ _ _ => ⟨.inl trivial, rfl⟩)
          rw [show (F i k).conj = Q k i by rw [HQ.out]; rfl, uptoA_next] at M3
          have M4 := Lib.hid M3
          have B4 := Lib.hid (hbut.below (below_trans KB.out hb3) (Nat.le_trans hlo (HSep.out.los k hk)))
          clear hbut hext hrow hb3 M3 HM KB
          go_wp2
          go_roundw
          case rel => exact ⟨k + 1, by go_num, by omega, B4.out, M4.out⟩
          case measure => simp [intOf]; omega
        · obtain rfl : k = m := by omega
          have HM3 := Lib.hid (HM.out.congr (F' := uptoA Q (i + 1) 0) fun a b ha _ => by
            unfold uptoA
            by_cases h : b < i ∨ b = i ∧ a < k
            · rw [if_pos h, if_pos (by omega)]
            · rw [if_neg h, if_neg (by omega)])
          go_wp2
          go_roundw
          case rel => exact ⟨i + 1, by go_num, by omega, KB.out, HM3.out⟩
          case measure => simp [intOf]; omega
    · obtain rfl : i = n := by omega
      have HM3 := Lib.hid (HM.out.congr (F' := Q) fun a b _ hb => by unfold uptoA; rw [if_pos (.inl hb)])
      go_wp2
      go_ret2
      exact ⟨_, _, rfl, HM3.out, KB.out⟩
/-- The identity as far as row i. -/
def uptoI (i : Nat) : Nat → Nat → Cx := fun a b => if a = b ∧ a < i then Cx.int 1 else .zero
theorem uptoI_next (i : Nat) : upm (uptoI i) i i (Cx.int 1) = uptoI (i + 1) := by
  funext a b
  unfold upm upf uptoI
  by_cases h : a = i
  · subst h
    simp only [if_true]
    by_cases h2 : b = a
    · subst h2; simp
    · simp only [if_neg h2]
      rw [if_neg (by omega), if_neg (by omega)]
  · simp only [if_neg h]
    by_cases h2 : a = b ∧ a < i
    · rw [if_pos h2, if_pos (by omega)]
    · rw [if_neg h2, if_neg (by omega)]
set_option maxHeartbeats 2000000 in
theorem rIdentity_in (w : World) (N : Nat) (hN : N ≤ 32) :
    Calls Tryz.prog 54 #[.int .i64 (N : Int)] w fun e w' => ∃ go gk, e = .returned (.slice (some ⟨go, 0, none⟩) N N) ∧ MatQ w' go gk N N (uptoI N) ∧ Below w.heap.size w w' := by
  have HZ : Hid (∀ W, Calls Tryz.prog 102 #[.int .i64 (N : Int), .int .i64 (N : Int)] W fun e w' => ∃ gi, e = .returned (.slice (some ⟨W.heap.size, 0, none⟩) N N) ∧ MatQ w' W.heap.size gi N N (fun _ _ => .zero) ∧ MatSep W.heap.size W.heap.size gi N ∧ Below W.heap.size W w') := Lib.hid (fun W => rZeros_any W N N (by omega) (by omega))
  have HW := Lib.hid (fun W => rWhole_any 1 W (by omega) (by omega))
  go_enter Tryz.func54, Tryz.ntmps54
  go_wp2_with fail
  refine (HZ.out w).mono ?_
  rintro e W4 ⟨g3, rfl, hM, hS, hb5⟩
  have KB0 := Lib.hid hb5
  have HM0 := Lib.hid (hM.congr (F' := uptoI 0) fun a b _ _ => (if_neg (by omega) : uptoI 0 a b = .zero).symm)
  have HSep := Lib.hid hS
  clear hb5 hM hS
  have hlo : w.heap.size ≤ w.heap.size := Nat.le_refl _
  obtain ⟨go3, hgo3⟩ : ∃ g, w.heap.size = g := ⟨_, rfl⟩
  rw [hgo3] at HM0 HSep
  simp only [hgo3]
  have HGO := Lib.hid hgo3
  clear hgo3 hlo
  go_wp2_with fail
  go_loopw [4] (fun iv wr => ∃ i : Nat, iv = .int .i64 (i : Int) ∧ i ≤ N ∧ Below w.heap.size w wr ∧ MatQ wr go3 g3 N N (uptoI i)) (fun iv _ => N - (intOf iv).toNat)
  case atStart => exact ⟨0, rfl, by omega, KB0.out, HM0.out⟩
  case round =>
    clear KB0 HM0
    obtain ⟨i, rfl, hin, hB, hM⟩ := hrel
    have KB := Lib.hid hB
    have HM := Lib.hid hM
    clear hB hM
    by_cases hi : i < N
    · have hi0 : (0 : Int) ≤ (i : Int) := by omega
      have hi1 : (i : Int) < (N : Int) := by omega
      go_upto_region 9 with fail
      refine region_last [.val (kIs (.slice (some ⟨go3, 0, none⟩) N N)), .val (kIs (.int .i64 (i : Int))), .val (kIs (.pointer (some ⟨go3, i, none⟩))), .val (kIs (.slice (some ⟨g3 i, 0, none⟩) N N)), .val (kIs (.int .i64 (i : Int))), .val (kQ (Cx.int 1)), .val (kIs (.pointer (some ⟨g3 i, 5 * i, none⟩)))]
        (by kernel_rfl) (by kernel_rfl) (by kernel_rfl) (by kernel_rfl) (by kernel_rfl) ⟨Stab.b (stab_is _), Stab.b (stab_is _), Stab.b (stab_is _), Stab.b (stab_is _), Stab.b (stab_is _), stabB_q _, Stab.b (stab_is _), trivial⟩ (by simp) (ol := _) rfl (by kernel_rfl) ⟨?_, ?_, ?_, ?_, ?_, ?_, ?_, trivial⟩ ?_
      · exact obp
      · exact obp
      · intro ts W hb hB hp; have h0 : ts 0 = _ := hp 0 (by kernel_rfl); have h1 : ts 1 = _ := hp 1 (by kernel_rfl); intro K hK; simp only [fillT, Nat.zero_add, Nat.reduceAdd, sA, sB, sC, h0, h1] at hK ⊢; have HK := Lib.hid hK; clear hK hp; refine ⟨?_⟩; go_simp; exact HK.out _ _ rfl (Below.refl _ _)
      · intro ts W hb hB hp; have h2 : ts 2 = _ := hp 2 (by kernel_rfl); intro K hK; simp only [fillT, Nat.zero_add, Nat.reduceAdd, sA, sB, sC, h2] at hK ⊢; have HK := Lib.hid hK; clear hK hp; have hcell := (HM.out.below hb).cell hi; refine ⟨?_⟩; go_simp; exact HK.out _ _ rfl (Below.refl _ _)
      · exact obp
      · intro ts W hb hB hp; intro K hK; simp only [fillT, Nat.zero_add, Nat.reduceAdd, sA, sB, sC] at hK ⊢; have HK := Lib.hid hK; clear hK hp; refine ⟨?_⟩; go_simp; refine (HW.out W).mono ?_; rintro e W9 ⟨r9, rfl, hr9, hb9⟩; exact HK.out _ _ hr9 hb9
      · intro ts W hb hB hp; have h3 : ts 3 = _ := hp 3 (by kernel_rfl); have h4 : ts 4 = _ := hp 4 (by kernel_rfl); intro K hK; simp only [fillT, Nat.zero_add, Nat.reduceAdd, sA, sB, sC, h3, h4] at hK ⊢; have HK := Lib.hid hK; clear hK hp; refine ⟨?_⟩; go_simp; exact HK.out _ _ (by simp [kIs, Nat.mul_comm]) (Below.refl _ _)
      intro ts W3 hb3 hh hap K hK
      have h9 := held_q (hh 5 (by simp)) rfl
      have e9 := held_is (hh 6 (by simp)) rfl
      have HK := Lib.hid hK
      clear hK hh hap
      simp only [fillT, Nat.zero_add, Nat.reduceAdd, sA, sB, sC, e9]
      refine ⟨?_⟩
      refine wp_store_qe rfl (k := i) rfl rfl ((HM.out.below hb3).row hi) hi h9 (fun W4 hbut hext hrow => HK.out _ _ ?_)
      clear e9 h9
      have M3 := (HM.out.below hb3).set HSep.out hi hbut hext (hrow.to (V' := fun _ => True) (f' := upf (uptoI i i) i (Cx.int 1)) fun _ _ _ => ⟨.inl trivial, rfl⟩)
      rw [uptoI_next] at M3
      have M4 := Lib.hid M3
      have B4 := Lib.hid (hbut.below (below_trans KB.out hb3) (by rw [HGO.out]; exact HSep.out.los i hi))
      clear hbut hext hrow hb3 M3 HM KB
      go_wp2
      go_roundw
      case rel => exact ⟨i + 1, by go_num, by omega, B4.out, M4.out⟩
      case measure => simp [intOf]; omega
    · obtain rfl : i = N := by omega
      go_wp2
      go_ret
      exact ⟨_, _, rfl, HM.out, KB.out⟩
set_option maxHeartbeats 2000000 in
theorem rIdentity_big (w : World) (z : Int) (hz : 32 < z) :
    Calls Tryz.prog 54 #[.int .i64 z] w fun e w' => ∃ go gk, e = .returned (.slice (some ⟨go, 0, none⟩) 32 32) ∧ MatQ w' go gk 32 32 (uptoI 32) ∧ Below w.heap.size w w' := by
  have HZ : Hid (∀ W, Calls Tryz.prog 102 #[.int .i64 32, .int .i64 32] W fun e w' => ∃ gi, e = .returned (.slice (some ⟨W.heap.size, 0, none⟩) 32 32) ∧ MatQ w' W.heap.size gi 32 32 (fun _ _ => .zero) ∧ MatSep W.heap.size W.heap.size gi 32 ∧ Below W.heap.size W w') := Lib.hid (fun W => rZeros_any W 32 32 (by omega) (by omega))
  have HW := Lib.hid (fun W => rWhole_any 1 W (by omega) (by omega))
  have hz2 : ¬ z < 0 := by omega
  go_enter Tryz.func54, Tryz.ntmps54
  go_wp2_with fail
  refine (HZ.out w).mono ?_
  rintro e W4 ⟨g3, rfl, hM, hS, hb5⟩
  have KB0 := Lib.hid hb5
  have HM0 := Lib.hid (hM.congr (F' := uptoI 0) fun a b _ _ => (if_neg (by omega) : uptoI 0 a b = .zero).symm)
  have HSep := Lib.hid hS
  clear hb5 hM hS
  have hlo : w.heap.size ≤ w.heap.size := Nat.le_refl _
  obtain ⟨go3, hgo3⟩ : ∃ g, w.heap.size = g := ⟨_, rfl⟩
  rw [hgo3] at HM0 HSep
  simp only [hgo3]
  have HGO := Lib.hid hgo3
  clear hgo3 hlo
  go_wp2_with fail
  go_loopw [4] (fun iv wr => ∃ i : Nat, iv = .int .i64 (i : Int) ∧ i ≤ 32 ∧ Below w.heap.size w wr ∧ MatQ wr go3 g3 32 32 (uptoI i)) (fun iv _ => 32 - (intOf iv).toNat)
  case atStart => exact ⟨0, rfl, by omega, KB0.out, HM0.out⟩
  case round =>
    clear KB0 HM0
    obtain ⟨i, rfl, hin, hB, hM⟩ := hrel
    have KB := Lib.hid hB
    have HM := Lib.hid hM
    clear hB hM
    by_cases hi : i < 32
    · have hi0 : (0 : Int) ≤ (i : Int) := by omega
      have hi1 : (i : Int) < 32 := by omega
      go_upto_region 9 with fail
      refine region_last [.val (kIs (.slice (some ⟨go3, 0, none⟩) 32 32)), .val (kIs (.int .i64 (i : Int))), .val (kIs (.pointer (some ⟨go3, i, none⟩))), .val (kIs (.slice (some ⟨g3 i, 0, none⟩) 32 32)), .val (kIs (.int .i64 (i : Int))), .val (kQ (Cx.int 1)), .val (kIs (.pointer (some ⟨g3 i, 5 * i, none⟩)))]
        (by kernel_rfl) (by kernel_rfl) (by kernel_rfl) (by kernel_rfl) (by kernel_rfl) ⟨Stab.b (stab_is _), Stab.b (stab_is _), Stab.b (stab_is _), Stab.b (stab_is _), Stab.b (stab_is _), stabB_q _, Stab.b (stab_is _), trivial⟩ (by simp) (ol := _) rfl (by kernel_rfl) ⟨?_, ?_, ?_, ?_, ?_, ?_, ?_, trivial⟩ ?_
      · exact obp
      · exact obp
      · intro ts W hb hB hp; have h0 : ts 0 = _ := hp 0 (by kernel_rfl); have h1 : ts 1 = _ := hp 1 (by kernel_rfl); intro K hK; simp only [fillT, Nat.zero_add, Nat.reduceAdd, sA, sB, sC, h0, h1] at hK ⊢; have HK := Lib.hid hK; clear hK hp; refine ⟨?_⟩; go_simp; exact HK.out _ _ rfl (Below.refl _ _)
      · intro ts W hb hB hp; have h2 : ts 2 = _ := hp 2 (by kernel_rfl); intro K hK; simp only [fillT, Nat.zero_add, Nat.reduceAdd, sA, sB, sC, h2] at hK ⊢; have HK := Lib.hid hK; clear hK hp; have hcell := (HM.out.below hb).cell hi; refine ⟨?_⟩; go_simp; exact HK.out _ _ rfl (Below.refl _ _)
      · exact obp
      · intro ts W hb hB hp; intro K hK; simp only [fillT, Nat.zero_add, Nat.reduceAdd, sA, sB, sC] at hK ⊢; have HK := Lib.hid hK; clear hK hp; refine ⟨?_⟩; go_simp; refine (HW.out W).mono ?_; rintro e W9 ⟨r9, rfl, hr9, hb9⟩; exact HK.out _ _ hr9 hb9
      · intro ts W hb hB hp; have h3 : ts 3 = _ := hp 3 (by kernel_rfl); have h4 : ts 4 = _ := hp 4 (by kernel_rfl); intro K hK; simp only [fillT, Nat.zero_add, Nat.reduceAdd, sA, sB, sC, h3, h4] at hK ⊢; have HK := Lib.hid hK; clear hK hp; refine ⟨?_⟩; go_simp; exact HK.out _ _ (by simp [kIs, Nat.mul_comm]) (Below.refl _ _)
      intro ts W3 hb3 hh hap K hK
      have h9 := held_q (hh 5 (by simp)) rfl
      have e9 := held_is (hh 6 (by simp)) rfl
      have HK := Lib.hid hK
      clear hK hh hap
      simp only [fillT, Nat.zero_add, Nat.reduceAdd, sA, sB, sC, e9]
      refine ⟨?_⟩
      refine wp_store_qe rfl (k := i) rfl rfl ((HM.out.below hb3).row hi) hi h9 (fun W4 hbut hext hrow => HK.out _ _ ?_)
      clear e9 h9
      have M3 := (HM.out.below hb3).set HSep.out hi hbut hext (hrow.to (V' := fun _ => True) (f' := upf (uptoI i i) i (Cx.int 1)) fun _ _ _ => ⟨.inl trivial, rfl⟩)
      rw [uptoI_next] at M3
      have M4 := Lib.hid M3
      have B4 := Lib.hid (hbut.below (below_trans KB.out hb3) (by rw [HGO.out]; exact HSep.out.los i hi))
      clear hbut hext hrow hb3 M3 HM KB
      go_wp2
      go_roundw
      case rel => exact ⟨i + 1, by go_num, by omega, B4.out, M4.out⟩
      case measure => simp [intOf]; omega
    · obtain rfl : i = 32 := by omega
      go_wp2
      go_ret
      exact ⟨_, _, rfl, HM.out, KB.out⟩
set_option maxHeartbeats 2000000 in
theorem rIdentity_neg (w : World) (z : Int) (hz : z < 0) :
    Calls Tryz.prog 54 #[.int .i64 z] w fun e w' => ∃ go gk, e = .returned (.slice (some ⟨go, 0, none⟩) 0 0) ∧ MatQ w' go gk 0 0 (uptoI 0) ∧ Below w.heap.size w w' := by
  have HZ : Hid (∀ W, Calls Tryz.prog 102 #[.int .i64 0, .int .i64 0] W fun e w' => ∃ gi, e = .returned (.slice (some ⟨W.heap.size, 0, none⟩) 0 0) ∧ MatQ w' W.heap.size gi 0 0 (fun _ _ => .zero) ∧ MatSep W.heap.size W.heap.size gi 0 ∧ Below W.heap.size W w') := Lib.hid (fun W => rZeros_any W 0 0 (by omega) (by omega))
  have HW := Lib.hid (fun W => rWhole_any 1 W (by omega) (by omega))
  go_enter Tryz.func54, Tryz.ntmps54
  go_wp2_with fail
  refine (HZ.out w).mono ?_
  rintro e W4 ⟨g3, rfl, hM, hS, hb5⟩
  have KB0 := Lib.hid hb5
  have HM0 := Lib.hid (hM.congr (F' := uptoI 0) fun a b _ _ => (if_neg (by omega) : uptoI 0 a b = .zero).symm)
  have HSep := Lib.hid hS
  clear hb5 hM hS
  have hlo : w.heap.size ≤ w.heap.size := Nat.le_refl _
  obtain ⟨go3, hgo3⟩ : ∃ g, w.heap.size = g := ⟨_, rfl⟩
  rw [hgo3] at HM0 HSep
  simp only [hgo3]
  have HGO := Lib.hid hgo3
  clear hgo3 hlo
  go_wp2_with fail
  go_loopw [4] (fun iv wr => ∃ i : Nat, iv = .int .i64 (i : Int) ∧ i ≤ 0 ∧ Below w.heap.size w wr ∧ MatQ wr go3 g3 0 0 (uptoI i)) (fun iv _ => 0 - (intOf iv).toNat)
  case atStart => exact ⟨0, rfl, by omega, KB0.out, HM0.out⟩
  case round =>
    clear KB0 HM0
    obtain ⟨i, rfl, hin, hB, hM⟩ := hrel
    have KB := Lib.hid hB
    have HM := Lib.hid hM
    clear hB hM
    by_cases hi : i < 0
    · have hi0 : (0 : Int) ≤ (i : Int) := by omega
      have hi1 : (i : Int) < 0 := by omega
      go_upto_region 9 with fail
      refine region_last [.val (kIs (.slice (some ⟨go3, 0, none⟩) 0 0)), .val (kIs (.int .i64 (i : Int))), .val (kIs (.pointer (some ⟨go3, i, none⟩))), .val (kIs (.slice (some ⟨g3 i, 0, none⟩) 0 0)), .val (kIs (.int .i64 (i : Int))), .val (kQ (Cx.int 1)), .val (kIs (.pointer (some ⟨g3 i, 5 * i, none⟩)))]
        (by kernel_rfl) (by kernel_rfl) (by kernel_rfl) (by kernel_rfl) (by kernel_rfl) ⟨Stab.b (stab_is _), Stab.b (stab_is _), Stab.b (stab_is _), Stab.b (stab_is _), Stab.b (stab_is _), stabB_q _, Stab.b (stab_is _), trivial⟩ (by simp) (ol := _) rfl (by kernel_rfl) ⟨?_, ?_, ?_, ?_, ?_, ?_, ?_, trivial⟩ ?_
      · exact obp
      · exact obp
      · intro ts W hb hB hp; have h0 : ts 0 = _ := hp 0 (by kernel_rfl); have h1 : ts 1 = _ := hp 1 (by kernel_rfl); intro K hK; simp only [fillT, Nat.zero_add, Nat.reduceAdd, sA, sB, sC, h0, h1] at hK ⊢; have HK := Lib.hid hK; clear hK hp; refine ⟨?_⟩; go_simp; exact HK.out _ _ rfl (Below.refl _ _)
      · intro ts W hb hB hp; have h2 : ts 2 = _ := hp 2 (by kernel_rfl); intro K hK; simp only [fillT, Nat.zero_add, Nat.reduceAdd, sA, sB, sC, h2] at hK ⊢; have HK := Lib.hid hK; clear hK hp; have hcell := (HM.out.below hb).cell hi; refine ⟨?_⟩; go_simp; exact HK.out _ _ rfl (Below.refl _ _)
      · exact obp
      · intro ts W hb hB hp; intro K hK; simp only [fillT, Nat.zero_add, Nat.reduceAdd, sA, sB, sC] at hK ⊢; have HK := Lib.hid hK; clear hK hp; refine ⟨?_⟩; go_simp; refine (HW.out W).mono ?_; rintro e W9 ⟨r9, rfl, hr9, hb9⟩; exact HK.out _ _ hr9 hb9
      · intro ts W hb hB hp; have h3 : ts 3 = _ := hp 3 (by kernel_rfl); have h4 : ts 4 = _ := hp 4 (by kernel_rfl); intro K hK; simp only [fillT, Nat.zero_add, Nat.reduceAdd, sA, sB, sC, h3, h4] at hK ⊢; have HK := Lib.hid hK; clear hK hp; refine ⟨?_⟩; go_simp; exact HK.out _ _ (by simp [kIs, Nat.mul_comm]) (Below.refl _ _)
      intro ts W3 hb3 hh hap K hK
      have h9 := held_q (hh 5 (by simp)) rfl
      have e9 := held_is (hh 6 (by simp)) rfl
      have HK := Lib.hid hK
      clear hK hh hap
      simp only [fillT, Nat.zero_add, Nat.reduceAdd, sA, sB, sC, e9]
      refine ⟨?_⟩
      refine wp_store_qe rfl (k := i) rfl rfl ((HM.out.below hb3).row hi) hi h9 (fun W4 hbut hext hrow => HK.out _ _ ?_)
      clear e9 h9
      have M3 := (HM.out.below hb3).set HSep.out hi hbut hext (hrow.to (V' := fun _ => True) (f' := upf (uptoI i i) i (Cx.int 1)) fun _ _ _ => ⟨.inl trivial, rfl⟩)
      rw [uptoI_next] at M3
      have M4 := Lib.hid M3
      have B4 := Lib.hid (hbut.below (below_trans KB.out hb3) (by rw [HGO.out]; exact HSep.out.los i hi))
      clear hbut hext hrow hb3 M3 HM KB
      go_wp2
      go_roundw
      case rel => exact ⟨i + 1, by go_num, by omega, B4.out, M4.out⟩
      case measure => simp [intOf]; omega
    · obtain rfl : i = 0 := by omega
      go_wp2
      go_ret
      exact ⟨_, _, rfl, HM.out, KB.out⟩
end Go.Proofs.YtlljeccfhmojnaaGreatDoor
