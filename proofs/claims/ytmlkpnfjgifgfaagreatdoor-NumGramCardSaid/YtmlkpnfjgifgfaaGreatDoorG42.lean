/- Walks of matrices of numbers: Definite, where it says yes. -/
import Derived.Test.YtmlkpnfjgifgfaaGreatDoorG33
import Derived.Test.YtmlkpnfjgifgfaaGreatDoorG41
set_option linter.unusedSimpArgs false
set_option linter.unusedVariables false
namespace Go.Proofs.YtmlkpnfjgifgfaaGreatDoor
open Go.RowKit
set_option maxRecDepth 100000

theorem squareN_sq (w : World) (go : Nat) (gi : Nat → Nat) (n : Nat) (F : Nat → Nat → Cx) (h : MatAt w go gi n n F) (hn1 : n ≤ 32) :
    Calls Tryz.prog 25 #[.slice (some ⟨go, 0, none⟩) n n] w fun e w' => e = .returned (.bool true) ∧ Below w.heap.size w w' := by
  rcases Nat.eq_zero_or_pos n with h0 | h0
  · subst h0
    exact squareN_nil w _ _
  · have := squareN_rect w go gi n n F h h0 hn1 hn1
    have hd : decide (n = n) = true := by simp
    rwa [hd] at this
set_option maxHeartbeats 8000000 in
theorem definiteN_yes (w : World) (ga : Nat) (gi : Nat → Nat) (n s : Nat) (F : Nat → Nat → Cx) (hA : MatAt w ga gi n n F) (hn1 : n ≤ 32) (hT : Tab w) (hS : ∀ a b, Sz (F a b) s) (h5 : 2 * szE s n < 549755813888) (hP : Psd n 0 F) :
    Calls Tryz.prog 23 #[.slice (some ⟨ga, 0, none⟩) n n] w fun e w' => e = .returned (.tuple #[.bool true, .slice none 0 0, .int .i64 0]) ∧ Below w.heap.size w w' := by
  have hs0 : s ≤ szE s n := szE_mono s (Nat.zero_le n)
  have hsq := squareN_sq w ga gi n F hA hn1
  have HA0 := Lib.hid hA
  have HT := Lib.hid hT
  have HS0 := Lib.hid hS
  have HPS := Lib.hid hP
  have HQ := Lib.hid hsq
  clear hA hT hS hP hsq
  go_enter Tryz.func23, Tryz.ntmps23
  go_wp2_with fail
  refine HQ.out.mono ?_
  rintro e W1 ⟨rfl, hb1⟩
  have KB1 := Lib.hid hb1
  clear hb1 HQ
  go_wp2_with fail
  refine (hermitianN_true W1 ga gi n s F (HA0.out.below KB1.out) (by omega) HS0.out (by omega) fun a b ha hb => HPS.out.herm a b (Nat.zero_le _) ha (Nat.zero_le _) hb).mono ?_
  rintro e W2 ⟨rfl, hb2⟩
  have KB2 := Lib.hid (below_trans KB1.out hb2)
  clear hb2 KB1
  go_wp2_with fail
  refine (widenedN_any W2 ga gi n n 0 F (HA0.out.below KB2.out) (by omega) (by omega)).mono ?_
  rintro e W3 ⟨go, g2, rfl, hM, hP, hb3⟩
  have KB3 := Lib.hid (below_trans KB2.out hb3)
  have HM3 := Lib.hid (show MatAt W3 go g2 n n F from hM.congr fun a b _ hb => if_pos ⟨Nat.zero_le _, by omega⟩)
  have HP := Lib.hid (show MatSep w.heap.size go g2 n from ⟨Nat.le_trans KB2.out.size hP.lo, fun i hi => Nat.le_trans KB2.out.size (hP.los i hi), hP.ne, hP.inj⟩)
  have hTB : 1 < w.heap.size := HT.out.1
  clear hM hP hb3 KB2
  go_wp2
  go_loopw [18] (fun j wr => ∃ (c : Nat) (F1 : Nat → Nat → Cx), j = .int .i64 c ∧ c ≤ n ∧ MatAt wr go g2 n n F1 ∧ Psd n c F1 ∧ (∀ a b, a < n → b < n → Sz (F1 a b) (szE s c)) ∧ Below w.heap.size w wr) (fun j _ => n - (intOf j).toNat)
  case atStart => exact ⟨0, F, rfl, by omega, HM3.out, HPS.out, fun a b _ _ => HS0.out a b, KB3.out⟩
  case round =>
    clear HM3 KB3
    obtain ⟨c, F1, rfl, hcn, hM, hP1, hS1, hB⟩ := hrel
    have HM0 := Lib.hid hM
    have HPS1 := Lib.hid hP1
    have HS := Lib.hid hS1
    have KB0 := Lib.hid hB
    clear hM hP1 hS1 hB
    by_cases hc : c < n
    · have hsz : szE s (c + 1) ≤ szE s n := szE_mono s (by omega)
      have hsz' : 5 * szE s c + 4 < 549755813888 := by rw [szE] at hsz; omega
      have hszc : szE s c ≤ szE s (c + 1) := szE_mono s (by omega)
      clear hsz
      obtain ⟨W4, hr4, hb4, hs4, hN4⟩ := make_row n (by omega) wr
      have HM := Lib.hid (HM0.out.below hb4)
      have KB := Lib.hid (below_trans KB0.out hb4)
      clear hb4 hs4 hN4 HM0 KB0
      obtain ⟨K1, hK1⟩ : ∃ K1, cmpC (F1 c c) .zero = K1 := ⟨_, rfl⟩
      have HK1 := Lib.hid hK1
      have him := HPS1.out.real hc
      have hre := HPS1.out.diag hc
      go_upto_region 10 with fail
      clear hr4
      refine region_lin [.val (kIs (.slice (some ⟨go, 0, none⟩) n n)), .val (kIs (.int .i64 (c : Int))), .val (kIs (.pointer (some ⟨go, c, none⟩))), .val (kIs (.slice (some ⟨g2 c, 0, none⟩) n n)), .val (kIs (.int .i64 (c : Int))), .val (kIs (.pointer (some ⟨(g2 c), 5 * c, none⟩))), .val (kNum (F1 c c)), .val (kNum (Cx.zero)), .val (kIs (.int .i64 K1))]
        (by kernel_rfl) (by kernel_rfl) (by kernel_rfl) (by kernel_rfl) (by kernel_rfl) ⟨Stab.b (stab_is _), Stab.b (stab_is _), Stab.b (stab_is _), Stab.b (stab_is _), Stab.b (stab_is _), Stab.b (stab_is _), Stab.b (stab_num _), Stab.b (stab_num _), Stab.b (stab_is _), trivial⟩ (by simp) ⟨?_, ?_, ?_, ?_, ?_, ?_, ?_, ?_, ?_, trivial⟩ ?_
      · intro ts W hb hB hp; intro K hK; simp only [fillT, Nat.zero_add, Nat.reduceAdd, List.setIfInBounds_toArray, List.set_cons_zero, List.set_cons_succ] at hK ⊢; have HK := Lib.hid hK; clear hK hp; refine ⟨?_⟩; go_simp; exact HK.out _ _ rfl (Below.refl _ _)
      · intro ts W hb hB hp; intro K hK; simp only [fillT, Nat.zero_add, Nat.reduceAdd, List.setIfInBounds_toArray, List.set_cons_zero, List.set_cons_succ] at hK ⊢; have HK := Lib.hid hK; clear hK hp; refine ⟨?_⟩; go_simp; exact HK.out _ _ rfl (Below.refl _ _)
      · intro ts W hb hB hp; have h0 : ts 0 = _ := hp 0 (by kernel_rfl); have h1 : ts 1 = _ := hp 1 (by kernel_rfl); intro K hK; simp only [fillT, Nat.zero_add, Nat.reduceAdd, List.setIfInBounds_toArray, List.set_cons_zero, List.set_cons_succ, h0, h1] at hK ⊢; have HK := Lib.hid hK; clear hK hp; refine ⟨?_⟩; go_simp; exact HK.out _ _ rfl (Below.refl _ _)
      · intro ts W hb hB hp; have h2 : ts 2 = _ := hp 2 (by kernel_rfl); intro K hK; simp only [fillT, Nat.zero_add, Nat.reduceAdd, List.setIfInBounds_toArray, List.set_cons_zero, List.set_cons_succ, h2] at hK ⊢; have HK := Lib.hid hK; clear hK hp; have hcell := (HM.out.below hb).cell hc; refine ⟨?_⟩; go_simp; exact HK.out _ _ rfl (Below.refl _ _)
      · intro ts W hb hB hp; intro K hK; simp only [fillT, Nat.zero_add, Nat.reduceAdd, List.setIfInBounds_toArray, List.set_cons_zero, List.set_cons_succ] at hK ⊢; have HK := Lib.hid hK; clear hK hp; refine ⟨?_⟩; go_simp; exact HK.out _ _ rfl (Below.refl _ _)
      · intro ts W hb hB hp; have h3 : ts 3 = _ := hp 3 (by kernel_rfl); have h4 : ts 4 = _ := hp 4 (by kernel_rfl); intro K hK; simp only [fillT, Nat.zero_add, Nat.reduceAdd, List.setIfInBounds_toArray, List.set_cons_zero, List.set_cons_succ, h3, h4] at hK ⊢; have HK := Lib.hid hK; clear hK hp; refine ⟨?_⟩; go_simp; exact HK.out _ _ (by simp [kIs, Nat.mul_comm]) (Below.refl _ _)
      · intro ts W hb hB hp; have h5 : ts 5 = _ := hp 5 (by kernel_rfl); intro K hK; simp only [fillT, Nat.zero_add, Nat.reduceAdd, List.setIfInBounds_toArray, List.set_cons_zero, List.set_cons_succ, h5] at hK ⊢; have HK := Lib.hid hK; clear hK hp; refine ⟨?_⟩; refine wp_load_elem rfl rfl ((HM.out.row hc).below hb) hc (fun v hv => HK.out _ _ (hv) (Below.refl _ _))
      · intro ts W hb hB hp; intro K hK; simp only [fillT, Nat.zero_add, Nat.reduceAdd, List.setIfInBounds_toArray, List.set_cons_zero, List.set_cons_succ] at hK ⊢; have HK := Lib.hid hK; clear hK hp; refine ⟨?_⟩; go_simp; exact HK.out _ _ (IsNum.zero _) (Below.refl _ _)
      · intro ts W hb hB hp; have h6 : IsNum W (ts 6) (F1 c c) := hp 6 (by kernel_rfl); have h7 : IsNum W (ts 7) (Cx.zero) := hp 7 (by kernel_rfl); intro K hK; simp only [fillT, Nat.zero_add, Nat.reduceAdd, List.setIfInBounds_toArray, List.set_cons_zero, List.set_cons_succ] at hK ⊢; have HK := Lib.hid hK; clear hK hp; refine ⟨?_⟩; go_simp; refine (cmpN_k _ _ (F1 c c) (Cx.zero) W h6 h7 (szE s c) 1 (HS.out _ _ hc hc) (Sz.zero (by omega)) (by omega) HK1.out).mono ?_; rintro e W9 ⟨rfl, hb9⟩; exact HK.out _ _ rfl hb9
      intro ts W5 hb hh hap
      have e8 := held_is (hh 8 (by simp)) rfl
      simp only [fillT, Nat.zero_add, Nat.reduceAdd, List.setIfInBounds_toArray, List.set_cons_zero, List.set_cons_succ, e8]
      clear hh hap e8
      generalize ts 0 = u0_W5 at *
      generalize ts 1 = u1_W5 at *
      generalize ts 2 = u2_W5 at *
      generalize ts 3 = u3_W5 at *
      generalize ts 4 = u4_W5 at *
      generalize ts 5 = u5_W5 at *
      generalize ts 6 = u6_W5 at *
      generalize ts 7 = u7_W5 at *
      clear ts
      have HM5 := Lib.hid (HM.out.below hb)
      have KB5 := Lib.hid (below_trans KB.out hb)
      clear hb HM KB
      rcases cmpC_cases (F1 c c) .zero with ⟨h1, h2⟩ | ⟨h1, h2, h3⟩ | ⟨h1, h2⟩
      · exfalso
        simp only [Cx.zero] at h2
        rcases h2 with h2 | ⟨h2, h3⟩ <;> grind
      · obtain rfl : K1 = 0 := by rw [← hK1]; exact h1
        have hz0 : F1 c c = .zero := Cx.ext h2 h3
        have hcell := HM5.out.cell hc
        have hfc : ∃ z : Int, ¬ (0 ≤ z) ∧ Calls Tryz.prog 58 #[.slice (some ⟨g2 c, 0, none⟩) n n, .int .i64 c] W5 fun e w' => e = .returned (.int .i64 z) ∧ Below W5.heap.size W5 w' :=
          ⟨-1, by omega, firstClearN_none W5 (g2 c) n c (F1 c) (HM5.out.row hc) (by omega) (by omega) fun k hk hkn => by
            rcases Nat.eq_or_lt_of_le hk with e | e
            · rw [← e]; exact hz0
            · exact HPS1.out.row hc hz0 e hkn⟩
        obtain ⟨z, hz, hcl⟩ := hfc
        have HCL := Lib.hid hcl
        have HN := Lib.hid (HPS1.out.next hc)
        clear hcl hz0 h1 h2 h3 hK1 HK1 him hre HPS1
        go_wp2_with fail
        clear hcell
        refine HCL.out.mono ?_
        rintro e W6 ⟨rfl, hb⟩
        have HM6 := Lib.hid (HM5.out.below hb)
        have KB6 := Lib.hid (below_trans KB5.out hb)
        clear hb HM5 KB5 HCL
        go_wp2
        go_roundw
        case rel => exact ⟨c + 1, F1, by go_num, by omega, HM6.out, HN.out, fun a b ha hb => (HS.out a b ha hb).mono hszc, KB6.out⟩
        case measure => simp [intOf]; omega
      · obtain rfl : K1 = 1 := by rw [← hK1]; exact h1
        have hpos : 0 < (F1 c c).re := by
          simp only [Cx.zero] at h2
          rcases h2 with h2 | ⟨h2, h3⟩ <;> grind
        have HN := Lib.hid (HPS1.out.clear hc hpos)
        clear h1 h2 hK1 HK1 him hre HPS1 hpos
        go_wp2_with fail
        refine (clearBelowN_any w.heap.size W5 go g2 n n c c (szE s c) F1 HM5.out HP.out hTB (HT.out.belowB hTB KB5.out) hc hc (by omega) (by omega) HS.out hsz').mono ?_
        rintro e W6 ⟨rfl, hm6, hb⟩
        have HM6 := Lib.hid hm6
        have KB6 := Lib.hid (KB5.out.trans hb)
        clear hm6 hb HM5 KB5
        go_wp2
        go_roundw
        case rel => exact ⟨c + 1, _, by go_num, by omega, HM6.out, HN.out, Sz.clearF HS.out hc hc, KB6.out⟩
        case measure => simp [intOf]; omega
    · obtain rfl : n = c := by omega
      go_wp2
      go_ret3
      exact ⟨rfl, KB0.out⟩
end Go.Proofs.YtmlkpnfjgifgfaaGreatDoor
