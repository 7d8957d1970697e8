/- Walks of the laws' helpers: same, square. -/
import Derived.Test.YtmlkpnfjgifgfaaGreatDoorG36
set_option linter.unusedSimpArgs false
set_option linter.unusedVariables false
namespace Go.Proofs.YtmlkpnfjgifgfaaGreatDoor
open Go.RowKit
set_option maxRecDepth 100000

set_option maxHeartbeats 4000000 in
theorem sameM_true (w : World) (ga gb : Nat) (gi gj : Nat → Nat) (n m s : Nat) (F G : Nat → Nat → Cx) (hA : MatAt w ga gi n m F) (hB : MatAt w gb gj n m G) (hn1 : n ≤ 1073741824) (hm1 : m ≤ 1073741824)
    (hSF : ∀ a b, a < n → b < m → Sz (F a b) s) (hSG : ∀ a b, a < n → b < m → Sz (G a b) s) (hs : s < 549755813888) (hE : ∀ a b, a < n → b < m → F a b = G a b) :
    Calls Tryz.prog 13 #[.slice (some ⟨ga, 0, none⟩) n n, .slice (some ⟨gb, 0, none⟩) n n] w fun e w' => e = .returned (.bool true) ∧ Below w.heap.size w w' := by
  have HA0 := Lib.hid hA
  have HB0 := Lib.hid hB
  have HSF := Lib.hid hSF
  have HSG := Lib.hid hSG
  have HE := Lib.hid hE
  clear hA hB hSF hSG hE
  have hnn : ((n : Int) != (n : Int)) = false := by simp
  go_enter Tryz.func13, Tryz.ntmps13
  go_wp2
  clear hnn
  go_loopw [14] (fun j wr => ∃ i : Nat, j = .int .i64 i ∧ i ≤ n ∧ Below w.heap.size w wr) (fun j _ => n - (intOf j).toNat)
  case atStart => exact ⟨0, rfl, by omega, Below.refl _ _⟩
  case round =>
    obtain ⟨i, rfl, hin, hB⟩ := hrel
    have KB := Lib.hid hB
    have HA := Lib.hid (HA0.out.below hB)
    have HB := Lib.hid (HB0.out.below hB)
    clear hB
    by_cases hi : i < n
    · go_upto_region 6 with fail
      refine region_lin [.val (kIs (.slice (some ⟨ga, 0, none⟩) n n)), .val (kIs (.int .i64 (i : Int))), .val (kIs (.pointer (some ⟨ga, i, none⟩))), .val (kIs (.slice (some ⟨gi i, 0, none⟩) m m)), .val (kIs (.int .i64 (m : Int))), .val (kIs (.slice (some ⟨gb, 0, none⟩) n n)), .val (kIs (.int .i64 (i : Int))), .val (kIs (.pointer (some ⟨gb, i, none⟩))), .val (kIs (.slice (some ⟨gj i, 0, none⟩) m m)), .val (kIs (.int .i64 (m : Int))), .val (kIs (.bool false))]
        (by kernel_rfl) (by kernel_rfl) (by kernel_rfl) (by kernel_rfl) (by kernel_rfl) ⟨Stab.b (stab_is _), Stab.b (stab_is _), Stab.b (stab_is _), Stab.b (stab_is _), Stab.b (stab_is _), Stab.b (stab_is _), Stab.b (stab_is _), Stab.b (stab_is _), Stab.b (stab_is _), Stab.b (stab_is _), Stab.b (stab_is _), trivial⟩ (by simp) ⟨?_, ?_, ?_, ?_, ?_, ?_, ?_, ?_, ?_, ?_, ?_, trivial⟩ ?_
      · intro ts W hb hB hp; intro K hK; simp only [fillT, Nat.zero_add, Nat.reduceAdd, List.setIfInBounds_toArray, List.set_cons_zero, List.set_cons_succ] at hK ⊢; have HK := Lib.hid hK; clear hK hp; refine ⟨?_⟩; go_simp; exact HK.out _ _ rfl (Below.refl _ _)
      · intro ts W hb hB hp; intro K hK; simp only [fillT, Nat.zero_add, Nat.reduceAdd, List.setIfInBounds_toArray, List.set_cons_zero, List.set_cons_succ] at hK ⊢; have HK := Lib.hid hK; clear hK hp; refine ⟨?_⟩; go_simp; exact HK.out _ _ rfl (Below.refl _ _)
      · intro ts W hb hB hp; have h0 : ts 0 = _ := hp 0 (by kernel_rfl); have h1 : ts 1 = _ := hp 1 (by kernel_rfl); intro K hK; simp only [fillT, Nat.zero_add, Nat.reduceAdd, List.setIfInBounds_toArray, List.set_cons_zero, List.set_cons_succ, h0, h1] at hK ⊢; have HK := Lib.hid hK; clear hK hp; refine ⟨?_⟩; go_simp; exact HK.out _ _ rfl (Below.refl _ _)
      · intro ts W hb hB hp; have h2 : ts 2 = _ := hp 2 (by kernel_rfl); intro K hK; simp only [fillT, Nat.zero_add, Nat.reduceAdd, List.setIfInBounds_toArray, List.set_cons_zero, List.set_cons_succ, h2] at hK ⊢; have HK := Lib.hid hK; clear hK hp; have hcell := (HA.out.below hb).cell hi; refine ⟨?_⟩; go_simp; exact HK.out _ _ rfl (Below.refl _ _)
      · intro ts W hb hB hp; have h3 : ts 3 = _ := hp 3 (by kernel_rfl); intro K hK; simp only [fillT, Nat.zero_add, Nat.reduceAdd, List.setIfInBounds_toArray, List.set_cons_zero, List.set_cons_succ, h3] at hK ⊢; have HK := Lib.hid hK; clear hK hp; refine ⟨?_⟩; go_simp; exact HK.out _ _ rfl (Below.refl _ _)
      · intro ts W hb hB hp; intro K hK; simp only [fillT, Nat.zero_add, Nat.reduceAdd, List.setIfInBounds_toArray, List.set_cons_zero, List.set_cons_succ] at hK ⊢; have HK := Lib.hid hK; clear hK hp; refine ⟨?_⟩; go_simp; exact HK.out _ _ rfl (Below.refl _ _)
      · intro ts W hb hB hp; intro K hK; simp only [fillT, Nat.zero_add, Nat.reduceAdd, List.setIfInBounds_toArray, List.set_cons_zero, List.set_cons_succ] at hK ⊢; have HK := Lib.hid hK; clear hK hp; refine ⟨?_⟩; go_simp; exact HK.out _ _ rfl (Below.refl _ _)
      · intro ts W hb hB hp; have h5 : ts 5 = _ := hp 5 (by kernel_rfl); have h6 : ts 6 = _ := hp 6 (by kernel_rfl); intro K hK; simp only [fillT, Nat.zero_add, Nat.reduceAdd, List.setIfInBounds_toArray, List.set_cons_zero, List.set_cons_succ, h5, h6] at hK ⊢; have HK := Lib.hid hK; clear hK hp; refine ⟨?_⟩; go_simp; exact HK.out _ _ rfl (Below.refl _ _)
      · intro ts W hb hB hp; have h7 : ts 7 = _ := hp 7 (by kernel_rfl); intro K hK; simp only [fillT, Nat.zero_add, Nat.reduceAdd, List.setIfInBounds_toArray, List.set_cons_zero, List.set_cons_succ, h7] at hK ⊢; have HK := Lib.hid hK; clear hK hp; have hcell := (HB.out.below hb).cell hi; refine ⟨?_⟩; go_simp; exact HK.out _ _ rfl (Below.refl _ _)
      · intro ts W hb hB hp; have h8 : ts 8 = _ := hp 8 (by kernel_rfl); intro K hK; simp only [fillT, Nat.zero_add, Nat.reduceAdd, List.setIfInBounds_toArray, List.set_cons_zero, List.set_cons_succ, h8] at hK ⊢; have HK := Lib.hid hK; clear hK hp; refine ⟨?_⟩; go_simp; exact HK.out _ _ rfl (Below.refl _ _)
      · intro ts W hb hB hp; have h4 : ts 4 = _ := hp 4 (by kernel_rfl); have h9 : ts 9 = _ := hp 9 (by kernel_rfl); intro K hK; simp only [fillT, Nat.zero_add, Nat.reduceAdd, List.setIfInBounds_toArray, List.set_cons_zero, List.set_cons_succ, h4, h9] at hK ⊢; have HK := Lib.hid hK; clear hK hp; refine ⟨?_⟩; go_simp; exact HK.out _ _ (by simp [kIs]) (Below.refl _ _)
      intro ts W2 hb2 hh hap
      have e10 := held_is (hh 10 (by simp)) rfl
      simp only [fillT, Nat.zero_add, Nat.reduceAdd, List.setIfInBounds_toArray, List.set_cons_zero, List.set_cons_succ, e10]
      clear hh hap e10
      generalize ts 0 = u0_W2 at *
      generalize ts 1 = u1_W2 at *
      generalize ts 2 = u2_W2 at *
      generalize ts 3 = u3_W2 at *
      generalize ts 4 = u4_W2 at *
      generalize ts 5 = u5_W2 at *
      generalize ts 6 = u6_W2 at *
      generalize ts 7 = u7_W2 at *
      generalize ts 8 = u8_W2 at *
      generalize ts 9 = u9_W2 at *
      clear ts
      have KB2 := Lib.hid (below_trans KB.out hb2)
      have hrow := (HA.out.below hb2).cell hi
      clear hb2 HA HB KB
      go_wp2
      clear hrow
      go_loopw [33] (fun j wr => ∃ k : Nat, j = .int .i64 k ∧ k ≤ m ∧ Below w.heap.size w wr) (fun j _ => m - (intOf j).toNat)
      case atStart => exact ⟨0, rfl, by omega, KB2.out⟩
      case round =>
        clear KB2
        rename_i wr1
        obtain ⟨k, rfl, hkm, hB⟩ := hrel
        have KB := Lib.hid hB
        have HA := Lib.hid (HA0.out.below hB)
        have HB := Lib.hid (HB0.out.below hB)
        clear hB
        by_cases hk : k < m
        · go_upto_region 11 with fail
          refine region_lin [.val (kIs (.slice (some ⟨ga, 0, none⟩) n n)), .val (kIs (.int .i64 (i : Int))), .val (kIs (.pointer (some ⟨ga, i, none⟩))), .val (kIs (.slice (some ⟨gi i, 0, none⟩) m m)), .val (kIs (.int .i64 (k : Int))), .val (kIs (.pointer (some ⟨(gi i), 5 * k, none⟩))), .val (kNum (F i k)), .val (kIs (.slice (some ⟨gb, 0, none⟩) n n)), .val (kIs (.int .i64 (i : Int))), .val (kIs (.pointer (some ⟨gb, i, none⟩))), .val (kIs (.slice (some ⟨gj i, 0, none⟩) m m)), .val (kIs (.int .i64 (k : Int))), .val (kIs (.pointer (some ⟨(gj i), 5 * k, none⟩))), .val (kNum (G i k)), .val (kIs (.bool true)), .val (kIs (.bool false))]
            (by kernel_rfl) (by kernel_rfl) (by kernel_rfl) (by kernel_rfl) (by kernel_rfl) ⟨Stab.b (stab_is _), Stab.b (stab_is _), Stab.b (stab_is _), Stab.b (stab_is _), Stab.b (stab_is _), Stab.b (stab_is _), Stab.b (stab_num _), Stab.b (stab_is _), Stab.b (stab_is _), Stab.b (stab_is _), Stab.b (stab_is _), Stab.b (stab_is _), Stab.b (stab_is _), Stab.b (stab_num _), Stab.b (stab_is _), Stab.b (stab_is _), trivial⟩ (by simp) ⟨?_, ?_, ?_, ?_, ?_, ?_, ?_, ?_, ?_, ?_, ?_, ?_, ?_, ?_, ?_, ?_, trivial⟩ ?_
          · intro ts W hb hB hp; intro K hK; simp only [fillT, Nat.zero_add, Nat.reduceAdd, List.setIfInBounds_toArray, List.set_cons_zero, List.set_cons_succ] at hK ⊢; have HK := Lib.hid hK; clear hK hp; refine ⟨?_⟩; go_simp; exact HK.out _ _ rfl (Below.refl _ _)
          · intro ts W hb hB hp; intro K hK; simp only [fillT, Nat.zero_add, Nat.reduceAdd, List.setIfInBounds_toArray, List.set_cons_zero, List.set_cons_succ] at hK ⊢; have HK := Lib.hid hK; clear hK hp; refine ⟨?_⟩; go_simp; exact HK.out _ _ rfl (Below.refl _ _)
          · intro ts W hb hB hp; have h0 : ts 0 = _ := hp 0 (by kernel_rfl); have h1 : ts 1 = _ := hp 1 (by kernel_rfl); intro K hK; simp only [fillT, Nat.zero_add, Nat.reduceAdd, List.setIfInBounds_toArray, List.set_cons_zero, List.set_cons_succ, h0, h1] at hK ⊢; have HK := Lib.hid hK; clear hK hp; refine ⟨?_⟩; go_simp; exact HK.out _ _ rfl (Below.refl _ _)
          · intro ts W hb hB hp; have h2 : ts 2 = _ := hp 2 (by kernel_rfl); intro K hK; simp only [fillT, Nat.zero_add, Nat.reduceAdd, List.setIfInBounds_toArray, List.set_cons_zero, List.set_cons_succ, h2] at hK ⊢; have HK := Lib.hid hK; clear hK hp; have hcell := (HA.out.below hb).cell hi; refine ⟨?_⟩; go_simp; exact HK.out _ _ rfl (Below.refl _ _)
          · intro ts W hb hB hp; intro K hK; simp only [fillT, Nat.zero_add, Nat.reduceAdd, List.setIfInBounds_toArray, List.set_cons_zero, List.set_cons_succ] at hK ⊢; have HK := Lib.hid hK; clear hK hp; refine ⟨?_⟩; go_simp; exact HK.out _ _ rfl (Below.refl _ _)
          · intro ts W hb hB hp; have h3 : ts 3 = _ := hp 3 (by kernel_rfl); have h4 : ts 4 = _ := hp 4 (by kernel_rfl); intro K hK; simp only [fillT, Nat.zero_add, Nat.reduceAdd, List.setIfInBounds_toArray, List.set_cons_zero, List.set_cons_succ, h3, h4] at hK ⊢; have HK := Lib.hid hK; clear hK hp; refine ⟨?_⟩; go_simp; exact HK.out _ _ (by simp [kIs, Nat.mul_comm]) (Below.refl _ _)
          · intro ts W hb hB hp; have h5 : ts 5 = _ := hp 5 (by kernel_rfl); intro K hK; simp only [fillT, Nat.zero_add, Nat.reduceAdd, List.setIfInBounds_toArray, List.set_cons_zero, List.set_cons_succ, h5] at hK ⊢; have HK := Lib.hid hK; clear hK hp; refine ⟨?_⟩; refine wp_load_elem rfl rfl ((HA.out.row hi).below hb) hk (fun v hv => HK.out _ _ (hv) (Below.refl _ _))
          · intro ts W hb hB hp; intro K hK; simp only [fillT, Nat.zero_add, Nat.reduceAdd, List.setIfInBounds_toArray, List.set_cons_zero, List.set_cons_succ] at hK ⊢; have HK := Lib.hid hK; clear hK hp; refine ⟨?_⟩; go_simp; exact HK.out _ _ rfl (Below.refl _ _)
          · intro ts W hb hB hp; intro K hK; simp only [fillT, Nat.zero_add, Nat.reduceAdd, List.setIfInBounds_toArray, List.set_cons_zero, List.set_cons_succ] at hK ⊢; have HK := Lib.hid hK; clear hK hp; refine ⟨?_⟩; go_simp; exact HK.out _ _ rfl (Below.refl _ _)
          · intro ts W hb hB hp; have h7 : ts 7 = _ := hp 7 (by kernel_rfl); have h8 : ts 8 = _ := hp 8 (by kernel_rfl); intro K hK; simp only [fillT, Nat.zero_add, Nat.reduceAdd, List.setIfInBounds_toArray, List.set_cons_zero, List.set_cons_succ, h7, h8] at hK ⊢; have HK := Lib.hid hK; clear hK hp; refine ⟨?_⟩; go_simp; exact HK.out _ _ rfl (Below.refl _ _)
          · intro ts W hb hB hp; have h9 : ts 9 = _ := hp 9 (by kernel_rfl); intro K hK; simp only [fillT, Nat.zero_add, Nat.reduceAdd, List.setIfInBounds_toArray, List.set_cons_zero, List.set_cons_succ, h9] at hK ⊢; have HK := Lib.hid hK; clear hK hp; have hcell := (HB.out.below hb).cell hi; refine ⟨?_⟩; go_simp; exact HK.out _ _ rfl (Below.refl _ _)
          · intro ts W hb hB hp; intro K hK; simp only [fillT, Nat.zero_add, Nat.reduceAdd, List.setIfInBounds_toArray, List.set_cons_zero, List.set_cons_succ] at hK ⊢; have HK := Lib.hid hK; clear hK hp; refine ⟨?_⟩; go_simp; exact HK.out _ _ rfl (Below.refl _ _)
          · intro ts W hb hB hp; have h10 : ts 10 = _ := hp 10 (by kernel_rfl); have h11 : ts 11 = _ := hp 11 (by kernel_rfl); intro K hK; simp only [fillT, Nat.zero_add, Nat.reduceAdd, List.setIfInBounds_toArray, List.set_cons_zero, List.set_cons_succ, h10, h11] at hK ⊢; have HK := Lib.hid hK; clear hK hp; refine ⟨?_⟩; go_simp; exact HK.out _ _ (by simp [kIs, Nat.mul_comm]) (Below.refl _ _)
          · intro ts W hb hB hp; have h12 : ts 12 = _ := hp 12 (by kernel_rfl); intro K hK; simp only [fillT, Nat.zero_add, Nat.reduceAdd, List.setIfInBounds_toArray, List.set_cons_zero, List.set_cons_succ, h12] at hK ⊢; have HK := Lib.hid hK; clear hK hp; refine ⟨?_⟩; refine wp_load_elem rfl rfl ((HB.out.row hi).below hb) hk (fun v hv => HK.out _ _ (hv) (Below.refl _ _))
          · intro ts W hb hB hp; have h6 : IsNum W (ts 6) (F i k) := hp 6 (by kernel_rfl); have h13 : IsNum W (ts 13) (G i k) := hp 13 (by kernel_rfl); intro K hK; simp only [fillT, Nat.zero_add, Nat.reduceAdd, List.setIfInBounds_toArray, List.set_cons_zero, List.set_cons_succ] at hK ⊢; have HK := Lib.hid hK; clear hK hp; refine ⟨?_⟩; go_simp; refine (sameN_k _ _ (F i k) (G i k) W h6 h13 s (HSF.out _ _ hi hk) (HSG.out _ _ hi hk) (by omega) (same_t (HE.out _ _ hi hk))).mono ?_; rintro e W9 ⟨rfl, hb9⟩; exact HK.out _ _ rfl hb9
          · intro ts W hb hB hp; have h14 : ts 14 = _ := hp 14 (by kernel_rfl); intro K hK; simp only [fillT, Nat.zero_add, Nat.reduceAdd, List.setIfInBounds_toArray, List.set_cons_zero, List.set_cons_succ, h14] at hK ⊢; have HK := Lib.hid hK; clear hK hp; refine ⟨?_⟩; go_simp; exact HK.out _ _ rfl (Below.refl _ _)
          intro ts W3 hb3 hh hap
          have e15 := held_is (hh 15 (by simp)) rfl
          simp only [fillT, Nat.zero_add, Nat.reduceAdd, List.setIfInBounds_toArray, List.set_cons_zero, List.set_cons_succ, e15]
          clear hh hap e15
          generalize ts 0 = u0_W3 at *
          generalize ts 1 = u1_W3 at *
          generalize ts 2 = u2_W3 at *
          generalize ts 3 = u3_W3 at *
          generalize ts 4 = u4_W3 at *
          generalize ts 5 = u5_W3 at *
          generalize ts 6 = u6_W3 at *
          generalize ts 7 = u7_W3 at *
          generalize ts 8 = u8_W3 at *
          generalize ts 9 = u9_W3 at *
          generalize ts 10 = u10_W3 at *
          generalize ts 11 = u11_W3 at *
          generalize ts 12 = u12_W3 at *
          generalize ts 13 = u13_W3 at *
          generalize ts 14 = u14_W3 at *
          clear ts
          have KB3 := Lib.hid (below_trans KB.out hb3)
          clear hb3 HA HB KB
          go_wp2
          go_roundw
          case rel => exact ⟨k + 1, by go_num, by omega, KB3.out⟩
          case measure => simp [intOf]; omega
        · obtain rfl : k = m := by omega
          go_wp2
          go_roundw
          case rel => exact ⟨i + 1, by go_num, by omega, KB.out⟩
          case measure => simp [intOf]; omega
    · obtain rfl : i = n := by omega
      go_wp2
      go_ret
      exact ⟨rfl, KB.out⟩

/-- What lies in memory: a slice of plain data (three integers each). -/
def RatS (W : World) (A : Option Addr) (len : Nat) (f : Nat → Int × Int × Int) : Prop := 0 < len → ∃ b off, A = some ⟨b, off, none⟩ ∧ b < W.heap.size ∧
  (∀ j, j < len → W.cell? ⟨b, off + 3 * j, none⟩ = some (.int .i64 (f j).1) ∧ W.cell? ⟨b, off + 3 * j + 1, none⟩ = some (.int .i64 (f j).2.1) ∧ W.cell? ⟨b, off + 3 * j + 2, none⟩ = some (.int .i64 (f j).2.2))
def Rat64 (f : Nat → Int × Int × Int) : Prop := ∀ j, (-9223372036854775808 ≤ (f j).1 ∧ (f j).1 < 9223372036854775808) ∧ (-9223372036854775808 ≤ (f j).2.1 ∧ (f j).2.1 < 9223372036854775808) ∧ (-9223372036854775808 ≤ (f j).2.2 ∧ (f j).2.2 < 9223372036854775808)
theorem RatS.below {W W' : World} {A : Option Addr} {len : Nat} {f : Nat → Int × Int × Int} (h : RatS W A len f) (hb : Below W.heap.size W W') : RatS W' A len f := fun hl => by
  obtain ⟨b, off, hA, hlt, hc⟩ := h hl
  refine ⟨b, off, hA, Nat.lt_of_lt_of_le hlt hb.size, fun j hj => ?_⟩
  obtain ⟨c0, c1, c2⟩ := hc j hj
  exact ⟨(hb.cell (p := ⟨b, _, none⟩) hlt).trans c0, (hb.cell (p := ⟨b, _, none⟩) hlt).trans c1, (hb.cell (p := ⟨b, _, none⟩) hlt).trans c2⟩
theorem wp_load_rat {o : Oper} {a : Act} {w : World} {K : Act → World → Prop} {Q : Exit → Act → World → Prop} {x : Operand} (ho : o.op = .load 59 x) {b i : Nat} (hx : a.eval x = .pointer (some ⟨b, i, none⟩)) {r s t : Int}
    (h0 : w.cell? ⟨b, i, none⟩ = some (.int .i64 r)) (h1 : w.cell? ⟨b, i + 1, none⟩ = some (.int .i64 s)) (h2 : w.cell? ⟨b, i + 2, none⟩ = some (.int .i64 t))
    (hK : K (a.put o.dst (.agg #[.int .i64 r, .int .i64 s, .int .i64 t])) w) : o.wp Tryz.prog a w K Q := by
  have hl := run_loadCells_list (P := Tryz.prog) (w := w) ⟨b, i, none⟩ [.int .i64 r, .int .i64 s, .int .i64 t] (fun j v hv => by
    have hadd : (⟨b, i, none⟩ : Addr).add j = ⟨b, i + j, none⟩ := by unfold Addr.add; split <;> simp_all
    rw [hadd]
    match j, hv with
    | 0, hv => simp at hv; rw [← hv]; exact h0
    | 1, hv => simp at hv; rw [← hv]; exact h1
    | 2, hv => simp at hv; rw [← hv]; exact h2
    | j + 3, hv => simp at hv)
  have hinfo : (Tryz.prog.info? 59).map (·.size) = some 3 := by kernel_rfl
  cases hq : Tryz.prog.info? 59 with
  | none => rw [hq] at hinfo; cases hinfo
  | some i' =>
    have hs : i'.size = 3 := by rw [hq] at hinfo; simpa using hinfo
    have hagg : (isAgg 59).run Tryz.prog w = .ok true w := by
      unfold isAgg
      rw [Sem.run_bind, run_underlying Tryz.underlying59 w]
      rfl
    have hlv : (loadVar 59 ⟨b, i, none⟩).run Tryz.prog w = .ok (.agg #[.int .i64 r, .int .i64 s, .int .i64 t]) w := by
      simp only [List.length_cons, List.length_nil] at hl
      simp [loadVar, Sem.run_bind, hagg, sizeOf, typeInfo, hq, hs, hl]
    unfold Oper.wp execOp
    simp only [ho, hx, Instr.loadAt, Instr.sureAddr, Sem.run_bind, Sem.run_pure, Result.andThen_ok, hlv]
    exact hK
/-- The matrix whose elements are taken from a list, again and again. -/
def sqF (f : Nat → Int × Int × Int) (len n : Nat) : Nat → Nat → Cx := fun i k => if len = 0 then .zero else ofR (f ((i * n + k) % len)).1 (f ((i * n + k) % len)).2.1 (f ((i * n + k) % len)).2.2
theorem RatS.cells {W : World} {b off len : Nat} {f : Nat → Int × Int × Int} (h : RatS W (some ⟨b, off, none⟩) len f) {j : Nat} (hj : j < len) :
    W.cell? ⟨b, off + 3 * j, none⟩ = some (.int .i64 (f j).1) ∧ W.cell? ⟨b, off + 3 * j + 1, none⟩ = some (.int .i64 (f j).2.1) ∧ W.cell? ⟨b, off + 3 * j + 2, none⟩ = some (.int .i64 (f j).2.2) := by
  obtain ⟨b', off', e, -, hc⟩ := h (by omega)
  injection e with e
  injection e with e1 e2
  subst e1; subst e2
  exact hc j hj
theorem upto_skip {Q : Nat → Nat → Cx} {i k : Nat} (h : Q i k = .zero) : upto Q i (k + 1) = upto Q i k := by
  funext a b
  unfold upto
  by_cases hb : a = i ∧ b = k
  · rw [hb.1, hb.2, if_pos (by omega), if_neg (by omega), h]
  · by_cases h1 : a < i ∨ a = i ∧ b < k
    · rw [if_pos h1, if_pos (by omega)]
    · rw [if_neg h1, if_neg (by omega)]
set_option maxHeartbeats 8000000 in
theorem squareM_any (w : World) (A : Option Addr) (len cap n : Nat) (f : Nat → Int × Int × Int) (hR : RatS w A len f) (h64 : Rat64 f) (hn : n ≤ 1024) (hl : len ≤ 9223372036854775807) (hT : Tab w) :
    Calls Tryz.prog 6 #[.slice A len cap, .int .i64 n] w (RetMat w n n (sqF f len n)) := by
  have HR0 := Lib.hid hR
  have HOF := Lib.hid (fun W j (hb : Below w.heap.size w W) => of_any (f j).1 (f j).2.1 (f j).2.2 W (h64 j).1.1 (h64 j).1.2 (h64 j).2.1.1 (h64 j).2.1.2 (h64 j).2.2.1 (h64 j).2.2.2 (hT.below hb))
  obtain ⟨Q, hQ⟩ : ∃ Q, Q = sqF f len n := ⟨_, rfl⟩
  have HQ := Lib.hid (show ∀ i k, Q i k = if len = 0 then .zero else ofR (f ((i * n + k) % len)).1 (f ((i * n + k) % len)).2.1 (f ((i * n + k) % len)).2.2 by rw [hQ]; exact fun _ _ => rfl)
  rw [← hQ]
  clear hR h64 hT hQ
  obtain ⟨W1, hr1, hb1, hs1, hP⟩ := make_mat n n (by omega) w (upto Q 0 0) (fun _ => 0)
  have HB := Lib.hid hb1
  have HP := Lib.hid hP
  have HS := Lib.hid hs1
  clear hb1 hP hs1
  go_enter Tryz.func6, Tryz.ntmps6
  go_wp2
  clear hr1
  go_loopw [12] (fun j wr => ∃ (i : Nat) (g2 : Nat → Nat), j = .int .i64 i ∧ i ≤ n ∧ Below w.heap.size w wr ∧ PMat w.heap.size wr w.heap.size g2 n n i (upto Q i 0)) (fun j _ => n - (intOf j).toNat)
  case atStart => exact ⟨0, fun _ => 0, rfl, by omega, HB.out, HP.out⟩
  case round =>
    clear HP HB
    obtain ⟨i, g1, rfl, hin, hB, hP⟩ := hrel
    by_cases hi : i < n
    · obtain ⟨W2, hr2, hb2, hs2, hN2⟩ := make_row n (by omega) wr
      have P2 := hP.below hb2
      have f1 := P2.cell_nil (Nat.le_refl i) hi
      have f2 := P2.frozen i
      obtain ⟨P3, hB2, hE2⟩ := hP.row hb2 (Nat.le_refl _) (hN2.congr fun b _ => (if_neg (by omega) : upto Q i 0 i b = .zero).symm) hi
      have f3 := P3.cell (Nat.lt_succ_self i)
      rw [upf_same] at f3
      have K4 := Lib.hid P3
      have L4 := Lib.hid (hB2.below (below_trans hB hb2) (Nat.le_refl _))
      clear P3 hB2 hE2 P2 hP hB hb2 hs2 hN2
      obtain ⟨g2, hg2⟩ : ∃ g2, g2 = upf g1 i wr.heap.size := ⟨_, rfl⟩
      rw [← hg2] at K4
      clear hg2
      have hi1 : i < i + 1 := Nat.lt_succ_self i
      go_wp2
      clear hr2 f1 f2 f3
      go_loopw [25] (fun j wr => ∃ k : Nat, j = .int .i64 k ∧ k ≤ n ∧ Below w.heap.size w wr ∧ PMat w.heap.size wr w.heap.size g2 n n (i + 1) (upto Q i k)) (fun j _ => n - (intOf j).toNat)
      case atStart => exact ⟨0, rfl, by omega, L4.out, K4.out⟩
      case round =>
        clear L4 K4
        rename_i wr1
        obtain ⟨k, rfl, hkn, hB, hP⟩ := hrel
        have KB := Lib.hid hB
        have HM := Lib.hid hP
        clear hB hP
        by_cases hk : k < n
        · rcases Nat.eq_zero_or_pos len with h0 | h0
          · have hz : upto Q i (k + 1) = upto Q i k := upto_skip (by rw [HQ.out, if_pos h0])
            have HM2 := Lib.hid (show PMat w.heap.size wr w.heap.size g2 n n (i + 1) (upto Q i (k + 1)) by rw [hz]; exact HM.out)
            subst h0
            clear hz HM
            go_wp2
            go_roundw
            case rel => exact ⟨k + 1, by go_num, by omega, KB.out, HM2.out⟩
            case measure => simp [intOf]; omega
          · obtain ⟨b, off, rfl, -, -⟩ := HR0.out h0
            have HR := Lib.hid (HR0.out.below KB.out)
            have hl0 : (0 : Int) < (len : Int) := by omega
            have hmn : i * n ≤ 1048576 := Nat.le_trans (Nat.mul_le_mul (show i ≤ 1024 by omega) hn) (by decide)
            have hl1 : ((len : Int) != 0) = true := by simp; omega
            have hl2 : ((len : Int) == 0) = false := by simp; omega
            obtain ⟨J, hJe⟩ : ∃ J, J = (i * n + k) % len := ⟨_, rfl⟩
            have hJ : J < len := by rw [hJe]; exact Nat.mod_lt _ h0
            have hJr : ((i * n + k : Nat) : Int) % (len : Int) = (J : Int) := by rw [hJe]; exact (Int.natCast_emod _ _).symm
            have hJt : ((i : Int) * (n : Int) + (k : Int)).tmod (len : Int) = (J : Int) := by
              rw [← hJr, Int.natCast_add, Int.natCast_mul]
              exact Int.tmod_eq_emod_of_nonneg (by have := Int.natCast_mul i n; omega)
            have hwr : IntKind.i64.wrap ((i : Int) * (n : Int)) = ((i * n : Nat) : Int) := by
              rw [← Int.natCast_mul, IntKind.wrap_i64]
              revert hmn
              generalize i * n = q
              intro hmn
              omega
            have hwa : IntKind.i64.wrap ((i : Int) * (n : Int) + (k : Int)) = ((i * n + k : Nat) : Int) := by
              rw [← Int.natCast_mul, ← Int.natCast_add, IntKind.wrap_i64]
              revert hmn
              generalize i * n = q
              intro hmn
              omega
            have hl3 : ¬ (len = 0) := by omega
            clear hJr hl1 hl2
            have hJ0 : (0 : Int) ≤ (J : Int) := by omega
            have hJ1 : (J : Int) < (len : Int) := by omega
            have HJE := Lib.hid hJe
            clear hJe
            go_upto_region 10 with fail
            refine region_last [.val (kIs (.slice (some ⟨w.heap.size, 0, none⟩) n n)), .val (kIs (.int .i64 (i : Int))), .val (kIs (.pointer (some ⟨w.heap.size, i, none⟩))), .val (kIs (.slice (some ⟨g2 i, 0, none⟩) n n)), .val (kIs (.int .i64 (k : Int))), .val (kIs (.slice (some ⟨b, off, none⟩) len cap)), .val (kIs (.int .i64 (i : Int))), .val (kIs (.int .i64 (n : Int))), .val (kIs (.int .i64 ((i * n : Nat) : Int))), .val (kIs (.int .i64 (k : Int))), .val (kIs (.int .i64 ((i * n + k : Nat) : Int))), .val (kIs (.slice (some ⟨b, off, none⟩) len cap)), .val (kIs (.int .i64 (len : Int))), .val (kIs (.int .i64 ((J : Nat) : Int))), .val (kIs (.pointer (some ⟨b, off + 3 * (J), none⟩))), .val (kIs (.agg #[.int .i64 (f (J)).1, .int .i64 (f (J)).2.1, .int .i64 (f (J)).2.2])), .val (kNum (ofR (f (J)).1 (f (J)).2.1 (f (J)).2.2)), .val (kIs (.pointer (some ⟨(g2 i), 5 * k, none⟩)))]
              (by kernel_rfl) (by kernel_rfl) (by kernel_rfl) (by kernel_rfl) (by kernel_rfl) ⟨Stab.b (stab_is _), Stab.b (stab_is _), Stab.b (stab_is _), Stab.b (stab_is _), Stab.b (stab_is _), Stab.b (stab_is _), Stab.b (stab_is _), Stab.b (stab_is _), Stab.b (stab_is _), Stab.b (stab_is _), Stab.b (stab_is _), Stab.b (stab_is _), Stab.b (stab_is _), Stab.b (stab_is _), Stab.b (stab_is _), Stab.b (stab_is _), Stab.b (stab_num _), Stab.b (stab_is _), trivial⟩ (by simp) (ol := _) rfl (by kernel_rfl) ⟨?_, ?_, ?_, ?_, ?_, ?_, ?_, ?_, ?_, ?_, ?_, ?_, ?_, ?_, ?_, ?_, ?_, ?_, trivial⟩ ?_
            · intro ts W hb hB hp; intro K hK; simp only [fillT, Nat.zero_add, Nat.reduceAdd, List.setIfInBounds_toArray, List.set_cons_zero, List.set_cons_succ] at hK ⊢; have HK := Lib.hid hK; clear hK hp; refine ⟨?_⟩; go_simp; exact HK.out _ _ rfl (Below.refl _ _)
            · intro ts W hb hB hp; intro K hK; simp only [fillT, Nat.zero_add, Nat.reduceAdd, List.setIfInBounds_toArray, List.set_cons_zero, List.set_cons_succ] at hK ⊢; have HK := Lib.hid hK; clear hK hp; refine ⟨?_⟩; go_simp; exact HK.out _ _ rfl (Below.refl _ _)
            · intro ts W hb hB hp; have h0 : ts 0 = _ := hp 0 (by kernel_rfl); have h1 : ts 1 = _ := hp 1 (by kernel_rfl); intro K hK; simp only [fillT, Nat.zero_add, Nat.reduceAdd, List.setIfInBounds_toArray, List.set_cons_zero, List.set_cons_succ, h0, h1] at hK ⊢; have HK := Lib.hid hK; clear hK hp; refine ⟨?_⟩; go_simp; exact HK.out _ _ rfl (Below.refl _ _)
            · intro ts W hb hB hp; have h2 : ts 2 = _ := hp 2 (by kernel_rfl); intro K hK; simp only [fillT, Nat.zero_add, Nat.reduceAdd, List.setIfInBounds_toArray, List.set_cons_zero, List.set_cons_succ, h2] at hK ⊢; have HK := Lib.hid hK; clear hK hp; have hcell := (HM.out.below hb).cell hi1; refine ⟨?_⟩; go_simp; exact HK.out _ _ rfl (Below.refl _ _)
            · intro ts W hb hB hp; intro K hK; simp only [fillT, Nat.zero_add, Nat.reduceAdd, List.setIfInBounds_toArray, List.set_cons_zero, List.set_cons_succ] at hK ⊢; have HK := Lib.hid hK; clear hK hp; refine ⟨?_⟩; go_simp; exact HK.out _ _ rfl (Below.refl _ _)
            · intro ts W hb hB hp; intro K hK; simp only [fillT, Nat.zero_add, Nat.reduceAdd, List.setIfInBounds_toArray, List.set_cons_zero, List.set_cons_succ] at hK ⊢; have HK := Lib.hid hK; clear hK hp; refine ⟨?_⟩; go_simp; exact HK.out _ _ rfl (Below.refl _ _)
            · intro ts W hb hB hp; intro K hK; simp only [fillT, Nat.zero_add, Nat.reduceAdd, List.setIfInBounds_toArray, List.set_cons_zero, List.set_cons_succ] at hK ⊢; have HK := Lib.hid hK; clear hK hp; refine ⟨?_⟩; go_simp; exact HK.out _ _ rfl (Below.refl _ _)
            · intro ts W hb hB hp; intro K hK; simp only [fillT, Nat.zero_add, Nat.reduceAdd, List.setIfInBounds_toArray, List.set_cons_zero, List.set_cons_succ] at hK ⊢; have HK := Lib.hid hK; clear hK hp; refine ⟨?_⟩; go_simp; exact HK.out _ _ rfl (Below.refl _ _)
            · intro ts W hb hB hp; have h6 : ts 6 = _ := hp 6 (by kernel_rfl); have h7 : ts 7 = _ := hp 7 (by kernel_rfl); intro K hK; simp only [fillT, Nat.zero_add, Nat.reduceAdd, List.setIfInBounds_toArray, List.set_cons_zero, List.set_cons_succ, h6, h7] at hK ⊢; have HK := Lib.hid hK; clear hK hp; refine ⟨?_⟩; go_simp; exact HK.out _ _ (by show _ = _; first | rfl | rw [hwr]) (Below.refl _ _)
            · intro ts W hb hB hp; intro K hK; simp only [fillT, Nat.zero_add, Nat.reduceAdd, List.setIfInBounds_toArray, List.set_cons_zero, List.set_cons_succ] at hK ⊢; have HK := Lib.hid hK; clear hK hp; refine ⟨?_⟩; go_simp; exact HK.out _ _ rfl (Below.refl _ _)
            · intro ts W hb hB hp; have h8 : ts 8 = _ := hp 8 (by kernel_rfl); have h9 : ts 9 = _ := hp 9 (by kernel_rfl); intro K hK; simp only [fillT, Nat.zero_add, Nat.reduceAdd, List.setIfInBounds_toArray, List.set_cons_zero, List.set_cons_succ, h8, h9] at hK ⊢; have HK := Lib.hid hK; clear hK hp; refine ⟨?_⟩; go_simp; exact HK.out _ _ (by show _ = _; first | rfl | rw [hwa]) (Below.refl _ _)
            · intro ts W hb hB hp; intro K hK; simp only [fillT, Nat.zero_add, Nat.reduceAdd, List.setIfInBounds_toArray, List.set_cons_zero, List.set_cons_succ] at hK ⊢; have HK := Lib.hid hK; clear hK hp; refine ⟨?_⟩; go_simp; exact HK.out _ _ rfl (Below.refl _ _)
            · intro ts W hb hB hp; have h11 : ts 11 = _ := hp 11 (by kernel_rfl); intro K hK; simp only [fillT, Nat.zero_add, Nat.reduceAdd, List.setIfInBounds_toArray, List.set_cons_zero, List.set_cons_succ, h11] at hK ⊢; have HK := Lib.hid hK; clear hK hp; refine ⟨?_⟩; go_simp; exact HK.out _ _ rfl (Below.refl _ _)
            · intro ts W hb hB hp; have h10 : ts 10 = _ := hp 10 (by kernel_rfl); have h12 : ts 12 = _ := hp 12 (by kernel_rfl); intro K hK; simp only [fillT, Nat.zero_add, Nat.reduceAdd, List.setIfInBounds_toArray, List.set_cons_zero, List.set_cons_succ, h10, h12] at hK ⊢; have HK := Lib.hid hK; clear hK hp; refine ⟨?_⟩; go_simp; exact HK.out _ _ (by show _ = _; first | rfl | rw [hJt]) (Below.refl _ _)
            · intro ts W hb hB hp; have h5 : ts 5 = _ := hp 5 (by kernel_rfl); have h13 : ts 13 = _ := hp 13 (by kernel_rfl); intro K hK; simp only [fillT, Nat.zero_add, Nat.reduceAdd, List.setIfInBounds_toArray, List.set_cons_zero, List.set_cons_succ, h5, h13] at hK ⊢; have HK := Lib.hid hK; clear hK hp; refine ⟨?_⟩; go_simp; exact HK.out _ _ (by show _ = _; rw [Nat.mul_comm]) (Below.refl _ _)
            · intro ts W hb hB hp; have h14 : ts 14 = _ := hp 14 (by kernel_rfl); intro K hK; simp only [fillT, Nat.zero_add, Nat.reduceAdd, List.setIfInBounds_toArray, List.set_cons_zero, List.set_cons_succ, h14] at hK ⊢; have HK := Lib.hid hK; clear hK hp; obtain ⟨q0, q1, q2⟩ := (HR.out.below hb).cells hJ; refine ⟨?_⟩; refine wp_load_rat rfl rfl q0 q1 q2 ?_; exact HK.out _ _ rfl (Below.refl _ _)
            · intro ts W hb hB hp; have h15 : ts 15 = _ := hp 15 (by kernel_rfl); intro K hK; simp only [fillT, Nat.zero_add, Nat.reduceAdd, List.setIfInBounds_toArray, List.set_cons_zero, List.set_cons_succ, h15] at hK ⊢; have HK := Lib.hid hK; clear hK hp; refine ⟨?_⟩; go_simp; refine (HOF.out W (J) (below_trans KB.out hb)).mono ?_; rintro e W9 ⟨r9, rfl, hr9, hb9⟩; exact HK.out _ _ hr9 hb9
            · intro ts W hb hB hp; have h3 : ts 3 = _ := hp 3 (by kernel_rfl); have h4 : ts 4 = _ := hp 4 (by kernel_rfl); intro K hK; simp only [fillT, Nat.zero_add, Nat.reduceAdd, List.setIfInBounds_toArray, List.set_cons_zero, List.set_cons_succ, h3, h4] at hK ⊢; have HK := Lib.hid hK; clear hK hp; refine ⟨?_⟩; go_simp; exact HK.out _ _ (by simp [kIs, Nat.mul_comm]) (Below.refl _ _)
            intro ts W3 hb3 hh hap K hK
            have h16 := held_num (hh 16 (by simp)) rfl
            have e17 := held_is (hh 17 (by simp)) rfl
            have HK := Lib.hid hK
            clear hK hh hap
            simp only [fillT, Nat.zero_add, Nat.reduceAdd, List.setIfInBounds_toArray, List.set_cons_zero, List.set_cons_succ, e17]
            refine ⟨?_⟩
            refine wp_store_elem rfl (k := k) rfl rfl ((HM.out.rows _ hi1).below hb3) hk h16 (fun W4 hbut hext hrow => HK.out _ _ ?_)
            clear e17 h16
            have M3 := HM.out.below hb3 |>.set hi1 hbut hext hrow
            have e4 : ofR (f J).1 (f J).2.1 (f J).2.2 = Q i k := by rw [HQ.out, if_neg (by omega), HJE.out]
            rw [e4] at M3
            have e5 := upto_next Q i k
            unfold upm at e5
            rw [e5] at M3
            have M4 := Lib.hid M3
            have B4 := Lib.hid (hbut.below (below_trans KB.out hb3) (HM.out.sep.los i hi1))
            clear hbut hext hrow hb3 M3 HM KB e4 e5
            go_wp2
            go_roundw
            case rel => exact ⟨k + 1, by go_num, by omega, B4.out, M4.out⟩
            case measure => simp [intOf]; omega
        · obtain rfl : k = n := by omega
          have HM3 := Lib.hid (HM.out.congr (F' := upto Q (i + 1) 0) fun a b _ hb => upto_shut _ i k a b hb)
          go_wp2
          go_roundw
          case rel => exact ⟨i + 1, g2, by go_num, by omega, KB.out, HM3.out⟩
          case measure => simp [intOf]; omega
    · obtain rfl : i = n := by omega
      obtain ⟨h1, h2⟩ := hP.done
      have HM3 := Lib.hid (h1.congr (F' := Q) fun a b ha _ => upto_all _ i a b ha)
      have KB := Lib.hid hB
      clear hB hP h1
      go_wp2
      go_ret
      exact ⟨_, _, rfl, HM3.out, h2, KB.out⟩
end Go.Proofs.YtmlkpnfjgifgfaaGreatDoor
