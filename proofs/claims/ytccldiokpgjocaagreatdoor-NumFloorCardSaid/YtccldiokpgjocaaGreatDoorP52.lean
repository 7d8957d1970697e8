import Derived.Test.YtccldiokpgjocaaGreatDoorP14
import Derived.Test.YtccldiokpgjocaaGreatDoorP17
import Derived.Test.YtccldiokpgjocaaGreatDoorP19
import Derived.Test.YtccldiokpgjocaaGreatDoorP27
import Derived.Test.YtccldiokpgjocaaGreatDoorP38
set_option linter.unusedSimpArgs false
set_option linter.unusedVariables false
namespace Go.Proofs.YtccldiokpgjocaaGreatDoor
open Go.RowKit
set_option maxRecDepth 100000
theorem floor_up {p n : Nat} (hn : 0 < n) (h : p % n ≠ 0) : -(p : Int) / (n : Int) = -((p / n + 1 : Nat) : Int) := by
  have h1 := Nat.div_add_mod p n
  have h2 := Nat.mod_lt p hn
  have e : -(p : Int) = ((n - p % n : Nat) : Int) + (n : Int) * -((p / n + 1 : Nat) : Int) := by
    have : (p : Int) = (n : Int) * ((p / n : Nat) : Int) + ((p % n : Nat) : Int) := by exact_mod_cast h1.symm
    rw [Int.natCast_sub (Nat.le_of_lt h2), Int.natCast_add, Int.mul_neg, Int.mul_add]
    simp only [Int.natCast_one, Int.mul_one]
    omega
  rw [e, Int.add_mul_ediv_left _ _ (by omega), Int.ediv_eq_zero_of_lt (by omega) (by omega)]
  omega
theorem floor_ex {p n : Nat} (hn : 0 < n) (h : p % n = 0) : -(p : Int) / (n : Int) = -((p / n : Nat) : Int) := by
  have h1 := Nat.div_add_mod p n
  rw [h, Nat.add_zero] at h1
  have e : -(p : Int) = (n : Int) * -((p / n : Nat) : Int) := by
    rw [Int.mul_neg, ← Int.natCast_mul, h1]
  rw [e, Int.mul_ediv_cancel_left _ (by omega)]
theorem floor_parts (z : Int) {n : Nat} (hn : 0 < n) : (z / (n : Int)).natAbs = z.natAbs / n + (if z < 0 ∧ z.natAbs % n ≠ 0 then 1 else 0) ∧ decide (z / (n : Int) < 0) = decide (z < 0) := by
  rcases Int.lt_or_le z 0 with h | h
  · obtain ⟨p, rfl⟩ : ∃ p : Nat, z = -(p : Int) := ⟨z.natAbs, by omega⟩
    rw [Int.natAbs_neg, Int.natAbs_natCast]
    by_cases hr : p % n = 0
    · rw [floor_ex hn hr, Int.natAbs_neg, Int.natAbs_natCast, if_neg (fun e => e.2 hr)]
      refine ⟨by omega, ?_⟩
      have hp : 0 < p / n := by
        rcases Nat.eq_zero_or_pos (p / n) with e | e
        · have := Nat.div_add_mod p n
          rw [hr, e] at this
          omega
        · exact e
      rw [decide_eq_true h, decide_eq_true (by omega)]
    · rw [floor_up hn hr, Int.natAbs_neg, Int.natAbs_natCast, if_pos ⟨h, hr⟩]
      refine ⟨rfl, ?_⟩
      rw [decide_eq_true h, decide_eq_true (by generalize p / n = k; omega)]
  · obtain ⟨p, rfl⟩ : ∃ p : Nat, z = (p : Int) := ⟨z.toNat, by omega⟩
    rw [← Int.natCast_ediv, Int.natAbs_natCast, Int.natAbs_natCast, if_neg (fun e => absurd e.1 (by omega))]
    refine ⟨by omega, ?_⟩
    rw [decide_eq_false (by generalize p / n = k; omega), decide_eq_false (by omega)]
set_option maxHeartbeats 1000000 in
theorem floorI_any (v u : Value) (z : Int) (n : Nat) (w : World) (h : IsInt w v z) (hu : IsNat w u n) (hn : 0 < n) (h1 : wl z.natAbs < 549755813888) (h2 : wl n < 549755813888) :
    Calls Tryz.prog 67 #[v, u] w (RetInt w (z / (n : Int))) := by
  obtain ⟨s, rfl, hs⟩ := h
  obtain ⟨A, m, c, rfl, hnn⟩ := hs.ex
  obtain ⟨B, k, d, rfl, hkk⟩ := hu.ex
  obtain ⟨g1, g2⟩ := floor_parts z hn
  have HD := hid (fun W (hb : Below w.heap.size w W) => div_any _ _ _ _ W (hs.below hb) (hu.below hb) hn h1 h2)
  have HG := hid g1
  have HS := hid g2
  have hq1 : wl (z.natAbs / n) ≤ wl z.natAbs := wl_mono (Nat.div_le_self _ _)
  have HW := hid (show wl (z.natAbs / n) < 1099511627776 by omega)
  clear hnn hkk hs hu g1 g2 h1 h2 hq1
  obtain ⟨b, hb0⟩ : ∃ b, decide (z < 0) = b := ⟨_, rfl⟩
  have HB := hid hb0
  rw [hb0]
  clear hb0
  go_enter Tryz.func67, Tryz.ntmps67
  go_wp2_with fail
  refine (HD.out _ bel).mono ?_
  rintro e W2 ⟨v1, v2, rfl, hq, hr, hb2⟩
  obtain ⟨A2, m2, c2, rfl, hm2⟩ := hq.ex
  obtain ⟨A3, m3, c3, rfl, hm3⟩ := hr.ex
  obtain ⟨hc, hf, hz⟩ := bcells hb2 (w.heap.size + 1 + 1) (by simp)
  have k0 : W2.cell? ⟨w.heap.size, 0, none⟩ = some (.slice A m c) := (hc _ 0 (by omega)).trans (by simp [go_sem])
  have k1 : W2.cell? ⟨w.heap.size, 1, none⟩ = some (.bool b) := (hc _ 1 (by omega)).trans (by simp [go_sem])
  have k2 : W2.cell? ⟨w.heap.size + 1, 0, none⟩ = some (.slice none 0 0) := (hc _ 0 (by omega)).trans (by simp [go_sem])
  have k3 : W2.cell? ⟨w.heap.size + 1, 1, none⟩ = some (.bool false) := (hc _ 1 (by omega)).trans (by simp [go_sem])
  have y2 : W2.frozen? ⟨w.heap.size + 1, 0, none⟩ = false := (hf _ 0 (by omega)).trans (by simp [go_sem])
  have y3 : W2.frozen? ⟨w.heap.size + 1, 1, none⟩ = false := (hf _ 1 (by omega)).trans (by simp [go_sem])
  have B2 := hid (show Below w.heap.size w W2 from below_trans (below_trans (below_alloc _ _) (below_alloc _ _)) hb2)
  have HQ := hid hq
  have HM3 := hid hm3
  clear hc hf hb2 hq hr hm2 hm3 HD
  by_cases hr0 : z.natAbs % n = 0
  · have hm : m3 = 0 := by rw [HM3.out, hr0, wl_zero]
    subst hm
    have hq2 : IsNat W2 (.slice A2 m2 c2) (z / (n : Int)).natAbs := by
      have h := HG.out
      rw [if_neg (fun e => e.2 hr0), Nat.add_zero] at h
      rw [h]
      exact HQ.out
    have H2 := hid hq2
    clear hq2 hr0
    cases b
    · go_wp2
      refine bodyPost_ret (v := .agg #[.slice A2 m2 c2, .bool false]) (by simp [results, Tryz.results67, go_sem, k2, k3, y2, y3]) rfl ?_
      exact RetInt.box (A := none) (n := 0) (c := 0) (q := false) B2.out (by simp) H2.out (by rw [HS.out, HB.out]) k2 k3 _ _
    · go_wp2
      refine bodyPost_ret (v := .agg #[.slice A2 m2 c2, .bool true]) (by simp [results, Tryz.results67, go_sem, k2, k3, y2, y3]) rfl ?_
      exact RetInt.box (A := none) (n := 0) (c := 0) (q := false) B2.out (by simp) H2.out (by rw [HS.out, HB.out]) k2 k3 _ _
  · have hm : 0 < m3 := by
      rw [HM3.out]
      have := wl_eq_zero (x := z.natAbs % n)
      omega
    cases b
    · have hq2 : IsNat W2 (.slice A2 m2 c2) (z / (n : Int)).natAbs := by
        have h := HG.out
        rw [if_neg (fun e => absurd HB.out (by rw [decide_eq_true e.1]; decide)), Nat.add_zero] at h
        rw [h]
        exact HQ.out
      have H2 := hid hq2
      clear hq2 hr0 hm
      go_wp2
      refine bodyPost_ret (v := .agg #[.slice A2 m2 c2, .bool false]) (by simp [results, Tryz.results67, go_sem, k2, k3, y2, y3]) rfl ?_
      exact RetInt.box (A := none) (n := 0) (c := 0) (q := false) B2.out (by simp) H2.out (by rw [HS.out, HB.out]) k2 k3 _ _
    · have hz0 : z < 0 := of_decide_eq_true HB.out
      have HN := hid (show (z / (n : Int)).natAbs = z.natAbs / n + 1 by
        have h := HG.out
        rw [if_pos ⟨hz0, hr0⟩] at h
        exact h)
      have hz2 := hz
      clear hr0 hz0
      go_wp2_with fail
      have D3 : Below W2.heap.size W2 (W2.alloc (.cells #[.int .u32 1] 45)) := below_alloc _ _
      refine (add_any _ _ (z.natAbs / n) 1 _ (HQ.out.below D3) (one_nat W2) HW.out (by rw [wl_one]; omega)).mono ?_
      rintro e W4 ⟨v5, rfl, h5, hb4⟩
      obtain ⟨A5, m5, c5, rfl, -⟩ := h5.ex
      have B4 := below_trans D3 hb4
      obtain ⟨hc, hf, -⟩ := bcells B4 (w.heap.size + 1 + 1) hz
      replace k0 := (hc _ 0 (by omega)).trans k0
      replace k1 := (hc _ 1 (by omega)).trans k1
      replace k2 := (hc _ 0 (by omega)).trans k2
      replace k3 := (hc _ 1 (by omega)).trans k3
      replace y2 := (hf _ 0 (by omega)).trans y2
      replace y3 := (hf _ 1 (by omega)).trans y3
      have B5 := hid (below_trans B2.out B4)
      have H2 := hid (show IsNat W4 (.slice A5 m5 c5) (z / (n : Int)).natAbs by rw [HN.out]; exact h5)
      clear hc hf B4 D3 hb4 h5 hm
      go_wp2
      refine bodyPost_ret (v := .agg #[.slice A5 m5 c5, .bool true]) (by simp [results, Tryz.results67, go_sem, k2, k3, y2, y3]) rfl ?_
      exact RetInt.box (A := none) (n := 0) (c := 0) (q := false) B5.out (by simp) H2.out (by rw [HS.out, HB.out]) k2 k3 _ _
set_option maxHeartbeats 1000000 in
theorem rIntFloor_any (v u : Value) (z : Int) (n : Nat) (w : World) (h : IsRI w v z) (hu : IsNat w u n) (hn : 0 < n) (h1 : wl z.natAbs < 549755813888) (h2 : wl n < 549755813888) :
    Calls Tryz.prog 69 #[v, u] w (RetRI w (z / (n : Int))) := by
  obtain ⟨s, rfl, hs⟩ := h
  obtain ⟨A, m, c, rfl, hnn⟩ := hs.ex
  obtain ⟨B, k, d, rfl, hkk⟩ := hu.ex
  obtain ⟨g1, g2⟩ := floor_parts z hn
  have HD := hid (fun W (hb : Below w.heap.size w W) => rNatDiv_any _ _ _ _ W (hs.below hb) (hu.below hb) hn h1 h2)
  have HG := hid g1
  have HS := hid g2
  have hq1 : wl (z.natAbs / n) ≤ wl z.natAbs := wl_mono (Nat.div_le_self _ _)
  have HW := hid (show wl (z.natAbs / n) < 1099511627776 by omega)
  clear hnn hkk hs hu g1 g2 h1 h2 hq1
  obtain ⟨b, hb0⟩ : ∃ b, decide (z < 0) = b := ⟨_, rfl⟩
  have HB := hid hb0
  rw [hb0]
  clear hb0
  go_enter Tryz.func69, Tryz.ntmps69
  go_wp2_with fail
  refine (HD.out _ bel).mono ?_
  rintro e W2 ⟨v1, v2, rfl, hq, hr, hb2⟩
  obtain ⟨A2, m2, c2, rfl, hm2⟩ := hq.ex
  obtain ⟨A3, m3, c3, rfl, hm3⟩ := hr.ex
  obtain ⟨hc, hf, hz⟩ := bcells hb2 (w.heap.size + 1 + 1) (by simp)
  have k0 : W2.cell? ⟨w.heap.size, 0, none⟩ = some (.bool b) := (hc _ 0 (by omega)).trans (by simp [go_sem])
  have k1 : W2.cell? ⟨w.heap.size, 1, none⟩ = some (.slice A m c) := (hc _ 1 (by omega)).trans (by simp [go_sem])
  have k2 : W2.cell? ⟨w.heap.size + 1, 0, none⟩ = some (.bool false) := (hc _ 0 (by omega)).trans (by simp [go_sem])
  have k3 : W2.cell? ⟨w.heap.size + 1, 1, none⟩ = some (.slice none 0 0) := (hc _ 1 (by omega)).trans (by simp [go_sem])
  have y2 : W2.frozen? ⟨w.heap.size + 1, 0, none⟩ = false := (hf _ 0 (by omega)).trans (by simp [go_sem])
  have y3 : W2.frozen? ⟨w.heap.size + 1, 1, none⟩ = false := (hf _ 1 (by omega)).trans (by simp [go_sem])
  have B2 := hid (show Below w.heap.size w W2 from below_trans (below_trans (below_alloc _ _) (below_alloc _ _)) hb2)
  have HQ := hid hq
  have HM3 := hid hm3
  clear hc hf hb2 hq hr hm2 hm3 HD
  have HP := hid (fun (hb : decide (z < 0) = true) => show (true && decide (0 < (z / (n : Int)).natAbs)) = true by
    have h := HS.out
    rw [hb] at h
    have := of_decide_eq_true h
    rw [Bool.true_and, decide_eq_true_eq]
    omega)
  by_cases hr0 : z.natAbs % n = 0
  · have hm : m3 = 0 := by rw [HM3.out, hr0, wl_zero]
    subst hm
    have hq2 : IsNat W2 (.slice A2 m2 c2) (z / (n : Int)).natAbs := by
      have h := HG.out
      rw [if_neg (fun e => e.2 hr0), Nat.add_zero] at h
      rw [h]
      exact HQ.out
    have H2 := hid hq2
    clear hq2 hr0
    cases b
    · go_wp2_with fail
      refine (rsigned_any false _ _ (z / (n : Int)) W2 H2.out rfl (by rw [HS.out, HB.out]; rfl)).mono ?_
      rintro e W9 ⟨v9, rfl, h9, hb9⟩
      obtain ⟨A9, m9, c9, rfl, -, -⟩ := h9.parts
      obtain ⟨hc9, hf9, -⟩ := bcells hb9 (w.heap.size + 1 + 1) hz
      replace k2 := (hc9 _ 0 (by omega)).trans k2
      replace k3 := (hc9 _ 1 (by omega)).trans k3
      replace y2 := (hf9 _ 0 (by omega)).trans y2
      replace y3 := (hf9 _ 1 (by omega)).trans y3
      have B9 := hid (below_trans B2.out hb9)
      have H9 := hid h9
      clear hc9 hf9 hb9 h9
      go_wp2
      refine bodyPost_ret (v := .agg #[.bool (decide (z / (n : Int) < 0)), .slice A9 m9 c9]) (by simp [results, Tryz.results69, go_sem, k2, k3, y2, y3]) rfl ?_
      exact RetRI.box B9.out (by simp) (IntBox.mk' k2 k3) H9.out _ _
    · go_wp2_with fail
      refine (rsigned_any true _ _ (z / (n : Int)) W2 H2.out rfl (by rw [HP.out HB.out, HS.out, HB.out])).mono ?_
      rintro e W9 ⟨v9, rfl, h9, hb9⟩
      obtain ⟨A9, m9, c9, rfl, -, -⟩ := h9.parts
      obtain ⟨hc9, hf9, -⟩ := bcells hb9 (w.heap.size + 1 + 1) hz
      replace k2 := (hc9 _ 0 (by omega)).trans k2
      replace k3 := (hc9 _ 1 (by omega)).trans k3
      replace y2 := (hf9 _ 0 (by omega)).trans y2
      replace y3 := (hf9 _ 1 (by omega)).trans y3
      have B9 := hid (below_trans B2.out hb9)
      have H9 := hid h9
      clear hc9 hf9 hb9 h9
      go_wp2
      refine bodyPost_ret (v := .agg #[.bool (decide (z / (n : Int) < 0)), .slice A9 m9 c9]) (by simp [results, Tryz.results69, go_sem, k2, k3, y2, y3]) rfl ?_
      exact RetRI.box B9.out (by simp) (IntBox.mk' k2 k3) H9.out _ _
  · have hm : 0 < m3 := by
      rw [HM3.out]
      have := wl_eq_zero (x := z.natAbs % n)
      omega
    cases b
    · have hq2 : IsNat W2 (.slice A2 m2 c2) (z / (n : Int)).natAbs := by
        have h := HG.out
        rw [if_neg (fun e => absurd HB.out (by rw [decide_eq_true e.1]; decide)), Nat.add_zero] at h
        rw [h]
        exact HQ.out
      have H2 := hid hq2
      clear hq2 hr0 hm
      go_wp2_with fail
      refine (rsigned_any false _ _ (z / (n : Int)) W2 H2.out rfl (by rw [HS.out, HB.out]; rfl)).mono ?_
      rintro e W9 ⟨v9, rfl, h9, hb9⟩
      obtain ⟨A9, m9, c9, rfl, -, -⟩ := h9.parts
      obtain ⟨hc9, hf9, -⟩ := bcells hb9 (w.heap.size + 1 + 1) hz
      replace k2 := (hc9 _ 0 (by omega)).trans k2
      replace k3 := (hc9 _ 1 (by omega)).trans k3
      replace y2 := (hf9 _ 0 (by omega)).trans y2
      replace y3 := (hf9 _ 1 (by omega)).trans y3
      have B9 := hid (below_trans B2.out hb9)
      have H9 := hid h9
      clear hc9 hf9 hb9 h9
      go_wp2
      refine bodyPost_ret (v := .agg #[.bool (decide (z / (n : Int) < 0)), .slice A9 m9 c9]) (by simp [results, Tryz.results69, go_sem, k2, k3, y2, y3]) rfl ?_
      exact RetRI.box B9.out (by simp) (IntBox.mk' k2 k3) H9.out _ _
    · have hz0 : z < 0 := of_decide_eq_true HB.out
      have HN := hid (show (z / (n : Int)).natAbs = z.natAbs / n + 1 by
        have h := HG.out
        rw [if_pos ⟨hz0, hr0⟩] at h
        exact h)
      have hz2 := hz
      clear hr0 hz0
      go_wp2_with fail
      have D3 : Below W2.heap.size W2 (W2.alloc (.cells #[.int .u32 1] 45)) := below_alloc _ _
      refine (rNatAdd_any _ _ (z.natAbs / n) 1 _ (HQ.out.below D3) (one_nat W2) HW.out (by rw [wl_one]; omega)).mono ?_
      rintro e W4 ⟨v5, rfl, h5, hb4⟩
      obtain ⟨A5, m5, c5, rfl, -⟩ := h5.ex
      have B4 := below_trans D3 hb4
      obtain ⟨hc, hf, -⟩ := bcells B4 (w.heap.size + 1 + 1) hz
      replace k0 := (hc _ 0 (by omega)).trans k0
      replace k1 := (hc _ 1 (by omega)).trans k1
      replace k2 := (hc _ 0 (by omega)).trans k2
      replace k3 := (hc _ 1 (by omega)).trans k3
      replace y2 := (hf _ 0 (by omega)).trans y2
      replace y3 := (hf _ 1 (by omega)).trans y3
      have B5 := hid (below_trans B2.out B4)
      have HZ4 := hid B4.size
      have H2 := hid (show IsNat W4 (.slice A5 m5 c5) (z / (n : Int)).natAbs by rw [HN.out]; exact h5)
      clear hc hf B4 D3 hb4 h5 hm
      go_wp2_with fail
      refine (rsigned_any true _ _ (z / (n : Int)) W4 H2.out rfl (by rw [HP.out HB.out, HS.out, HB.out])).mono ?_
      rintro e W9 ⟨v9, rfl, h9, hb9⟩
      obtain ⟨A9, m9, c9, rfl, -, -⟩ := h9.parts
      obtain ⟨hc9, hf9, -⟩ := bcells hb9 (w.heap.size + 1 + 1) (Nat.le_trans hz HZ4.out)
      replace k2 := (hc9 _ 0 (by omega)).trans k2
      replace k3 := (hc9 _ 1 (by omega)).trans k3
      replace y2 := (hf9 _ 0 (by omega)).trans y2
      replace y3 := (hf9 _ 1 (by omega)).trans y3
      have B9 := hid (below_trans B5.out hb9)
      have H9 := hid h9
      clear hc9 hf9 hb9 h9
      go_wp2
      refine bodyPost_ret (v := .agg #[.bool (decide (z / (n : Int) < 0)), .slice A9 m9 c9]) (by simp [results, Tryz.results69, go_sem, k2, k3, y2, y3]) rfl ?_
      exact RetRI.box B9.out (by simp) (IntBox.mk' k2 k3) H9.out _ _
def flz (p : Rat) (k : Nat) : Int := p.num * ((2 ^ k : Nat) : Int) / (p.den : Int)
def Cx.flr (x : Cx) (k : Nat) : Cx := ⟨(flz x.re k : Rat) / ((2 ^ k : Nat) : Rat), (flz x.im k : Rat) / ((2 ^ k : Nat) : Rat)⟩
theorem ediv_cross {a a' : Int} {d d' : Nat} (hd : 0 < d) (hd' : 0 < d') (h : a * (d' : Int) = a' * (d : Int)) : a / (d : Int) = a' / (d' : Int) := by
  have e1 : a / (d : Int) = a * (d' : Int) / ((d : Int) * (d' : Int)) := (Int.mul_ediv_mul_of_pos_left a (d : Int) (by omega)).symm
  have e2 : a' / (d' : Int) = a' * (d : Int) / ((d' : Int) * (d : Int)) := (Int.mul_ediv_mul_of_pos_left a' (d' : Int) (by omega)).symm
  rw [e1, e2, h, Int.mul_comm (d : Int)]
theorem flz_of {p : Rat} {a : Int} {d : Nat} (hd : 0 < d) (h : p * (d : Rat) = (a : Rat)) (k : Nat) : a * 2 ^ k / (d : Int) = flz p k := by
  unfold flz
  rw [pow_int]
  refine ediv_cross hd p.den_pos ?_
  have := cross h (mul_den p)
  rw [Int.mul_right_comm, this, Int.mul_right_comm]
theorem two_pos (k : Nat) : 0 < 2 ^ k := Nat.pow_pos (by omega)
theorem flr_terms (x : Cx) (k : Nat) : (x.flr k).re * ((2 ^ k : Nat) : Rat) = (flz x.re k : Rat) ∧ (x.flr k).im * ((2 ^ k : Nat) : Rat) = (flz x.im k : Rat) := by
  have h := natCast_ne (two_pos k)
  constructor
  · show (flz x.re k : Rat) / _ * _ = _
    exact Rat.div_mul_cancel h
  · show (flz x.im k : Rat) / _ * _ = _
    exact Rat.div_mul_cancel h
theorem wl_two (k : Nat) : wl (2 ^ k) ≤ k / 32 + 2 := by
  have := wl_up 1 k
  rw [Nat.one_mul, wl_one] at this
  omega
theorem wl_shl (a : Int) (k : Nat) : wl (a * 2 ^ k).natAbs ≤ wl a.natAbs + k / 32 + 1 := by
  rw [Int.natAbs_mul, Int.natAbs_pow]
  exact wl_up _ _
theorem wl_fl (z : Int) {n : Nat} (hn : 0 < n) : wl (z / (n : Int)).natAbs ≤ wl z.natAbs + 2 := by
  rw [(floor_parts z hn).1]
  have h1 : z.natAbs / n + (if z < 0 ∧ z.natAbs % n ≠ 0 then 1 else 0) ≤ z.natAbs + 1 := by
    have := Nat.div_le_self z.natAbs n
    split <;> omega
  have h2 := wl_add z.natAbs 1
  rw [wl_one] at h2
  have h3 := wl_mono h1
  omega
theorem Sz.flr {x : Cx} {n : Nat} (h : Sz x n) (k : Nat) : Sz (x.flr k) (n + k / 32 + 3) := by
  obtain ⟨a, b, d, hl⟩ := Low.ex x
  obtain ⟨s1, s2, s3⟩ := h a b d hl
  obtain ⟨t1, t2⟩ := flr_terms x k
  have u1 := wl_fl (a * 2 ^ k) hl.pos
  have u2 := wl_fl (b * 2 ^ k) hl.pos
  rw [flz_of hl.pos hl.2.2.1 k] at u1
  rw [flz_of hl.pos hl.2.2.2 k] at u2
  have v1 := wl_shl a k
  have v2 := wl_shl b k
  have := wl_two k
  exact Sz.of (two_pos k) t1 t2 (by omega) (by omega) (by omega)
def kcl (k : Int) : Nat := (max 0 (min k 1000)).toNat
theorem kcl_eq (k : Int) : max 0 (min k 1000) = (kcl k : Int) ∧ kcl k ≤ 1000 := by unfold kcl; omega
theorem one_run2 (W : World) : (Instr.buildSlice 26 1 #[(0, .int .u32 1)]).run Tryz.prog W =
    .ok (.slice (some ⟨W.heap.size, 0, none⟩) 1 1) (W.alloc (.cells #[.int .u32 1] 45)) := by simp [go_sem]
set_option maxHeartbeats 2000000 in
theorem floorN_any (v : Value) (x : Cx) (k : Int) (w : World) (h : IsNum w v x) (m : Nat) (hx : Sz x m) (hm : m < 268435456) (hT : Tab w) :
    Calls Tryz.prog 26 #[v, .int .i64 k] w (RetNum w (x.flr (kcl k))) := by
  have HDn := hid (fun W (hb : Below w.heap.size w W) => denominator_any _ _ W (h.below hb))
  obtain ⟨A1, n1, c1, p1, A1b, n1b, c1b, p1b, A1c, n1c, c1c, a1, b1, d1, rfl, hl1, hr1, hi1, hs1, hn1, hm1, hd1, hp1, hq1⟩ := h.parts
  have s1 := hx _ _ _ hl1
  obtain ⟨hk1, hk2⟩ := kcl_eq k
  generalize kcl k = K at *
  have v1 := wl_shl a1 K
  have v2 := wl_shl b1 K
  have f1 := wl_fl (a1 * 2 ^ K) hl1.pos
  have f2 := wl_fl (b1 * 2 ^ K) hl1.pos
  have w2 := wl_two K
  have HU1 := hid (fun W (hb : Below w.heap.size w W) => upI_any _ a1 K W (hr1.below hb) (by omega) (by omega))
  have HU2 := hid (fun W (hb : Below w.heap.size w W) => upI_any _ b1 K W (hi1.below hb) (by omega) (by omega))
  have HDx := hid (fun W (hb : Below w.heap.size w W) => HDn.out W hb a1 b1 d1 hl1)
  have HF1 := hid (fun W v u (h1 : IsInt W v (a1 * 2 ^ K)) (h2 : IsNat W u d1) => floorI_any _ _ _ _ W h1 h2 hl1.pos (by omega) (by omega))
  have HF2 := hid (fun W v u (h1 : IsInt W v (b1 * 2 ^ K)) (h2 : IsNat W u d1) => floorI_any _ _ _ _ W h1 h2 hl1.pos (by omega) (by omega))
  have HP := hid (fun W v (h1 : IsNat W v 1) => (up_any v 1 K W h1 (by rw [wl_one]; omega) (by omega)).mono (R' := RetNat W (2 ^ K)) fun e w' h => by rw [Nat.one_mul] at h; exact h)
  have HLo := hid (fun W v u t (hb : Below w.heap.size w W) (h1 : IsInt W v (a1 * 2 ^ K / (d1 : Int))) (h2 : IsInt W u (b1 * 2 ^ K / (d1 : Int))) (h3 : IsNat W t (2 ^ K)) =>
    lowest_any _ _ _ _ _ (2 ^ K) _ (x.flr K) W h1 h2 h3 (Den.self (two_pos K)) (by rw [flz_of hl1.pos hl1.2.2.1]; exact (flr_terms x K).1) (by rw [flz_of hl1.pos hl1.2.2.2]; exact (flr_terms x K).2) (by omega) (by omega) (by omega) (hT.below hb))
  have hk0 : (0 : Int) ≤ (K : Int) := by omega
  clear HDn h hx hm hT s1 v1 v2 f1 f2 w2 hl1 hr1 hi1 hs1 hn1 hm1 hd1 hp1 hq1
  go_enter Tryz.func26, Tryz.ntmps26
  go_upto_region 1 with fail
  obtain ⟨W1, hW1⟩ : ∃ W1 : World, W1 = (w.alloc (.cells #[.slice A1 n1 c1, .bool p1, .slice A1b n1b c1b, .bool p1b, .slice A1c n1c c1c] 30)).alloc (.cells #[.slice none 0 0, .bool false, .slice none 0 0, .bool false, .slice none 0 0] 30) := ⟨_, rfl⟩
  rw [← hW1]
  have B1 : Below w.heap.size w W1 := by rw [hW1]; exact bel
  have X := boxes2 w (.cells #[.slice A1 n1 c1, .bool p1, .slice A1b n1b c1b, .bool p1b, .slice A1c n1c c1c] 30) (.cells #[.slice none 0 0, .bool false, .slice none 0 0, .bool false, .slice none 0 0] 30)
  rw [← hW1] at X
  obtain ⟨X0, z0, X1, z1⟩ := X
  clear hW1
  have B := B1
  clear B1
  go_upto_region 2 with fail
  try rw [hk1]
  refine region_lin [.val (kIs (.pointer (some ⟨w.heap.size, 0, none⟩))), .val (kIs (.agg #[.slice A1 n1 c1, .bool p1])), .val (kIs (.int .i64 (K : Int))), .val (kInt (a1 * 2 ^ K)), .val (kIs (.agg #[.slice A1 n1 c1, .bool p1, .slice A1b n1b c1b, .bool p1b, .slice A1c n1c c1c])), .val (kNat d1), .val (kInt (a1 * 2 ^ K / (d1 : Int))), .val (kIs (.pointer (some ⟨w.heap.size, 2, none⟩))), .val (kIs (.agg #[.slice A1b n1b c1b, .bool p1b])), .val (kIs (.int .i64 (K : Int))), .val (kInt (b1 * 2 ^ K)), .val (kIs (.agg #[.slice A1 n1 c1, .bool p1, .slice A1b n1b c1b, .bool p1b, .slice A1c n1c c1c])), .val (kNat d1), .val (kInt (b1 * 2 ^ K / (d1 : Int))), .box 28 zInt, .box 28 zInt, .put 14 6, .put 15 13]
    (by kernel_rfl) (by kernel_rfl) (by kernel_rfl) (by kernel_rfl) (by kernel_rfl) ⟨stab_is _, stab_is _, stab_is _, stab_int _, stab_is _, stab_nat _, stab_int _, stab_is _, stab_is _, stab_is _, stab_int _, stab_is _, stab_nat _, stab_int _, trivial⟩ (by simp) ⟨?_, ?_, ?_, ?_, ?_, ?_, ?_, ?_, ?_, ?_, ?_, ?_, ?_, ?_, alloc_int, alloc_int, store_int _, store_int _, trivial⟩ ?_
  · exact obp
  · intro ts W hb hB hp; have h0 : ts 0 = _ := hp 0 (by kernel_rfl); intro K hK; simp only [fillT, Nat.zero_add, Nat.reduceAdd, sA, sB, sC, h0] at hK ⊢; have HK := hid hK; clear hK hp; obtain ⟨f0, f1, f2, f3, f4, -, -, -, -, -⟩ := bx5 ((hb.block _ z0).trans X0); refine ⟨?_⟩; go_simp; exact HK.out _ _ rfl rfB
  · exact obp
  · intro ts W hb hB hp; have h1 : ts 1 = _ := hp 1 (by kernel_rfl); have h2 : ts 2 = _ := hp 2 (by kernel_rfl); intro K hK; simp only [fillT, Nat.zero_add, Nat.reduceAdd, sA, sB, sC, h1, h2] at hK ⊢; have HK := hid hK; clear hK hp; refine ⟨?_⟩; go_simp; refine (HU1.out W (below_trans B hb)).mono ?_; rintro e W9 ⟨r9, rfl, hr9, hb9⟩; exact HK.out _ _ hr9 hb9
  · intro ts W hb hB hp; intro K hK; simp only [fillT, Nat.zero_add, Nat.reduceAdd, sA, sB, sC] at hK ⊢; have HK := hid hK; clear hK hp; obtain ⟨f0, f1, f2, f3, f4, -, -, -, -, -⟩ := bx5 ((hb.block _ z0).trans X0); refine ⟨?_⟩; go_simp; exact HK.out _ _ rfl rfB
  · intro ts W hb hB hp; have h4 : ts 4 = _ := hp 4 (by kernel_rfl); intro K hK; simp only [fillT, Nat.zero_add, Nat.reduceAdd, sA, sB, sC, h4] at hK ⊢; have HK := hid hK; clear hK hp; refine ⟨?_⟩; go_simp; refine (HDx.out W (below_trans B hb)).mono ?_; rintro e W9 ⟨r9, rfl, hr9, hb9⟩; exact HK.out _ _ hr9 hb9
  · intro ts W hb hB hp; have h3 := hp 3 (by kernel_rfl); have h5 := hp 5 (by kernel_rfl); intro K hK; simp only [fillT, Nat.zero_add, Nat.reduceAdd, sA, sB, sC] at hK ⊢; have HK := hid hK; clear hK hp; refine ⟨?_⟩; go_simp; refine (HF1.out W _ _ h3 h5).mono ?_; rintro e W9 ⟨r9, rfl, hr9, hb9⟩; exact HK.out _ _ hr9 hb9
  · exact obp
  · intro ts W hb hB hp; have h7 : ts 7 = _ := hp 7 (by kernel_rfl); intro K hK; simp only [fillT, Nat.zero_add, Nat.reduceAdd, sA, sB, sC, h7] at hK ⊢; have HK := hid hK; clear hK hp; obtain ⟨f0, f1, f2, f3, f4, -, -, -, -, -⟩ := bx5 ((hb.block _ z0).trans X0); refine ⟨?_⟩; go_simp; exact HK.out _ _ rfl rfB
  · exact obp
  · intro ts W hb hB hp; have h8 : ts 8 = _ := hp 8 (by kernel_rfl); have h9 : ts 9 = _ := hp 9 (by kernel_rfl); intro K hK; simp only [fillT, Nat.zero_add, Nat.reduceAdd, sA, sB, sC, h8, h9] at hK ⊢; have HK := hid hK; clear hK hp; refine ⟨?_⟩; go_simp; refine (HU2.out W (below_trans B hb)).mono ?_; rintro e W9 ⟨r9, rfl, hr9, hb9⟩; exact HK.out _ _ hr9 hb9
  · intro ts W hb hB hp; intro K hK; simp only [fillT, Nat.zero_add, Nat.reduceAdd, sA, sB, sC] at hK ⊢; have HK := hid hK; clear hK hp; obtain ⟨f0, f1, f2, f3, f4, -, -, -, -, -⟩ := bx5 ((hb.block _ z0).trans X0); refine ⟨?_⟩; go_simp; exact HK.out _ _ rfl rfB
  · intro ts W hb hB hp; have h11 : ts 11 = _ := hp 11 (by kernel_rfl); intro K hK; simp only [fillT, Nat.zero_add, Nat.reduceAdd, sA, sB, sC, h11] at hK ⊢; have HK := hid hK; clear hK hp; refine ⟨?_⟩; go_simp; refine (HDx.out W (below_trans B hb)).mono ?_; rintro e W9 ⟨r9, rfl, hr9, hb9⟩; exact HK.out _ _ hr9 hb9
  · intro ts W hb hB hp; have h10 := hp 10 (by kernel_rfl); have h12 := hp 12 (by kernel_rfl); intro K hK; simp only [fillT, Nat.zero_add, Nat.reduceAdd, sA, sB, sC] at hK ⊢; have HK := hid hK; clear hK hp; refine ⟨?_⟩; go_simp; refine (HF2.out W _ _ h10 h12).mono ?_; rintro e W9 ⟨r9, rfl, hr9, hb9⟩; exact HK.out _ _ hr9 hb9
  intro ts W2 hb2 hh hap
  obtain ⟨g10, A10, n10, c10, q10, e10, lo10, z10, X10, H10⟩ := held_boxI' (z := a1 * 2 ^ K / (d1 : Int)) (hh 14 (by simp)) rfl (hh 16 (by simp)) rfl (hh 6 (by simp)) rfl
  obtain ⟨g11, A11, n11, c11, q11, e11, lo11, z11, X11, H11⟩ := held_boxI' (z := b1 * 2 ^ K / (d1 : Int)) (hh 15 (by simp)) rfl (hh 17 (by simp)) rfl (hh 13 (by simp)) rfl
  simp only [fillT, Nat.zero_add, Nat.reduceAdd, sA, sB, sC, e10, e11]
  clear hh hap e10 e11
  generalize ts 0 = u0_W2 at *
  generalize ts 1 = u1_W2 at *
  generalize ts 2 = u2_W2 at *
  generalize ts 3 = u3_W2 at *
  generalize ts 4 = u4_W2 at *
  generalize ts 5 = u5_W2 at *
  generalize ts 6 = u6_W2 at *
  generalize ts 7 = u7_W2 at *
  generalize ts 8 = u8_W2 at *
  generalize ts 9 = u9_W2 at *
  generalize ts 10 = u10_W2 at *
  generalize ts 11 = u11_W2 at *
  generalize ts 12 = u12_W2 at *
  generalize ts 13 = u13_W2 at *
  clear ts
  replace X0 := (hb2.block _ z0).trans X0
  replace z0 := Nat.lt_of_lt_of_le z0 hb2.size
  replace X1 := (hb2.block _ z1).trans X1
  replace z1 := Nat.lt_of_lt_of_le z1 hb2.size
  replace B := below_trans B hb2
  clear hb2
  go_upto_region 3 with fail
  refine region_last [.val (kIs (.agg #[.slice A10 n10 c10, .bool q10])), .val (kIs (.agg #[.slice A11 n11 c11, .bool q11])), .val (kNat 1), .val (kIs (.int .i64 (K : Int))), .val (kNat (2 ^ K)), .val (kNum (x.flr K))]
    (by kernel_rfl) (by kernel_rfl) (by kernel_rfl) (by kernel_rfl) (by kernel_rfl) ⟨Stab.b (stab_is _), Stab.b (stab_is _), stabB_nat _, Stab.b (stab_is _), stabB_nat _, stabB_num _, trivial⟩ (by simp) (ol := _) rfl (by kernel_rfl) ⟨?_, ?_, ?_, ?_, ?_, ?_, trivial⟩ ?_
  · intro ts W hb hB hp; intro K hK; simp only [fillT, Nat.zero_add, Nat.reduceAdd, sA, sB, sC] at hK ⊢; have HK := hid hK; clear hK hp; obtain ⟨f0, f1, -, -⟩ := bx2 ((hb.block _ z10).trans X10); refine ⟨?_⟩; go_simp; exact HK.out _ _ rfl rfB
  · intro ts W hb hB hp; intro K hK; simp only [fillT, Nat.zero_add, Nat.reduceAdd, sA, sB, sC] at hK ⊢; have HK := hid hK; clear hK hp; obtain ⟨f0, f1, -, -⟩ := bx2 ((hb.block _ z11).trans X11); refine ⟨?_⟩; go_simp; exact HK.out _ _ rfl rfB
  · intro ts W hb hB hp; intro K hK; simp only [fillT, Nat.zero_add, Nat.reduceAdd, sA, sB, sC] at hK ⊢; have HK := hid hK; clear hK hp; refine ⟨?_⟩; exact wp_buildSlice rfl (by simp [Act.eval]) (one_run2 W) (HK.out _ _ (one_nat W) (below_alloc _ _))
  · exact obp
  · intro ts W hb hB hp; have h2 := hp 2 (by kernel_rfl); have h3 : ts 3 = _ := hp 3 (by kernel_rfl); intro K hK; simp only [fillT, Nat.zero_add, Nat.reduceAdd, sA, sB, sC, h3] at hK ⊢; have HK := hid hK; clear hK hp; refine ⟨?_⟩; go_simp; refine (HP.out W _ h2).mono ?_; rintro e W9 ⟨r9, rfl, hr9, hb9⟩; exact HK.out _ _ hr9 hb9
  · intro ts W hb hB hp; have h0 : ts 0 = _ := hp 0 (by kernel_rfl); have h1 : ts 1 = _ := hp 1 (by kernel_rfl); have h4 := hp 4 (by kernel_rfl); intro K hK; simp only [fillT, Nat.zero_add, Nat.reduceAdd, sA, sB, sC, h0, h1] at hK ⊢; have HK := hid hK; clear hK hp; refine ⟨?_⟩; go_simp; refine (HLo.out W _ _ _ (below_trans B hb) (H10.below hb) (H11.below hb) h4).mono ?_; rintro e W9 ⟨r9, rfl, hr9, hb9⟩; exact HK.out _ _ hr9 hb9
  intro ts W5 hb5 hh hap K9 hK
  have hq : IsNum W5 (ts 5) (x.flr K) := hh 5 (by simp)
  obtain ⟨A9, n9, c9, p9, A9b, n9b, c9b, p9b, A9c, n9c, c9c, qa, qb, qd, hqe, -⟩ := hq.parts
  have Y0 := (hb5.block (w.heap.size + 1) (by omega)).trans X1
  have HK := hid hK
  clear hK
  simp only [fillT, Nat.zero_add, Nat.reduceAdd, sA, sB, sC, hqe]
  rw [hqe] at hq
  clear hh hap hqe
  refine ⟨?_⟩
  refine wp_store_row _ _ _ rfl (w.heap.size + 1) _ rfl rfl _ _ Y0 (by kernel_rfl) rfl (by simp [Value.oneCell']) (HK.out _ _ ?_)
  have hput := putAt_setRow (cs := #[.slice A9 n9 c9, .bool p9, .slice A9b n9b c9b, .bool p9b, .slice A9c n9c c9c]) Y0
  have hext := hput.ext Y0 (by decide)
  have B2 := hput.below (below_trans B hb5) (by omega)
  generalize W5.setRow (w.heap.size + 1) #[.slice A9 n9 c9, .bool p9, .slice A9b n9b c9b, .bool p9b, .slice A9c n9c c9c] = W6 at *
  have h5 := hq.ext hext
  obtain ⟨f0, f1, f2, f3, f4, y0, y1, y2, y3, y4⟩ := bx5 hput.here
  clear hput hext hq Y0 HK
  go_wp2
  refine bodyPost_ret (v := .agg #[.slice A9 n9 c9, .bool p9, .slice A9b n9b c9b, .bool p9b, .slice A9c n9c c9c]) (by simp [results, Tryz.results26, go_sem, f0, f1, f2, f3, f4]) rfl ?_
  exact ⟨_, rfl, h5, B2⟩
end Go.Proofs.YtccldiokpgjocaaGreatDoor
