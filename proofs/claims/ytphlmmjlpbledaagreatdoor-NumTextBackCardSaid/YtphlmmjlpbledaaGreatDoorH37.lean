import Derived.Test.YtphlmmjlpbledaaGreatDoorH15
import Derived.Test.YtphlmmjlpbledaaGreatDoorH16
import Derived.Test.YtphlmmjlpbledaaGreatDoorH36
set_option linter.unusedSimpArgs false
set_option linter.unusedVariables false
namespace Go.Proofs.YtphlmmjlpbledaaGreatDoor
open Go.RowKit
set_option maxRecDepth 100000
theorem magnitude_any (g : Nat) (s : ByteArray) (l : List UInt8) (w : World) (h : RdL w g s l) (hs : s.size ≤ 100000) :
    Calls Tryz.prog 116 #[.pointer (some ⟨g, 0, none⟩)] w (RetMag w g s l) := by
  rcases h1 : okW (digs l) with _ | _
  · exact mag_1 g s l w h (by omega) h1
  rcases h2 : isHd 47 (past l) with _ | _
  · rcases h3 : isHd 46 (past l) with _ | _
    · rcases h5 : isHd 101 (past l) with _ | _
      · exact mag_wn g s l w h hs h1 h2 h3 h5
      · rcases h6 : pExpOk (past l).tail with _ | _
        · exact mag_wb g s l w h hs h1 h2 h3 h5 h6
        · exact mag_wg g s l w h hs h1 h2 h3 h5 h6
    · by_cases h4 : digs (past l).tail = []
      · exact mag_point g s l w h hs h1 h2 h3 h4
      · rcases h5 : isHd 101 (past (past l).tail) with _ | _
        · exact mag_pn g s l w h hs h1 h2 h3 h4 h5
        · rcases h6 : pExpOk (past (past l).tail).tail with _ | _
          · exact mag_pb g s l w h hs h1 h2 h3 h4 h5 h6
          · exact mag_pg g s l w h hs h1 h2 h3 h4 h5 h6
  · rcases h3 : okW (digs (past l).tail) with _ | _
    · exact mag_frac_f g s l w h hs h1 h2 h3
    · exact mag_frac_t g s l w h hs h1 h2 h3
theorem pt_terms (a b : Nat) (neg : Bool) (hb : 0 < b) : (if neg then -(a : Rat) else (a : Rat)) / (b : Rat) * (b : Rat) = (((if neg then -(a : Int) else (a : Int)) : Int) : Rat) := by
  have := natCast_ne hb
  rw [Rat.div_mul_cancel this]
  cases neg <;> simp [Rat.intCast_natCast]
theorem cx_zero_den (b : Nat) : (0 : Rat) * (b : Rat) = ((0 : Int) : Rat) := by simp
theorem value_any (va vb : Value) (a b : Nat) (neg im : Bool) (w : World) (ha : IsNat w va a) (hb : IsNat w vb b) (hb0 : 0 < b) (sa : wl a < 549755813888) (sb : wl b < 549755813888) (hT : Tab w) :
    Calls Tryz.prog 54 #[.agg #[va, vb, .bool neg, .bool im]] w (RetNum w (ptV ⟨a, b, neg, im⟩)) := by
  obtain ⟨A1, n1, c1, rfl, -⟩ := ha.ex
  obtain ⟨A2, n2, c2, rfl, -⟩ := hb.ex
  have HA := Lib.hid (show IsInt w (.agg #[.slice A1 n1 c1, .bool false]) (a : Int) from ⟨_, by simp, ha⟩)
  have HB := Lib.hid hb
  have HT := Lib.hid hT
  have HL := Lib.hid (fun (W : World) (v u : Value) (x : Cx) (p q : Int) (hr : IsInt W v p) (hi : IsInt W u q) (hw : Below w.heap.size w W) (h1 : x.re * (b : Rat) = (p : Rat)) (h2 : x.im * (b : Rat) = (q : Rat)) (s1 : wl p.natAbs < 549755813888) (s2 : wl q.natAbs < 549755813888) =>
    lowest_any v u (.slice A2 n2 c2) p q b b x W hr hi (hb.below hw) (Den.self hb0) h1 h2 s1 s2 sb (hT.below hw))
  have HSA := Lib.hid sa
  have HB0 := Lib.hid hb0
  clear ha hb hb0 hT sa sb
  go_enter Tryz.func54, Tryz.ntmps54
  go_wp2_with fail
  refine (signed_any _ (a : Int) neg _ (HA.out.below bel)).mono ?_
  rintro e W2 ⟨r, rfl, hr, hb2⟩
  obtain ⟨A3, n3, c3, rfl, -, -⟩ := hr.parts
  have HR := Lib.hid hr
  have HB2 := Lib.hid (show Below w.heap.size w W2 from (below_trans (below_alloc _ _) (below_alloc _ _)).trans (hb2.mono (by simp; omega)))
  obtain ⟨hc2, hf2, hz2⟩ := bcells hb2 (w.heap.size + 2) (by simp)
  have hsz : wl (if neg then -(a : Int) else (a : Int)).natAbs < 549755813888 := by
    have := HSA.out
    cases neg <;> simpa using this
  have HSZ := Lib.hid hsz
  have HQ := Lib.hid (pt_terms a b neg HB0.out)
  generalize (if neg then -(a : Int) else (a : Int)) = z at *
  generalize decide (z < 0) = q3 at *
  have hz3 : w.heap.size < W2.heap.size := by omega
  have hz4 : w.heap.size + 1 < W2.heap.size := by omega
  clear hb2 hr hsz
  cases im
  · go_wp2_with fail
    refine (HL.out _ _ _ (ptV ⟨a, b, neg, false⟩) z 0 (HR.out.below (below_alloc _ _)) (IsInt.zero _ _ _) (below_trans HB2.out (below_alloc _ _)) HQ.out (cx_zero_den b) HSZ.out (by simp [wl_zero])).mono ?_
    rintro e W5 ⟨v, rfl, hr5, hb5⟩
    have hkb : Below (w.heap.size + 2) W2 W5 := (below_alloc W2 _ |>.mono hz2).trans (hb5.mono (by simp; omega))
    obtain ⟨A4, n4, c4, p4, A5, n5, c5, p5, A6, n6, c6, a', b', d', rfl, -⟩ := hr5.parts
    have NB : NumBox W5 (w.heap.size + 1) := NumBox.of (fun b o hlt => (hkb.cell (p := ⟨b, o, none⟩) hlt).trans (hc2 b o hlt)) (by omega) (.nil (by simp [go_sem]) (by simp [go_sem]) (by simp [go_sem]) (by simp [go_sem]) (by simp [go_sem]))
    obtain ⟨o0, o1, o2, o3, o4, k0, k1, k2, k3, k4, -⟩ := id NB
    have kf : ∀ o, W5.frozen? ⟨w.heap.size + 1, o, none⟩ = false := fun o => (hkb.frozen (p := ⟨w.heap.size + 1, o, none⟩) (by simp)).trans ((hf2 (w.heap.size + 1) o (by omega)).trans (by simp [go_sem]))
    have kf0 := kf 0
    have kf1 := kf 1
    have kf2 := kf 2
    have kf3 := kf 3
    have kf4 := kf 4
    have HB5 := Lib.hid (show Below w.heap.size w W5 from HB2.out.trans ((hkb.mono (by omega))))
    have HNB := Lib.hid NB
    clear NB kf hkb hb5 hc2 hf2
    go_wp2
    refine bodyPost_ret (v := .agg #[.slice A4 n4 c4, .bool p4, .slice A5 n5 c5, .bool p5, .slice A6 n6 c6]) (by simp [results, Tryz.results54]; exact run_load5 HNB.out _ _ _ _ _) rfl ?_
    exact RetNum.box HB5.out (by omega) HNB.out hr5 _ _ _ _ _
  · go_wp2_with fail
    refine (HL.out _ _ _ (ptV ⟨a, b, neg, true⟩) 0 z (IsInt.zero _ _ _) (HR.out.below (below_alloc _ _)) (below_trans HB2.out (below_alloc _ _)) (cx_zero_den b) HQ.out (by simp [wl_zero]) HSZ.out).mono ?_
    rintro e W5 ⟨v, rfl, hr5, hb5⟩
    have hkb : Below (w.heap.size + 2) W2 W5 := (below_alloc W2 _ |>.mono hz2).trans (hb5.mono (by simp; omega))
    obtain ⟨A4, n4, c4, p4, A5, n5, c5, p5, A6, n6, c6, a', b', d', rfl, -⟩ := hr5.parts
    have NB : NumBox W5 (w.heap.size + 1) := NumBox.of (fun b o hlt => (hkb.cell (p := ⟨b, o, none⟩) hlt).trans (hc2 b o hlt)) (by omega) (.nil (by simp [go_sem]) (by simp [go_sem]) (by simp [go_sem]) (by simp [go_sem]) (by simp [go_sem]))
    obtain ⟨o0, o1, o2, o3, o4, k0, k1, k2, k3, k4, -⟩ := id NB
    have kf : ∀ o, W5.frozen? ⟨w.heap.size + 1, o, none⟩ = false := fun o => (hkb.frozen (p := ⟨w.heap.size + 1, o, none⟩) (by simp)).trans ((hf2 (w.heap.size + 1) o (by omega)).trans (by simp [go_sem]))
    have kf0 := kf 0
    have kf1 := kf 1
    have kf2 := kf 2
    have kf3 := kf 3
    have kf4 := kf 4
    have HB5 := Lib.hid (show Below w.heap.size w W5 from HB2.out.trans ((hkb.mono (by omega))))
    have HNB := Lib.hid NB
    clear NB kf hkb hb5 hc2 hf2
    go_wp2
    refine bodyPost_ret (v := .agg #[.slice A4 n4 c4, .bool p4, .slice A5 n5 c5, .bool p5, .slice A6 n6 c6]) (by simp [results, Tryz.results54]; exact run_load5 HNB.out _ _ _ _ _) rfl ?_
    exact RetNum.box HB5.out (by omega) HNB.out hr5 _ _ _ _ _
end Go.Proofs.YtphlmmjlpbledaaGreatDoor
