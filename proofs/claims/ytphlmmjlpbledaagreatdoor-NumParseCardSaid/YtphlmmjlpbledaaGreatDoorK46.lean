/-
  What is proved: for every string, the law NumParse returns true (Parse returns the number and the error of the reference), and its argument reads afterwards as before.
  Conditions: those of the given card alone: the table math/bits.deBruijn32tab lies as the program's text lays it (the card ties it).
-/
import Derived.Test.YtphlmmjlpbledaaGreatDoorK28
import Derived.Test.YtphlmmjlpbledaaGreatDoorK29
import Derived.Test.YtphlmmjlpbledaaGreatDoorK35
import Derived.Test.YtphlmmjlpbledaaGreatDoorK45
set_option linter.unusedSimpArgs false
set_option linter.unusedVariables false
namespace Go.Proofs.YtphlmmjlpbledaaGreatDoor
open Go.RowKit
set_option maxRecDepth 100000
theorem pVal_sz (l : List UInt8) : Sz (pVal l) 50000 := by
  have hz : Sz .zero 50000 := Sz.low Low.zero (by simp [wl_zero]) (by simp [wl_zero]) (by rw [wl_one]; omega)
  unfold pVal
  split
  · exact hz
  · next h4 =>
    rcases h2 : pNum l with _ | ps
    · exact hz
    · simp only
      split
      · exact hz
      · next hz0 =>
        obtain ⟨hlen, hbd⟩ := pNum_bd h2
        have hb : ∀ p ∈ ps, 0 < p.b ∧ wl p.a ≤ 10000 ∧ wl p.b ≤ 10000 := fun p hp => by
          obtain ⟨h5, h6⟩ := hbd p hp
          refine ⟨?_, bd4 (by omega) h5, bd4 (by omega) h6⟩
          rcases Nat.eq_zero_or_pos p.b with h | h
          · exact absurd (by unfold hasZero; exact List.any_eq_true.2 ⟨p, hp, by simp [h]⟩) hz0
          · exact h
        rcases hlen with hl | hl
        · obtain ⟨p, rfl⟩ := List.length_eq_one_iff.1 hl
          rw [sumV_one]
          obtain ⟨h7, h8, h9⟩ := hb p (by simp)
          exact (ptV_sz' p.a p.b p.neg p.im h7 h8 h9).mono (by omega)
        · obtain ⟨p, q, rfl⟩ : ∃ p q, ps = [p, q] := by
            rcases ps with _ | ⟨p, _ | ⟨q, _ | ⟨r, t⟩⟩⟩ <;> simp at hl
            exact ⟨p, q, rfl⟩
          rw [sumV_two]
          obtain ⟨h7, h8, h9⟩ := hb p (by simp)
          obtain ⟨k7, k8, k9⟩ := hb q (by simp)
          exact ((ptV_sz' p.a p.b p.neg p.im h7 h8 h9).add (ptV_sz' q.a q.b q.neg q.im k7 k8 k9)).mono (by omega)
set_option maxHeartbeats 1000000 in
theorem numParse_walk (w : World) (l : List UInt8) (hT : Tab w) :
    Calls Tryz.prog 3 #[.string (sl l)] w fun e w' => e = .returned (.bool true) ∧ Below w.heap.size w w' := by
  have hsz := sl_size l
  obtain ⟨L, hL⟩ : ∃ L, L = l.length := ⟨_, rfl⟩
  rw [← hL] at hsz
  have HT := hid hT
  rcases Nat.lt_or_ge 6000 L with h6 | h6
  · have hg : (6000 : Int) < (L : Int) := by omega
    clear hT h6 hL
    go_enter Tryz.func3, Tryz.ntmps3
    go_wp2_with fail
    refine (awake_any _ HT.out).mono ?_
    rintro e W9 ⟨rfl, hb9⟩
    go_wp2
    go_ret
    exact ⟨rfl, hb9⟩
  have hg : ¬ (6000 : Int) < (L : Int) := by omega
  obtain ⟨x, hx⟩ : ∃ x, x = pVal l := ⟨_, rfl⟩
  obtain ⟨k, hk⟩ : ∃ k, k = pErr l := ⟨_, rfl⟩
  have HN := hid (show ∀ W, Below w.heap.size w W → Calls Tryz.prog 12 #[.string (sl l)] W (RetNumE W x k) from fun W hb => by
    have := parse_any (sl l) W (by omega) (hT.below hb)
    rw [sl_data, ← hx, ← hk] at this
    exact this)
  have HR := hid (show ∀ W, Calls Tryz.prog 13 #[.string (sl l)] W (RetQE W x k) from fun W => by
    have := rparse_any l W (by omega)
    rw [← hx, ← hk] at this
    exact this)
  have HX := hid (show Sz x 50000 by rw [hx]; exact pVal_sz l)
  clear hT h6 hx hk hL
  go_enter Tryz.func3, Tryz.ntmps3
  go_wp2_with fail
  refine (HN.out _ rfB).mono ?_
  rintro e W2 ⟨v, rfl, hn2, hb2⟩
  obtain ⟨A1, n1, c1, p1, A2, n2, c2, p2, A3, n3, c3, a, b, d, rfl, -⟩ := hn2.parts
  have HN2 := hid hn2
  clear hn2
  go_wp2_with fail
  refine (HR.out _).mono ?_
  rintro e W3 ⟨v, rfl, hq3, hb3⟩
  obtain ⟨hc3, hf3, hz3⟩ := bcells hb3 (W2.heap.size + 1) (by simp)
  obtain ⟨A4, n4, c4, p4, A5, n5, c5, p5, A6, n6, c6, a', b', d', rfl, -⟩ := hq3.parts
  have HQ3 := hid hq3
  clear hq3
  have B3 : Below w.heap.size w W3 := below_trans (below_trans hb2 (below_alloc _ _)) hb3
  have C3 := below_trans (below_alloc W2 _) hb3
  go_upto_region 5 with fail
  obtain ⟨W4, hW4⟩ : ∃ W4 : World, W4 = W3.alloc (.cells #[.bool p4, .slice A4 n4 c4, .bool p5, .slice A5 n5 c5, .slice A6 n6 c6] 35) := ⟨_, rfl⟩
  rw [← hW4]
  have D4 : Below W3.heap.size W3 W4 := by rw [hW4]; exact below_alloc _ _
  have q4 := bcells D4 W3.heap.size (Nat.le_refl _)
  have b0 : W4.cell? ⟨W2.heap.size, 0, none⟩ = some (.slice A1 n1 c1) := (q4.1 _ 0 (by omega)).trans ((hc3 _ 0 (by omega)).trans (by simp [go_sem]))
  have b1 : W4.cell? ⟨W2.heap.size, 1, none⟩ = some (.bool p1) := (q4.1 _ 1 (by omega)).trans ((hc3 _ 1 (by omega)).trans (by simp [go_sem]))
  have b2 : W4.cell? ⟨W2.heap.size, 2, none⟩ = some (.slice A2 n2 c2) := (q4.1 _ 2 (by omega)).trans ((hc3 _ 2 (by omega)).trans (by simp [go_sem]))
  have b3 : W4.cell? ⟨W2.heap.size, 3, none⟩ = some (.bool p2) := (q4.1 _ 3 (by omega)).trans ((hc3 _ 3 (by omega)).trans (by simp [go_sem]))
  have b4 : W4.cell? ⟨W2.heap.size, 4, none⟩ = some (.slice A3 n3 c3) := (q4.1 _ 4 (by omega)).trans ((hc3 _ 4 (by omega)).trans (by simp [go_sem]))
  have e0 : W4.cell? ⟨W3.heap.size, 0, none⟩ = some (.bool p4) := by rw [hW4]; simp [go_sem]
  have e1 : W4.cell? ⟨W3.heap.size, 1, none⟩ = some (.slice A4 n4 c4) := by rw [hW4]; simp [go_sem]
  have e2 : W4.cell? ⟨W3.heap.size, 2, none⟩ = some (.bool p5) := by rw [hW4]; simp [go_sem]
  have e3 : W4.cell? ⟨W3.heap.size, 3, none⟩ = some (.slice A5 n5 c5) := by rw [hW4]; simp [go_sem]
  have e4 : W4.cell? ⟨W3.heap.size, 4, none⟩ = some (.slice A6 n6 c6) := by rw [hW4]; simp [go_sem]
  have B4 := below_trans B3 D4
  have HIs := hid (is_any _ _ x W4 ((HN2.out.below C3).below D4) (HQ3.out.below D4) (HT.out.below B4) 50000 HX.out (by omega))
  clear hW4 q4 hc3 hf3 hz3 C3 D4 B3 hb2 hb3
  go_wp2_with fail
  refine HIs.out.mono ?_
  rintro e W5 ⟨rfl, hb5⟩
  have B5 := below_trans B4 hb5
  clear b0 b1 b2 b3 b4 e0 e1 e2 e3 e4
  go_wp2_with fail
  refine (awake_any W5 (HT.out.below B5)).mono ?_
  rintro e W9 ⟨rfl, hb9⟩
  go_wp2
  go_ret
  exact ⟨rfl, below_trans B5 hb9⟩
end Go.Proofs.YtphlmmjlpbledaaGreatDoor
set_option linter.unusedSimpArgs false
set_option linter.unusedVariables false
namespace Go.Proofs.YtphlmmjlpbledaaGreatDoor
open Go Go.ChangeShapes Go.WideShapes Go.ChangeAt Go.WideMaps Go.WideElems Go.RowKit Go.Joins
set_option maxRecDepth 100000
theorem door_met (os : Os) (args : Array Value) : laidMetH Tryz.prog [("math/bits.deBruijn32tab", Rows.laid_math_bits_deBruijn32tab)] ((World.doorLaid Tryz.prog 400 os).forCall (fun _ _ => 0) ⟨#[], args, []⟩).memory :=
  laidMetH_of_parts3 (fuel := 8) (laidMet_of_run' 8 (by kernel_rfl) (by kernel_rfl)) (by kernel_rfl) (by kernel_rfl)
theorem open_str {W : World} {v : Value} {b0 : Nat} (hv : Value.okWide Tryz.prog W .any b0 9 v) :
    ∃ s : ByteArray, v = .string s := by
  obtain ⟨s, rfl⟩ := okWide_string Tryz.underlying9 hv
  exact ⟨s, rfl⟩
theorem numParse_lifted (os : Os) (started : os.Started) (H : Type) (enc : TypeId × Value → H) :
    ReturnsInHanded {} Tryz.checked os 3 .any (fun w args => (Rows.numParseSpec.pre enc Tryz.prog Tryz.f3 [] false w args ∧ laidMetH Tryz.prog [("math/bits.deBruijn32tab", Rows.laid_math_bits_deBruijn32tab)] w) ∧ sizedMet enc Tryz.prog Tryz.f3 (OpenSpec.ofChange Rows.numParseSpec) false w args)
      (Rows.numParseSpec.post enc Tryz.prog Tryz.f3 false true false false) := by
  refine returnsInHanded_of_change_and (C := Tryz.checked) (X := fun w _ => laidMetH Tryz.prog [("math/bits.deBruijn32tab", Rows.laid_math_bits_deBruijn32tab)] w) (fun _ _ _ hh h => h.of_heap hh) own_knob started (by kernel_rfl) Tryz.func3
    (ChangeSpec.witness_shaped (enc := enc) (C := Tryz.checked) (os := os) (X := fun w _ => laidMetH Tryz.prog [("math/bits.deBruijn32tab", Rows.laid_math_bits_deBruijn32tab)] w) false (World.doorLaid Tryz.prog 400 os) #[.string ⟨#[]⟩] 8 rfl (World.shaped_of_RefB (by kernel_rfl) (by kernel_rfl)) (by kernel_rfl) (by kernel_rfl) (by kernel_rfl) (door_met os _)) ?_
  intro W base args ds gs before hval0 hW _ _ hL _
  have hval : ∀ (j : Nat) t v, Tryz.f3.params[j]? = some t → args[j]? = some v → Value.okWide Tryz.prog W .any base t v := hval0
  have hWW := hW
  obtain ⟨p, q, hA0, hV, rfl, hfz, hnd⟩ := hW
  have hA : DataW.TrodAll enc Tryz.prog W 0 (fun _ => true) true Tryz.f3.params.toList args.toList ds p := hA0
  rw [Tryz.params3] at hA hval
  obtain ⟨v0, d0, rfl, rfl, h0⟩ := trodAll_one hA
  obtain ⟨s, rfl⟩ := open_str (hval 0 _ _ rfl rfl)
  have hT := tab_of_laid hL
  obtain ⟨rfl, rfl⟩ := trodVars_none hV
  refine (numParse_walk W s.data.toList hT).mono fun e W' ⟨he, hb⟩ => ?_
  subst he
  exact ⟨_, rfl, law_post rfl rfl (by kernel_rfl) ⟨rfl, rfl, rfl⟩ hWW hb⟩
theorem numParse_said : Rows.NumParseSaid :=
  OpenClaim.holds_of_wide 3 Tryz.f3 rfl rfl rfl rfl rfl rfl rfl ⟨rfl, rfl, rfl, rfl, rfl⟩ rfl rfl rfl rfl rfl (by kernel_rfl) Tryz.func3 (by kernel_rfl)
    (of_decide_eq_true (by kernel_rfl)) (by unfold Func.isWrapper; first | (rw [if_pos (by decide +kernel)]; kernel_rfl) | (rw [if_neg (by decide +kernel)]; exact ⟨rfl, rfl⟩))
    (fun os started H enc _ => numParse_lifted os started H enc)
theorem numParse_holds : Rows.NumParseCardSaid :=
  Claim7.holds_tied_plain_at .later [] [.data] true Rows.numParseCard.stood.harness false
    numParse_said (fun _ h => by cases h) (by kernel_rfl) (fun _ h => by cases h) numParse_row_tie rfl ⟨rfl, rfl⟩ (by kernel_rfl) rfl
    (fun f fn hf hfn => by
      obtain rfl : f = 3 := Option.some.inj ((show Tryz.prog.funcNamed "waveport/waveportlaw01.NumParse" = some 3 by kernel_rfl).symm.trans hf) |>.symm
      obtain rfl : fn = Tryz.f3 := (Option.some.inj (Tryz.func3.symm.trans hfn)).symm
      exact ⟨by kernel_rfl, fun j t ht => by
        rw [Tryz.params3] at ht
        have hm : t ∈ [9] := by simpa using Array.mem_of_getElem? ht
        have hall : ([9].all fun u => !Tryz.prog.wantsStandIn u) = true := by kernel_rfl
        exact (show Tryz.prog.wantsStandIn t = false by simpa using List.all_eq_true.1 hall t hm)⟩)
    (by kernel_rfl)
end Go.Proofs.YtphlmmjlpbledaaGreatDoor
