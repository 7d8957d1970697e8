/-
  What is proved: for all three lists of plain data and every side, the law NumGram returns true (Adjoint(m) m is positive semidefinite for any square matrix of up to 4 rows, so is its sum with another one, and what a third matrix makes of this), and its arguments read afterwards as before.
  Conditions: those of the given card alone: the table math/bits.deBruijn32tab lies as the program's text lays it (the card ties it).
-/
import Derived.Laws.IdiomArrays
import Derived.Test.YtmlkpnfjgifgfaaGreatDoorG39
import Derived.Test.YtmlkpnfjgifgfaaGreatDoorG44
set_option linter.unusedSimpArgs false
set_option linter.unusedVariables false
namespace Go.Proofs.YtmlkpnfjgifgfaaGreatDoor
open Go Go.ChangeShapes Go.WideShapes Go.ChangeAt Go.WideMaps Go.WideElems Go.RowKit Go.Joins
set_option maxRecDepth 100000

theorem lists_size : Tryz.prog.cellsOf 51 = 3 := by kernel_rfl
/-- Three lists of plain data. -/
theorem open_lists {H : Type} {enc : TypeId × Value → H} {W : World} {base b0 : Nat} {v : Value} {d : DataW H} {p : List MemPlace} (hv : Value.okWide Tryz.prog W .any b0 51 v) (h : DataW.Trod enc Tryz.prog W base (fun _ => true) true 51 v d p) :
    ∃ A0 l0 c0 f0 A1 l1 c1 f1 A2 l2 c2 f2, v = .agg #[.slice A0 l0 c0, .slice A1 l1 c1, .slice A2 l2 c2] ∧ (l0 ≤ 9223372036854775807 ∧ RatS W A0 l0 f0 ∧ Rat64 f0) ∧ (l1 ≤ 9223372036854775807 ∧ RatS W A1 l1 f1 ∧ Rat64 f1) ∧ (l2 ≤ 9223372036854775807 ∧ RatS W A2 l2 f2 ∧ Rat64 f2) := by
  simp only [Value.okWide, Tryz.underlying51] at hv
  obtain ⟨cs, rfl, hsz, -⟩ := hv
  obtain ⟨l⟩ := cs
  rw [lists_size] at hsz
  match l, hsz with
  | [k0, k1, k2], _ =>
    obtain ⟨fuel, hf⟩ := h
    obtain ⟨y0, y1, y2, n, -, t0, t1, t2⟩ := trod_array3 Tryz.underlying51 (by kernel_rfl) hf
    obtain ⟨A0, l0, c0, f0, e0, r0⟩ := open_ratioc t0
    obtain ⟨A1, l1, c1, f1, e1, r1⟩ := open_ratioc t1
    obtain ⟨A2, l2, c2, f2, e2, r2⟩ := open_ratioc t2
    simp at e0 e1 e2
    subst e0 e1 e2
    exact ⟨A0, l0, c0, f0, A1, l1, c1, f1, A2, l2, c2, f2, rfl, r0, r1, r2⟩
theorem numGram_lifted (os : Os) (started : os.Started) (H : Type) (enc : TypeId × Value → H) :
    ReturnsInHanded {} Tryz.checked os 5 .any (fun w args => (Rows.numGramSpec.pre enc Tryz.prog Tryz.f5 [] false w args ∧ laidMetH Tryz.prog [("math/bits.deBruijn32tab", Rows.laid_math_bits_deBruijn32tab)] w) ∧ sizedMet enc Tryz.prog Tryz.f5 (OpenSpec.ofChange Rows.numGramSpec) false w args)
      (Rows.numGramSpec.post enc Tryz.prog Tryz.f5 false true false false) := by
  refine returnsInHanded_of_change_and (C := Tryz.checked) (X := fun w _ => laidMetH Tryz.prog [("math/bits.deBruijn32tab", Rows.laid_math_bits_deBruijn32tab)] w) (fun _ _ _ hh h => h.of_heap hh) own_knob started (by kernel_rfl) Tryz.func5
    (ChangeSpec.witness_shaped (enc := enc) (C := Tryz.checked) (os := os) (X := fun w _ => laidMetH Tryz.prog [("math/bits.deBruijn32tab", Rows.laid_math_bits_deBruijn32tab)] w) false (World.doorLaid Tryz.prog 400 os) #[.agg #[.slice none 0 0, .slice none 0 0, .slice none 0 0], .int .u8 0] 8 rfl (World.shaped_of_RefB (by kernel_rfl) (by kernel_rfl)) (by kernel_rfl) (by kernel_rfl) (by kernel_rfl) (door_met os _)) ?_
  intro W base args ds gs before hval0 hW _ _ hL _
  have hval : ∀ (j : Nat) t v, Tryz.f5.params[j]? = some t → args[j]? = some v → Value.okWide Tryz.prog W .any base t v := hval0
  have hWW := hW
  obtain ⟨p, q, hA0, hV, rfl, hfz, hnd⟩ := hW
  have hA : DataW.TrodAll enc Tryz.prog W 0 (fun _ => true) true Tryz.f5.params.toList args.toList ds p := hA0
  rw [Tryz.params5] at hA hval
  obtain ⟨v0, v1, d0, d1, q0, q1, rfl, rfl, rfl, h0, h1⟩ := trodAll_two hA
  obtain ⟨A0, l0, c0, f0, A1, l1, c1, f1, A2, l2, c2, f2, rfl, ⟨k0, r0, b0⟩, ⟨k1, r1, b1⟩, ⟨k2, r2, b2⟩⟩ := open_lists (hval 0 _ _ rfl rfl) h0
  obtain ⟨side, rfl, hs⟩ := open_u8 (hval 1 _ _ rfl rfl) h1
  have hT := tab_of_laid hL
  obtain ⟨rfl, rfl⟩ := trodVars_none hV
  refine (gram_walk W A0 A1 A2 l0 l1 l2 c0 c1 c2 side f0 f1 f2 r0 r1 r2 b0 b1 b2 k0 k1 k2 hs hT).mono fun e W' ⟨he, hb⟩ => ?_
  subst he
  exact ⟨_, rfl, law_post rfl rfl (by kernel_rfl) ⟨rfl, rfl, rfl⟩ hWW hb⟩
theorem numGram_said : Rows.NumGramSaid :=
  OpenClaim.holds_of_wide 5 Tryz.f5 rfl rfl rfl rfl rfl rfl rfl ⟨rfl, rfl, rfl, rfl, rfl⟩ rfl rfl rfl rfl rfl (by kernel_rfl) Tryz.func5 (by kernel_rfl)
    (of_decide_eq_true (by kernel_rfl)) (by unfold Func.isWrapper; first | (rw [if_pos (by decide +kernel)]; kernel_rfl) | (rw [if_neg (by decide +kernel)]; exact ⟨rfl, rfl⟩))
    (fun os started H enc _ => numGram_lifted os started H enc)
theorem numGram_holds : Rows.NumGramCardSaid :=
  Claim7.holds_tied_plain_at .later [] [.data] true Rows.numGramCard.stood.harness false
    numGram_said (fun _ h => by cases h) (by kernel_rfl) (fun _ h => by cases h) numGram_row_tie rfl ⟨rfl, rfl⟩ (by kernel_rfl) rfl
    (fun f fn hf hfn => by
      obtain rfl : f = 5 := Option.some.inj ((show Tryz.prog.funcNamed "waveport/waveportlaw01.NumGram" = some 5 by kernel_rfl).symm.trans hf) |>.symm
      obtain rfl : fn = Tryz.f5 := (Option.some.inj (Tryz.func5.symm.trans hfn)).symm
      exact ⟨by kernel_rfl, fun j t ht => by
        rw [Tryz.params5] at ht
        have hm : t ∈ [51, 5] := by simpa using Array.mem_of_getElem? ht
        have hall : ([51, 5].all fun u => !Tryz.prog.wantsStandIn u) = true := by kernel_rfl
        exact (show Tryz.prog.wantsStandIn t = false by simpa using List.all_eq_true.1 hall t hm)⟩)
    (by kernel_rfl)
end Go.Proofs.YtmlkpnfjgifgfaaGreatDoor
