/-
  What is proved: for all lists a and b of plain data and every pick of three bytes, the law NumDeterminants returns true (the determinant of a product is the product of the determinants, that of the adjoint is the conjugate, and exchanging two rows changes the sign), and its arguments read afterwards as before.
  Conditions: those of the given card alone: the table math/bits.deBruijn32tab lies as the program's text lays it (the card ties it).
-/
import Derived.Laws.IdiomArrays
import Derived.Test.YtmlkpnfjgifgfaaGreatDoorD04
import Derived.Test.YtmlkpnfjgifgfaaGreatDoorD05
set_option linter.unusedSimpArgs false
set_option linter.unusedVariables false
namespace Go.Proofs.YtmlkpnfjgifgfaaGreatDoor
open Go Go.ChangeShapes Go.WideShapes Go.ChangeAt Go.WideMaps Go.WideElems Go.RowKit Go.Joins
set_option maxRecDepth 100000

theorem u8x3_size : Tryz.prog.cellsOf 47 = 3 := by kernel_rfl
/-- Three bytes. -/
theorem open_u8x3 {H : Type} {enc : TypeId × Value → H} {W : World} {base b0 : Nat} {v : Value} {d : DataW H} {p : List MemPlace} (hv : Value.okWide Tryz.prog W .any b0 47 v) (h : DataW.Trod enc Tryz.prog W base (fun _ => true) true 47 v d p) :
    ∃ p0 p1 p2 : Nat, v = .agg #[.int .u8 p0, .int .u8 p1, .int .u8 p2] ∧ p0 < 256 ∧ p1 < 256 ∧ p2 < 256 := by
  simp only [Value.okWide, Tryz.underlying47] at hv
  obtain ⟨cs, rfl, hsz, -⟩ := hv
  obtain ⟨l⟩ := cs
  rw [u8x3_size] at hsz
  match l, hsz with
  | [c0, c1, c2], _ =>
    obtain ⟨fuel, hf⟩ := h
    obtain ⟨y0, y1, y2, n, -, t0, t1, t2⟩ := trod_array3 Tryz.underlying47 (by kernel_rfl) hf
    have u8 : ∀ {c : Value} {y : DataW H × List MemPlace}, DataW.trod enc Tryz.prog W base (fun _ => true) true n 5 [c] = some y → ∃ k : Nat, c = .int .u8 k ∧ k < 256 := fun {c y} ht => by
      obtain ⟨z, hz, -, hw⟩ := DataW.trod_int Tryz.underlying5 ht
      simp at hz
      subst hz
      have hw' : (decide (IntKind.u8.min ≤ z) && decide (z ≤ IntKind.u8.max)) = true := hw
      simp only [Bool.and_eq_true] at hw'
      have e1 : IntKind.u8.min = 0 := by decide
      have e2 : IntKind.u8.max = 255 := by decide
      have h1 := of_decide_eq_true hw'.1
      have h2 := of_decide_eq_true hw'.2
      exact ⟨z.toNat, by rw [Int.toNat_of_nonneg (by omega)], by omega⟩
    obtain ⟨p0, rfl, k0⟩ := u8 t0
    obtain ⟨p1, rfl, k1⟩ := u8 t1
    obtain ⟨p2, rfl, k2⟩ := u8 t2
    exact ⟨p0, p1, p2, rfl, k0, k1, k2⟩
theorem numDeterminants_lifted (os : Os) (started : os.Started) (H : Type) (enc : TypeId × Value → H) :
    ReturnsInHanded {} Tryz.checked os 4 .any (fun w args => (Rows.numDeterminantsSpec.pre enc Tryz.prog Tryz.f4 [] false w args ∧ laidMetH Tryz.prog [("math/bits.deBruijn32tab", Rows.laid_math_bits_deBruijn32tab)] w) ∧ sizedMet enc Tryz.prog Tryz.f4 (OpenSpec.ofChange Rows.numDeterminantsSpec) false w args)
      (Rows.numDeterminantsSpec.post enc Tryz.prog Tryz.f4 false true false false) := by
  refine returnsInHanded_of_change_and (C := Tryz.checked) (X := fun w _ => laidMetH Tryz.prog [("math/bits.deBruijn32tab", Rows.laid_math_bits_deBruijn32tab)] w) (fun _ _ _ hh h => h.of_heap hh) own_knob started (by kernel_rfl) Tryz.func4
    (ChangeSpec.witness_shaped (enc := enc) (C := Tryz.checked) (os := os) (X := fun w _ => laidMetH Tryz.prog [("math/bits.deBruijn32tab", Rows.laid_math_bits_deBruijn32tab)] w) false (World.doorLaid Tryz.prog 400 os) #[.slice none 0 0, .slice none 0 0, .agg #[.int .u8 0, .int .u8 0, .int .u8 0]] 8 rfl (World.shaped_of_RefB (by kernel_rfl) (by kernel_rfl)) (by kernel_rfl) (by kernel_rfl) (by kernel_rfl) (door_met os _)) ?_
  intro W base args ds gs before hval0 hW _ _ hL _
  have hval : ∀ (j : Nat) t v, Tryz.f4.params[j]? = some t → args[j]? = some v → Value.okWide Tryz.prog W .any base t v := hval0
  have hWW := hW
  obtain ⟨p, q, hA0, hV, rfl, hfz, hnd⟩ := hW
  have hA : DataW.TrodAll enc Tryz.prog W 0 (fun _ => true) true Tryz.f4.params.toList args.toList ds p := hA0
  rw [Tryz.params4] at hA hval
  obtain ⟨v0, v1, v2, d0, d1, d2, q0, q1, q2, rfl, rfl, rfl, h0, h1, h2⟩ := trodAll_three hA
  obtain ⟨A, len, cap, f, rfl, hl, hR, h64⟩ := open_ratios (hval 0 _ _ rfl rfl) h0
  obtain ⟨A', len', cap', f', rfl, hl', hR', h64'⟩ := open_ratios (hval 1 _ _ rfl rfl) h1
  obtain ⟨p0, p1, p2, rfl, hp0, hp1, hp2⟩ := open_u8x3 (hval 2 _ _ rfl rfl) h2
  have hT := tab_of_laid hL
  obtain ⟨rfl, rfl⟩ := trodVars_none hV
  refine (determinants_walk W A A' len cap len' cap' p0 p1 p2 f f' hR hR' h64 h64' hl hl' hp0 hp1 hp2 hT).mono fun e W' ⟨he, hb⟩ => ?_
  subst he
  exact ⟨_, rfl, law_post rfl rfl (by kernel_rfl) ⟨rfl, rfl, rfl⟩ hWW hb⟩
theorem numDeterminants_said : Rows.NumDeterminantsSaid :=
  OpenClaim.holds_of_wide 4 Tryz.f4 rfl rfl rfl rfl rfl rfl rfl ⟨rfl, rfl, rfl, rfl, rfl⟩ rfl rfl rfl rfl rfl (by kernel_rfl) Tryz.func4 (by kernel_rfl)
    (of_decide_eq_true (by kernel_rfl)) (by unfold Func.isWrapper; first | (rw [if_pos (by decide +kernel)]; kernel_rfl) | (rw [if_neg (by decide +kernel)]; exact ⟨rfl, rfl⟩))
    (fun os started H enc _ => numDeterminants_lifted os started H enc)
theorem numDeterminants_holds : Rows.NumDeterminantsCardSaid :=
  Claim7.holds_tied_plain_at .later [] [.data] true Rows.numDeterminantsCard.stood.harness false
    numDeterminants_said (fun _ h => by cases h) (by kernel_rfl) (fun _ h => by cases h) numDeterminants_row_tie rfl ⟨rfl, rfl⟩ (by kernel_rfl) rfl
    (fun f fn hf hfn => by
      obtain rfl : f = 4 := Option.some.inj ((show Tryz.prog.funcNamed "waveport/waveportlaw01.NumDeterminants" = some 4 by kernel_rfl).symm.trans hf) |>.symm
      obtain rfl : fn = Tryz.f4 := (Option.some.inj (Tryz.func4.symm.trans hfn)).symm
      exact ⟨by kernel_rfl, fun j t ht => by
        rw [Tryz.params4] at ht
        have hm : t ∈ [22, 22, 47] := by simpa using Array.mem_of_getElem? ht
        have hall : ([22, 22, 47].all fun u => !Tryz.prog.wantsStandIn u) = true := by kernel_rfl
        exact (show Tryz.prog.wantsStandIn t = false by simpa using List.all_eq_true.1 hall t hm)⟩)
    (by kernel_rfl)
end Go.Proofs.YtmlkpnfjgifgfaaGreatDoor
