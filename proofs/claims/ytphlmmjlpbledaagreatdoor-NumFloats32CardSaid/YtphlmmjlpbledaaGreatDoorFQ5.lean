/-
  What is proved: for all bits of two floats, the law NumFloats32 returns true (Complex64 returns the exact value of any complex64 or the error, and Near64 returns it again), and its arguments read afterwards as before.
  Conditions: those of the given card alone: the tables math/bits.deBruijn32tab and math/bits.deBruijn64tab lie as the program's text lays them (the card ties them).
-/
import Derived.Test.YtphlmmjlpbledaaGreatDoorK29
import Derived.Test.YtphlmmjlpbledaaGreatDoorFQ1
import Derived.Test.YtphlmmjlpbledaaGreatDoorFQ4
set_option linter.unusedSimpArgs false
set_option linter.unusedVariables false
namespace Go.Proofs.YtphlmmjlpbledaaGreatDoor
open Go Go.ChangeShapes Go.WideShapes Go.ChangeAt Go.WideMaps Go.WideElems Go.RowKit Go.Joins
set_option maxRecDepth 100000

theorem tab64_named : Tryz.prog.globalNamed "math/bits.deBruijn64tab" = some 1 := by kernel_rfl
theorem tab64_type : (Tryz.prog.globals[1]?).map (·.type) = some 229 := by kernel_rfl
/-- The rows' condition, with both tables. -/
def LaidTabs (W : World) : Prop := laidMetH Tryz.prog [("math/bits.deBruijn32tab", Rows.laid_math_bits_deBruijn32tab), ("math/bits.deBruijn64tab", Rows.laid_math_bits_deBruijn64tab)] W
theorem tab_of_tabs {W : World} (h : LaidTabs W) : Tab W := by
  unfold LaidTabs at h
  rw [MakeChecks.laidMetH_plain _ _ _ (by kernel_rfl)] at h
  obtain ⟨ps, ⟨g0, t0, cs0, f0, p0, q0, hg0, ht0, hv0, hd0, -⟩, -, -⟩ := h
  obtain rfl := Option.some.inj (tab_named.symm.trans hg0)
  obtain rfl := Option.some.inj (tab_type.symm.trans ht0)
  obtain ⟨xs, m1, rfl, hx1, hlen, hn, hel⟩ := DataW.trod_array Tryz.underlying242 hd0
  rw [tab_cells8] at hel
  have hcell : ∀ k, W.cell? ⟨2, k, none⟩ = cs0[k]? := fun k => World.var?_cell tab_named hv0 k
  have hx2 := (Prod.mk.injEq _ _ _ _).mp hx1
  have hx3 := hx2.1
  unfold Rows.laid_math_bits_deBruijn32tab at hx3
  injection hx3 with hx3
  have key : ∀ k, k < 32 → cs0[k]? = some (.int .u8 ((Lib.deBruijn32tab.getD k 0 : Nat) : Int)) := fun k hk => by
    have h0 := hel k hk
    have hxk : xs[k]? = some xs[k] := List.getElem?_eq_getElem (by omega)
    rw [hxk] at h0
    obtain ⟨n, e1, e2, -⟩ := DataW.trod_int Tryz.underlying5 h0
    have e3 : (xs.map (·.1))[k]? = some (.lit (.int .u8 n)) := by rw [List.getElem?_map, hxk, Option.map_some, e2]
    rw [← hx3] at e3
    have e4 : cs0[k]? = some (.int .u8 n) := by
      have : (cs0.toList.drop (k * 1))[0]? = some (.int .u8 n) := by
        have h5 : ((cs0.toList.drop (k * 1)).take 1)[0]? = some (.int .u8 n) := by rw [e1]; rfl
        rwa [List.getElem?_take_of_lt (by omega)] at h5
      simpa using this
    rw [e4]
    have e5 : ∀ k, k < 32 → ∀ n : Int, ([DataW.lit (.int .u8 0), .lit (.int .u8 1), .lit (.int .u8 28), .lit (.int .u8 2), .lit (.int .u8 29), .lit (.int .u8 14), .lit (.int .u8 24), .lit (.int .u8 3), .lit (.int .u8 30), .lit (.int .u8 22), .lit (.int .u8 20), .lit (.int .u8 15), .lit (.int .u8 25), .lit (.int .u8 17), .lit (.int .u8 4), .lit (.int .u8 8), .lit (.int .u8 31), .lit (.int .u8 27), .lit (.int .u8 13), .lit (.int .u8 23), .lit (.int .u8 21), .lit (.int .u8 19), .lit (.int .u8 16), .lit (.int .u8 7), .lit (.int .u8 26), .lit (.int .u8 12), .lit (.int .u8 18), .lit (.int .u8 6), .lit (.int .u8 11), .lit (.int .u8 5), .lit (.int .u8 10), .lit (.int .u8 9)] : List (DataW Unit))[k]? = some (.lit (.int .u8 n)) → n = ((Lib.deBruijn32tab.getD k 0 : Nat) : Int) := by
      intro k hk n h
      match k, hk with
      | 0, _ | 1, _ | 2, _ | 3, _ | 4, _ | 5, _ | 6, _ | 7, _ | 8, _ | 9, _ | 10, _ | 11, _ | 12, _ | 13, _ | 14, _ | 15, _ | 16, _ | 17, _ | 18, _ | 19, _ | 20, _ | 21, _ | 22, _ | 23, _ | 24, _ | 25, _ | 26, _ | 27, _ | 28, _ | 29, _ | 30, _ | 31, _ => simp at h; rw [← h]; rfl
      | k + 32, hk => omega
    rw [e5 k hk n e3]
  refine ⟨?_, fun k hk => (hcell k).trans (key k hk)⟩
  have h0 := (hcell 0).trans (key 0 (by omega))
  exact World.block_lt_of_cell? W ⟨2, 0, none⟩ h0
theorem tab64_of_tabs {W : World} (h : LaidTabs W) : Tab64 W := by
  unfold LaidTabs at h
  rw [MakeChecks.laidMetH_plain _ _ _ (by kernel_rfl)] at h
  obtain ⟨ps, ⟨g1, t1, cs1, f1, p1, q1, -, -, -, -, ⟨⟨g0, t0, cs0, f0, p0, q0, hg0, ht0, hv0, hd0, -⟩, -⟩⟩, -, -⟩ := h
  obtain rfl := Option.some.inj (tab64_named.symm.trans hg0)
  obtain rfl := Option.some.inj (tab64_type.symm.trans ht0)
  obtain ⟨xs, m1, rfl, hx1, hlen, hn, hel⟩ := DataW.trod_array Tryz.underlying229 hd0
  rw [tab_cells8] at hel
  have hcell : ∀ k, W.cell? ⟨1, k, none⟩ = cs0[k]? := fun k => World.var?_cell tab64_named hv0 k
  have hx2 := (Prod.mk.injEq _ _ _ _).mp hx1
  have hx3 := hx2.1
  unfold Rows.laid_math_bits_deBruijn64tab at hx3
  injection hx3 with hx3
  have key : ∀ k, k < 64 → cs0[k]? = some (.int .u8 ((Lib.deBruijn64tab.getD k 0 : Nat) : Int)) := fun k hk => by
    have h0 := hel k hk
    have hxk : xs[k]? = some xs[k] := List.getElem?_eq_getElem (by omega)
    rw [hxk] at h0
    obtain ⟨n, e1, e2, -⟩ := DataW.trod_int Tryz.underlying5 h0
    have e3 : (xs.map (·.1))[k]? = some (.lit (.int .u8 n)) := by rw [List.getElem?_map, hxk, Option.map_some, e2]
    rw [← hx3] at e3
    have e4 : cs0[k]? = some (.int .u8 n) := by
      have : (cs0.toList.drop (k * 1))[0]? = some (.int .u8 n) := by
        have h5 : ((cs0.toList.drop (k * 1)).take 1)[0]? = some (.int .u8 n) := by rw [e1]; rfl
        rwa [List.getElem?_take_of_lt (by omega)] at h5
      simpa using this
    rw [e4]
    have e5 : ∀ k, k < 64 → ∀ n : Int, ([DataW.lit (.int .u8 0), .lit (.int .u8 1), .lit (.int .u8 56), .lit (.int .u8 2), .lit (.int .u8 57), .lit (.int .u8 49), .lit (.int .u8 28), .lit (.int .u8 3), .lit (.int .u8 61), .lit (.int .u8 58), .lit (.int .u8 42), .lit (.int .u8 50), .lit (.int .u8 38), .lit (.int .u8 29), .lit (.int .u8 17), .lit (.int .u8 4), .lit (.int .u8 62), .lit (.int .u8 47), .lit (.int .u8 59), .lit (.int .u8 36), .lit (.int .u8 45), .lit (.int .u8 43), .lit (.int .u8 51), .lit (.int .u8 22), .lit (.int .u8 53), .lit (.int .u8 39), .lit (.int .u8 33), .lit (.int .u8 30), .lit (.int .u8 24), .lit (.int .u8 18), .lit (.int .u8 12), .lit (.int .u8 5), .lit (.int .u8 63), .lit (.int .u8 55), .lit (.int .u8 48), .lit (.int .u8 27), .lit (.int .u8 60), .lit (.int .u8 41), .lit (.int .u8 37), .lit (.int .u8 16), .lit (.int .u8 46), .lit (.int .u8 35), .lit (.int .u8 44), .lit (.int .u8 21), .lit (.int .u8 52), .lit (.int .u8 32), .lit (.int .u8 23), .lit (.int .u8 11), .lit (.int .u8 54), .lit (.int .u8 26), .lit (.int .u8 40), .lit (.int .u8 15), .lit (.int .u8 34), .lit (.int .u8 20), .lit (.int .u8 31), .lit (.int .u8 10), .lit (.int .u8 25), .lit (.int .u8 14), .lit (.int .u8 19), .lit (.int .u8 9), .lit (.int .u8 13), .lit (.int .u8 8), .lit (.int .u8 7), .lit (.int .u8 6)] : List (DataW Unit))[k]? = some (.lit (.int .u8 n)) → n = ((Lib.deBruijn64tab.getD k 0 : Nat) : Int) := by
      intro k hk n h
      match k, hk with
      | 0, _ | 1, _ | 2, _ | 3, _ | 4, _ | 5, _ | 6, _ | 7, _ | 8, _ | 9, _ | 10, _ | 11, _ | 12, _ | 13, _ | 14, _ | 15, _ | 16, _ | 17, _ | 18, _ | 19, _ | 20, _ | 21, _ | 22, _ | 23, _ | 24, _ | 25, _ | 26, _ | 27, _ | 28, _ | 29, _ | 30, _ | 31, _ | 32, _ | 33, _ | 34, _ | 35, _ | 36, _ | 37, _ | 38, _ | 39, _ | 40, _ | 41, _ | 42, _ | 43, _ | 44, _ | 45, _ | 46, _ | 47, _ | 48, _ | 49, _ | 50, _ | 51, _ | 52, _ | 53, _ | 54, _ | 55, _ | 56, _ | 57, _ | 58, _ | 59, _ | 60, _ | 61, _ | 62, _ | 63, _ => simp at h; rw [← h]; rfl
      | k + 64, hk => omega
    rw [e5 k hk n e3]
  refine ⟨?_, fun k hk => (hcell k).trans (key k hk)⟩
  have h0 := (hcell 0).trans (key 0 (by omega))
  exact World.block_lt_of_cell? W ⟨1, 0, none⟩ h0
end Go.Proofs.YtphlmmjlpbledaaGreatDoor
set_option linter.unusedSimpArgs false
set_option linter.unusedVariables false
namespace Go.Proofs.YtphlmmjlpbledaaGreatDoor
open Go Go.ChangeShapes Go.WideShapes Go.ChangeAt Go.WideMaps Go.WideElems Go.RowKit Go.Joins
set_option maxRecDepth 100000

theorem door_met2 (os : Os) (args : Array Value) : laidMetH Tryz.prog [("math/bits.deBruijn32tab", Rows.laid_math_bits_deBruijn32tab), ("math/bits.deBruijn64tab", Rows.laid_math_bits_deBruijn64tab)] ((World.doorLaid Tryz.prog 400 os).forCall (fun _ _ => 0) ⟨#[], args, []⟩).memory :=
  laidMetH_of_parts3 (fuel := 8) (laidMet_of_run' 8 (by kernel_rfl) (by kernel_rfl)) (by kernel_rfl) (by kernel_rfl)
/-- Bits, opened. -/
theorem open_u {H : Type} {enc : TypeId × Value → H} {W : World} {base : Nat} {v : Value} {d : DataW H} {p : List MemPlace} {b0 : Nat} (hv : Value.okWide Tryz.prog W .any b0 56 v) (h : DataW.Trod enc Tryz.prog W base (fun _ => true) true 56 v d p) :
    ∃ n : Nat, v = .int .u32 (n : Int) ∧ n < 4294967296 := by
  obtain ⟨z, rfl⟩ := okWide_int Tryz.underlying56 hv
  obtain ⟨fuel, hf⟩ := h
  obtain ⟨n, hn, -, hw⟩ := DataW.trod_int Tryz.underlying56 hf
  simp [Value.cells] at hn
  subst hn
  have hw' : (decide (IntKind.u32.min ≤ z) && decide (z ≤ IntKind.u32.max)) = true := hw
  simp only [Bool.and_eq_true] at hw'
  have e1 : IntKind.u32.min = 0 := by decide
  have e2 : IntKind.u32.max = 4294967296 - 1 := by decide
  have h1 := of_decide_eq_true hw'.1
  have h2 := of_decide_eq_true hw'.2
  refine ⟨z.toNat, ?_, by omega⟩
  rw [Int.toNat_of_nonneg (by omega)]
theorem numFloats32_lifted (os : Os) (started : os.Started) (H : Type) (enc : TypeId × Value → H) :
    ReturnsInHanded {} Tryz.checked os 6 .any (fun w args => (Rows.numFloats32Spec.pre enc Tryz.prog Tryz.f6 [] false w args ∧ laidMetH Tryz.prog [("math/bits.deBruijn32tab", Rows.laid_math_bits_deBruijn32tab), ("math/bits.deBruijn64tab", Rows.laid_math_bits_deBruijn64tab)] w) ∧ sizedMet enc Tryz.prog Tryz.f6 (OpenSpec.ofChange Rows.numFloats32Spec) false w args)
      (Rows.numFloats32Spec.post enc Tryz.prog Tryz.f6 false true false false) := by
  refine returnsInHanded_of_change_and (C := Tryz.checked) (X := fun w _ => laidMetH Tryz.prog [("math/bits.deBruijn32tab", Rows.laid_math_bits_deBruijn32tab), ("math/bits.deBruijn64tab", Rows.laid_math_bits_deBruijn64tab)] w) (fun _ _ _ hh h => h.of_heap hh) own_knob started (by kernel_rfl) Tryz.func6
    (ChangeSpec.witness_shaped (enc := enc) (C := Tryz.checked) (os := os) (X := fun w _ => laidMetH Tryz.prog [("math/bits.deBruijn32tab", Rows.laid_math_bits_deBruijn32tab), ("math/bits.deBruijn64tab", Rows.laid_math_bits_deBruijn64tab)] w) false (World.doorLaid Tryz.prog 400 os) #[.int .u32 0, .int .u32 0] 8 rfl (World.shaped_of_RefB (by kernel_rfl) (by kernel_rfl)) (by kernel_rfl) (by kernel_rfl) (by kernel_rfl) (door_met2 os _)) ?_
  intro W base args ds gs before hval0 hW _ _ hL _
  have hval : ∀ (j : Nat) t v, Tryz.f6.params[j]? = some t → args[j]? = some v → Value.okWide Tryz.prog W .any base t v := hval0
  have hWW := hW
  obtain ⟨p, q, hA0, hV, rfl, hfz, hnd⟩ := hW
  have hA : DataW.TrodAll enc Tryz.prog W 0 (fun _ => true) true Tryz.f6.params.toList args.toList ds p := hA0
  rw [Tryz.params6] at hA hval
  obtain ⟨v0, v1, d0, d1, q0, q1, rfl, rfl, rfl, h0, h1⟩ := trodAll_two hA
  obtain ⟨a1, rfl, ha1⟩ := open_u (hval 0 _ _ rfl rfl) h0
  obtain ⟨a2, rfl, ha2⟩ := open_u (hval 1 _ _ rfl rfl) h1
  have hT := tab_of_tabs hL
  have hT6 := tab64_of_tabs hL
  obtain ⟨rfl, rfl⟩ := trodVars_none hV
  refine (numFloats32_walk W a1 a2 ha1 ha2 hT hT6).mono fun e W' ⟨he, hb⟩ => ?_
  subst he
  exact ⟨_, rfl, law_post rfl rfl (by kernel_rfl) ⟨rfl, rfl, rfl⟩ hWW hb⟩
theorem numFloats32_said : Rows.NumFloats32Said :=
  OpenClaim.holds_of_wide 6 Tryz.f6 rfl rfl rfl rfl rfl rfl rfl ⟨rfl, rfl, rfl, rfl, rfl⟩ rfl rfl rfl rfl rfl (by kernel_rfl) Tryz.func6 (by kernel_rfl)
    (of_decide_eq_true (by kernel_rfl)) (by unfold Func.isWrapper; first | (rw [if_pos (by decide +kernel)]; kernel_rfl) | (rw [if_neg (by decide +kernel)]; exact ⟨rfl, rfl⟩))
    (fun os started H enc _ => numFloats32_lifted os started H enc)
theorem numFloats32_holds : Rows.NumFloats32CardSaid :=
  Claim7.holds_tied_plain_at .later [] [.data, .data] true Rows.numFloats32Card.stood.harness false
    numFloats32_said (fun _ h => by cases h) (by kernel_rfl) (fun _ h => by cases h) numFloats32_row_tie rfl ⟨rfl, rfl⟩ (by kernel_rfl) rfl
    (fun f fn hf hfn => by
      obtain rfl : f = 6 := Option.some.inj ((show Tryz.prog.funcNamed "waveport/waveportlaw01.NumFloats32" = some 6 by kernel_rfl).symm.trans hf) |>.symm
      obtain rfl : fn = Tryz.f6 := (Option.some.inj (Tryz.func6.symm.trans hfn)).symm
      exact ⟨by kernel_rfl, fun j t ht => by
        rw [Tryz.params6] at ht
        have hm : t ∈ [56, 56] := by simpa using Array.mem_of_getElem? ht
        have hall : ([56, 56].all fun u => !Tryz.prog.wantsStandIn u) = true := by kernel_rfl
        exact (show Tryz.prog.wantsStandIn t = false by simpa using List.all_eq_true.1 hall t hm)⟩)
    (by kernel_rfl)
end Go.Proofs.YtphlmmjlpbledaaGreatDoor
