/-
  What is proved: for all bits of four floats, the law BoxMakes returns true (Make returns the box with the two corners, or the specified error, as the reference does; Lo, Hi, Parts and Pair return its corners and parts), and its argument reads afterwards as before.
  Conditions: those of the given card alone: the tables math/bits.deBruijn32tab and math/bits.deBruijn64tab lie as the program's text lays them (the card ties them).
-/
import Derived.Test.YtphlmmjlpbledaaGreatDoorJR9
import Derived.Test.YtphlmmjlpbledaaGreatDoorK29
import Derived.Test.YtphlmmjlpbledaaGreatDoorJQ1
set_option linter.unusedSimpArgs false
set_option linter.unusedVariables false
namespace Go.Proofs.YtphlmmjlpbledaaGreatDoor
open Go Go.ChangeShapes Go.WideShapes Go.ChangeAt Go.WideMaps Go.WideElems Go.RowKit Go.Joins
set_option maxRecDepth 100000

theorem tab64_named : Tryz.prog.globalNamed "math/bits.deBruijn64tab" = some 1 := by kernel_rfl
theorem tab64_type : (Tryz.prog.globals[1]?).map (·.type) = some 229 := by kernel_rfl
/-- The rows' condition, with both tables. -/
def LaidTabs (W : World) : Prop := laidMetH Tryz.prog [("math/bits.deBruijn32tab", Rows.laid_math_bits_deBruijn32tab), ("math/bits.deBruijn64tab", Rows.laid_math_bits_deBruijn64tab)] W
theorem tab_of_tabs {W : World} (h : LaidTabs W) : Tab W := by
  unfold LaidTabs at h
  rw [MakeChecks.laidMetH_plain _ _ _ (by kernel_rfl)] at h
  obtain ⟨ps, ⟨g0, t0, cs0, f0, p0, q0, hg0, ht0, hv0, hd0, -⟩, -, -⟩ := h
  obtain rfl := Option.some.inj (tab_named.symm.trans hg0)
  obtain rfl := Option.some.inj (tab_type.symm.trans ht0)
  obtain ⟨xs, m1, rfl, hx1, hlen, hn, hel⟩ := DataW.trod_array Tryz.underlying242 hd0
  rw [tab_cells8] at hel
  have hcell : ∀ k, W.cell? ⟨2, k, none⟩ = cs0[k]? := fun k => World.var?_cell tab_named hv0 k
  have hx2 := (Prod.mk.injEq _ _ _ _).mp hx1
  have hx3 := hx2.1
  unfold Rows.laid_math_bits_deBruijn32tab at hx3
  injection hx3 with hx3
  have key : ∀ k, k < 32 → cs0[k]? = some (.int .u8 ((Lib.deBruijn32tab.getD k 0 : Nat) : Int)) := fun k hk => by
    have h0 := hel k hk
    have hxk : xs[k]? = some xs[k] := List.getElem?_eq_getElem (by omega)
    rw [hxk] at h0
    obtain ⟨n, e1, e2, -⟩ := DataW.trod_int Tryz.underlying5 h0
    have e3 : (xs.map (·.1))[k]? = some (.lit (.int .u8 n)) := by rw [List.getElem?_map, hxk, Option.map_some, e2]
    rw [← hx3] at e3
    have e4 : cs0[k]? = some (.int .u8 n) := by
      have : (cs0.toList.drop (k * 1))[0]? = some (.int .u8 n) := by
        have h5 : ((cs0.toList.drop (k * 1)).take 1)[0]? = some (.int .u8 n) := by rw [e1]; rfl
        rwa [List.getElem?_take_of_lt (by omega)] at h5
      simpa using this
    rw [e4]
    have e5 : ∀ k, k < 32 → ∀ n : Int, ([DataW.lit (.int .u8 0), .lit (.int .u8 1), .lit (.int .u8 28), .lit (.int .u8 2), .lit (.int .u8 29), .lit (.int .u8 14), .lit (.int .u8 24), .lit (.int .u8 3), .lit (.int .u8 30), .lit (.int .u8 22), .lit (.int .u8 20), .lit (.int .u8 15), .lit (.int .u8 25), .lit (.int .u8 17), .lit (.int .u8 4), .lit (.int .u8 8), .lit (.int .u8 31), .lit (.int .u8 27), .lit (.int .u8 13), .lit (.int .u8 23), .lit (.int .u8 21), .lit (.int .u8 19), .lit (.int .u8 16), .lit (.int .u8 7), .lit (.int .u8 26), .lit (.int .u8 12), .lit (.int .u8 18), .lit (.int .u8 6), .lit (.int .u8 11), .lit (.int .u8 5), .lit (.int .u8 10), .lit (.int .u8 9)] : List (DataW Unit))[k]? = some (.lit (.int .u8 n)) → n = ((Lib.deBruijn32tab.getD k 0 : Nat) : Int) := by
      intro k hk n h
      match k, hk with
      | 0, _ | 1, _ | 2, _ | 3, _ | 4, _ | 5, _ | 6, _ | 7, _ | 8, _ | 9, _ | 10, _ | 11, _ | 12, _ | 13, _ | 14, _ | 15, _ | 16, _ | 17, _ | 18, _ | 19, _ | 20, _ | 21, _ | 22, _ | 23, _ | 24, _ | 25, _ | 26, _ | 27, _ | 28, _ | 29, _ | 30, _ | 31, _ => simp at h; rw [← h]; rfl
      | k + 32, hk => omega
    rw [e5 k hk n e3]
  refine ⟨?_, fun k hk => (hcell k).trans (key k hk)⟩
  have h0 := (hcell 0).trans (key 0 (by omega))
  exact World.block_lt_of_cell? W ⟨2, 0, none⟩ h0
theorem tab64_of_tabs {W : World} (h : LaidTabs W) : Tab64 W := by
  unfold LaidTabs at h
  rw [MakeChecks.laidMetH_plain _ _ _ (by kernel_rfl)] at h
  obtain ⟨ps, ⟨g1, t1, cs1, f1, p1, q1, -, -, -, -, ⟨⟨g0, t0, cs0, f0, p0, q0, hg0, ht0, hv0, hd0, -⟩, -⟩⟩, -, -⟩ := h
  obtain rfl := Option.some.inj (tab64_named.symm.trans hg0)
  obtain rfl := Option.some.inj (tab64_type.symm.trans ht0)
  obtain ⟨xs, m1, rfl, hx1, hlen, hn, hel⟩ := DataW.trod_array Tryz.underlying229 hd0
  rw [tab_cells8] at hel
  have hcell : ∀ k, W.cell? ⟨1, k, none⟩ = cs0[k]? := fun k => World.var?_cell tab64_named hv0 k
  have hx2 := (Prod.mk.injEq _ _ _ _).mp hx1
  have hx3 := hx2.1
  unfold Rows.laid_math_bits_deBruijn64tab at hx3
  injection hx3 with hx3
  have key : ∀ k, k < 64 → cs0[k]? = some (.int .u8 ((Lib.deBruijn64tab.getD k 0 : Nat) : Int)) := fun k hk => by
    have h0 := hel k hk
    have hxk : xs[k]? = some xs[k] := List.getElem?_eq_getElem (by omega)
    rw [hxk] at h0
    obtain ⟨n, e1, e2, -⟩ := DataW.trod_int Tryz.underlying5 h0
    have e3 : (xs.map (·.1))[k]? = some (.lit (.int .u8 n)) := by rw [List.getElem?_map, hxk, Option.map_some, e2]
    rw [← hx3] at e3
    have e4 : cs0[k]? = some (.int .u8 n) := by
      have : (cs0.toList.drop (k * 1))[0]? = some (.int .u8 n) := by
        have h5 : ((cs0.toList.drop (k * 1)).take 1)[0]? = some (.int .u8 n) := by rw [e1]; rfl
        rwa [List.getElem?_take_of_lt (by omega)] at h5
      simpa using this
    rw [e4]
    have e5 : ∀ k, k < 64 → ∀ n : Int, ([DataW.lit (.int .u8 0), .lit (.int .u8 1), .lit (.int .u8 56), .lit (.int .u8 2), .lit (.int .u8 57), .lit (.int .u8 49), .lit (.int .u8 28), .lit (.int .u8 3), .lit (.int .u8 61), .lit (.int .u8 58), .lit (.int .u8 42), .lit (.int .u8 50), .lit (.int .u8 38), .lit (.int .u8 29), .lit (.int .u8 17), .lit (.int .u8 4), .lit (.int .u8 62), .lit (.int .u8 47), .lit (.int .u8 59), .lit (.int .u8 36), .lit (.int .u8 45), .lit (.int .u8 43), .lit (.int .u8 51), .lit (.int .u8 22), .lit (.int .u8 53), .lit (.int .u8 39), .lit (.int .u8 33), .lit (.int .u8 30), .lit (.int .u8 24), .lit (.int .u8 18), .lit (.int .u8 12), .lit (.int .u8 5), .lit (.int .u8 63), .lit (.int .u8 55), .lit (.int .u8 48), .lit (.int .u8 27), .lit (.int .u8 60), .lit (.int .u8 41), .lit (.int .u8 37), .lit (.int .u8 16), .lit (.int .u8 46), .lit (.int .u8 35), .lit (.int .u8 44), .lit (.int .u8 21), .lit (.int .u8 52), .lit (.int .u8 32), .lit (.int .u8 23), .lit (.int .u8 11), .lit (.int .u8 54), .lit (.int .u8 26), .lit (.int .u8 40), .lit (.int .u8 15), .lit (.int .u8 34), .lit (.int .u8 20), .lit (.int .u8 31), .lit (.int .u8 10), .lit (.int .u8 25), .lit (.int .u8 14), .lit (.int .u8 19), .lit (.int .u8 9), .lit (.int .u8 13), .lit (.int .u8 8), .lit (.int .u8 7), .lit (.int .u8 6)] : List (DataW Unit))[k]? = some (.lit (.int .u8 n)) → n = ((Lib.deBruijn64tab.getD k 0 : Nat) : Int) := by
      intro k hk n h
      match k, hk with
      | 0, _ | 1, _ | 2, _ | 3, _ | 4, _ | 5, _ | 6, _ | 7, _ | 8, _ | 9, _ | 10, _ | 11, _ | 12, _ | 13, _ | 14, _ | 15, _ | 16, _ | 17, _ | 18, _ | 19, _ | 20, _ | 21, _ | 22, _ | 23, _ | 24, _ | 25, _ | 26, _ | 27, _ | 28, _ | 29, _ | 30, _ | 31, _ | 32, _ | 33, _ | 34, _ | 35, _ | 36, _ | 37, _ | 38, _ | 39, _ | 40, _ | 41, _ | 42, _ | 43, _ | 44, _ | 45, _ | 46, _ | 47, _ | 48, _ | 49, _ | 50, _ | 51, _ | 52, _ | 53, _ | 54, _ | 55, _ | 56, _ | 57, _ | 58, _ | 59, _ | 60, _ | 61, _ | 62, _ | 63, _ => simp at h; rw [← h]; rfl
      | k + 64, hk => omega
    rw [e5 k hk n e3]
  refine ⟨?_, fun k hk => (hcell k).trans (key k hk)⟩
  have h0 := (hcell 0).trans (key 0 (by omega))
  exact World.block_lt_of_cell? W ⟨1, 0, none⟩ h0
end Go.Proofs.YtphlmmjlpbledaaGreatDoor
namespace Go.Proofs.YtphlmmjlpbledaaGreatDoor
open Go Go.ChangeShapes Go.WideShapes Go.ChangeAt Go.WideMaps Go.WideElems Go.RowKit Go.Joins
set_option maxRecDepth 100000

theorem door_met2 (os : Os) (args : Array Value) : laidMetH Tryz.prog [("math/bits.deBruijn32tab", Rows.laid_math_bits_deBruijn32tab), ("math/bits.deBruijn64tab", Rows.laid_math_bits_deBruijn64tab)] ((World.doorLaid Tryz.prog 400 os).forCall (fun _ _ => 0) ⟨#[], args, []⟩).memory :=
  laidMetH_of_parts3 (fuel := 8) (laidMet_of_run' 8 (by kernel_rfl) (by kernel_rfl)) (by kernel_rfl) (by kernel_rfl)
theorem cells_u64 : Tryz.prog.cellsOf 47 = 1 := by kernel_rfl
theorem cells_arr4 : Tryz.prog.cellsOf 83 = 4 := by kernel_rfl
/-- Four words, opened. -/
theorem open_arr4 {H : Type} {enc : TypeId × Value → H} {W : World} {base : Nat} {v : Value} {d : DataW H} {p : List MemPlace} {b0 : Nat} (hv : Value.okWide Tryz.prog W .any b0 83 v) (h : DataW.Trod enc Tryz.prog W base (fun _ => true) true 83 v d p) :
    ∃ a b c e : Nat, v = .agg #[.int .u64 (a : Int), .int .u64 (b : Int), .int .u64 (c : Int), .int .u64 (e : Int)] := by
  simp only [Value.okWide, Tryz.underlying83] at hv
  obtain ⟨cs, rfl, hsz, -⟩ := hv
  obtain ⟨c0, c1, c2, c3, rfl⟩ := array4 (hsz.trans cells_arr4)
  obtain ⟨fuel, hf⟩ := h
  obtain ⟨xs, m1, hm, hx, hlen, hn, hel⟩ := DataW.trod_array Tryz.underlying83 hf
  rw [cells_u64] at hel
  have key : ∀ k, k < 4 → ∃ a : Nat, ([c0, c1, c2, c3].drop (k * 1)).take 1 = [Value.int .u64 (a : Int)] := fun k hk => by
    have h0 := hel k hk
    have hxk : xs[k]? = some xs[k] := List.getElem?_eq_getElem (by omega)
    rw [hxk] at h0
    obtain ⟨n, e1, -, hw⟩ := DataW.trod_int Tryz.underlying47 h0
    have hw' : (decide (IntKind.u64.min ≤ n) && decide (n ≤ IntKind.u64.max)) = true := hw
    simp only [Bool.and_eq_true] at hw'
    have e4 : IntKind.u64.min = 0 := by decide
    have h1 := of_decide_eq_true hw'.1
    exact ⟨n.toNat, by rw [Int.toNat_of_nonneg (by omega)]; exact e1⟩
  obtain ⟨a, ha⟩ := key 0 (by omega)
  obtain ⟨b, hb⟩ := key 1 (by omega)
  obtain ⟨c, hc⟩ := key 2 (by omega)
  obtain ⟨e, he⟩ := key 3 (by omega)
  simp at ha hb hc he
  exact ⟨a, b, c, e, by rw [ha, hb, hc, he]⟩
theorem boxMakes_lifted (os : Os) (started : os.Started) (H : Type) (enc : TypeId × Value → H) :
    ReturnsInHanded {} Tryz.checked os 9 .any (fun w args => (Rows.boxMakesSpec.pre enc Tryz.prog Tryz.f9 [] false w args ∧ laidMetH Tryz.prog [("math/bits.deBruijn32tab", Rows.laid_math_bits_deBruijn32tab), ("math/bits.deBruijn64tab", Rows.laid_math_bits_deBruijn64tab)] w) ∧ sizedMet enc Tryz.prog Tryz.f9 (OpenSpec.ofChange Rows.boxMakesSpec) false w args)
      (Rows.boxMakesSpec.post enc Tryz.prog Tryz.f9 false true false false) := by
  refine returnsInHanded_of_change_and (C := Tryz.checked) (X := fun w _ => laidMetH Tryz.prog [("math/bits.deBruijn32tab", Rows.laid_math_bits_deBruijn32tab), ("math/bits.deBruijn64tab", Rows.laid_math_bits_deBruijn64tab)] w) (fun _ _ _ hh h => h.of_heap hh) own_knob started (by kernel_rfl) Tryz.func9
    (ChangeSpec.witness_shaped (enc := enc) (C := Tryz.checked) (os := os) (X := fun w _ => laidMetH Tryz.prog [("math/bits.deBruijn32tab", Rows.laid_math_bits_deBruijn32tab), ("math/bits.deBruijn64tab", Rows.laid_math_bits_deBruijn64tab)] w) false (World.doorLaid Tryz.prog 400 os) #[.agg #[.int .u64 0, .int .u64 0, .int .u64 0, .int .u64 0]] 8 rfl (World.shaped_of_RefB (by kernel_rfl) (by kernel_rfl)) (by kernel_rfl) (by kernel_rfl) (by kernel_rfl) (door_met2 os _)) ?_
  intro W base args ds gs before hval0 hW _ _ hL _
  have hval : ∀ (j : Nat) t v, Tryz.f9.params[j]? = some t → args[j]? = some v → Value.okWide Tryz.prog W .any base t v := hval0
  have hWW := hW
  obtain ⟨p, q, hA0, hV, rfl, hfz, hnd⟩ := hW
  have hA : DataW.TrodAll enc Tryz.prog W 0 (fun _ => true) true Tryz.f9.params.toList args.toList ds p := hA0
  rw [Tryz.params9] at hA hval
  obtain ⟨v0, d0, rfl, rfl, h0⟩ := trodAll_one hA
  obtain ⟨a1, a2, a3, a4, rfl⟩ := open_arr4 (hval 0 _ _ rfl rfl) h0
  have hT := tab_of_tabs hL
  have hT6 := tab64_of_tabs hL
  obtain ⟨rfl, rfl⟩ := trodVars_none hV
  refine (boxMakes_walk W a1 a2 a3 a4 hT hT6).mono fun e W' ⟨he, hb⟩ => ?_
  subst he
  exact ⟨_, rfl, law_post rfl rfl (by kernel_rfl) ⟨rfl, rfl, rfl⟩ hWW hb⟩
theorem boxMakes_said : Rows.BoxMakesSaid :=
  OpenClaim.holds_of_wide 9 Tryz.f9 rfl rfl rfl rfl rfl rfl rfl ⟨rfl, rfl, rfl, rfl, rfl⟩ rfl rfl rfl rfl rfl (by kernel_rfl) Tryz.func9 (by kernel_rfl)
    (of_decide_eq_true (by kernel_rfl)) (by unfold Func.isWrapper; first | (rw [if_pos (by decide +kernel)]; kernel_rfl) | (rw [if_neg (by decide +kernel)]; exact ⟨rfl, rfl⟩))
    (fun os started H enc _ => boxMakes_lifted os started H enc)
theorem boxMakes_holds : Rows.BoxMakesCardSaid :=
  Claim7.holds_tied_plain_at .later [] [.data, .data] true Rows.boxMakesCard.stood.harness false
    boxMakes_said (fun _ h => by cases h) (by kernel_rfl) (fun _ h => by cases h) boxMakes_row_tie rfl ⟨rfl, rfl⟩ (by kernel_rfl) rfl
    (fun f fn hf hfn => by
      obtain rfl : f = 9 := Option.some.inj ((show Tryz.prog.funcNamed "waveport/waveportlaw02.BoxMakes" = some 9 by kernel_rfl).symm.trans hf) |>.symm
      obtain rfl : fn = Tryz.f9 := (Option.some.inj (Tryz.func9.symm.trans hfn)).symm
      exact ⟨by kernel_rfl, fun j t ht => by
        rw [Tryz.params9] at ht
        have hm : t ∈ [83] := by simpa using Array.mem_of_getElem? ht
        have hall : ([83].all fun u => !Tryz.prog.wantsStandIn u) = true := by kernel_rfl
        exact (show Tryz.prog.wantsStandIn t = false by simpa using List.all_eq_true.1 hall t hm)⟩)
    (by kernel_rfl)
end Go.Proofs.YtphlmmjlpbledaaGreatDoor
