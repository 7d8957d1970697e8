/-
  What is proved: for all bits of two floats, the law BoxSpans returns true (MakeSpan returns the span with the two ends, or the specified error, as the reference does, and Ends returns them), and its arguments read afterwards as before.
  Conditions: those of the given card alone: the tables math/bits.deBruijn32tab and math/bits.deBruijn64tab lie as the program's text lays them (the card ties them).
-/
import Derived.Test.YtphlmmjlpbledaaGreatDoorJQ8
import Derived.Test.YtphlmmjlpbledaaGreatDoorK29
set_option linter.unusedSimpArgs false
set_option linter.unusedVariables false
namespace Go.Proofs.YtphlmmjlpbledaaGreatDoor
open Go.RowKit
set_option maxRecDepth 100000

def nanb (b : Nat) : Bool := FloatKind.f64.format.order b b != some Ordering.eq
def infp (b : Nat) : Bool := FloatKind.f64.format.order b 9218868437227405311 == some Ordering.gt
def infn (b : Nat) : Bool := FloatKind.f64.format.order (Op.negFloat .f64 b) 9218868437227405311 == some Ordering.gt
def gtb (a b : Nat) : Bool := FloatKind.f64.format.order a b == some Ordering.gt
def zeb (b : Nat) : Bool := FloatKind.f64.format.order b 0 == some Ordering.eq
/-- A float, and +0 for -0. -/
def ez (b : Nat) : Nat := if zeb b then 0 else b
def mayB (a b : Nat) : Bool := !nanb a && !nanb b && !infp a && !infn b
/-- The code of MakeSpan, and the span's ends. -/
def msK (a b : Nat) : Int := if mayB a b then (if gtb a b then 7 else 0) else 1
def msL (a b : Nat) : Nat := if mayB a b && !gtb a b then ez a else 0
def msH (a b : Nat) : Nat := if mayB a b && !gtb a b then ez b else 0
theorem fneg_run (b : Nat) (W : World) : (Op.unary UnOp.neg (.float .f64 b)).run Tryz.prog W = .ok (.float .f64 (Op.negFloat .f64 b)) W := by
  simp [Op.unary]
theorem mayEnd_any (a b : Nat) (w : World) : Calls Tryz.prog 96 #[.float .f64 a, .float .f64 b] w fun e w' => e = .returned (.bool (mayB a b)) ∧ w = w' := by
  have hfb := floatbits_run
  have hfn := fneg_run
  unfold mayB
  cases h1 : nanb a
  · cases h2 : nanb b
    · cases h3 : infp a
      · cases h4 : infn b
        · unfold nanb at h1 h2; unfold infp at h3; unfold infn at h4
          go_enter Tryz.func96, Tryz.ntmps96
          go_wp2
          go_ret
          exact ⟨rfl, rfl⟩
        · unfold nanb at h1 h2; unfold infp at h3; unfold infn at h4
          go_enter Tryz.func96, Tryz.ntmps96
          go_wp2
          go_ret
          exact ⟨rfl, rfl⟩
      · unfold nanb at h1 h2; unfold infp at h3
        go_enter Tryz.func96, Tryz.ntmps96
        go_wp2
        go_ret
        exact ⟨rfl, rfl⟩
    · unfold nanb at h1 h2
      go_enter Tryz.func96, Tryz.ntmps96
      go_wp2
      go_ret
      exact ⟨rfl, rfl⟩
  · unfold nanb at h1
    go_enter Tryz.func96, Tryz.ntmps96
    go_wp2
    go_ret
    exact ⟨rfl, rfl⟩
theorem plain_any (b : Nat) (w : World) : Calls Tryz.prog 97 #[.float .f64 b] w fun e w' => e = .returned (.float .f64 (ez b)) ∧ w = w' := by
  unfold ez
  cases h : zeb b
  · rw [if_neg Bool.false_ne_true]
    unfold zeb at h
    go_enter Tryz.func97, Tryz.ntmps97
    go_wp2
    go_ret
    exact ⟨rfl, rfl⟩
  · rw [if_pos rfl]
    unfold zeb at h
    go_enter Tryz.func97, Tryz.ntmps97
    go_wp2
    go_ret
    exact ⟨rfl, rfl⟩
theorem rend_any (b : Nat) (w : World) : Calls Tryz.prog 100 #[.float .f64 b] w fun e w' => e = .returned (.float .f64 (ez b)) ∧ w = w' := by
  unfold ez
  cases h : zeb b
  · rw [if_neg Bool.false_ne_true]
    unfold zeb at h
    go_enter Tryz.func100, Tryz.ntmps100
    go_wp2
    go_ret
    exact ⟨rfl, rfl⟩
  · rw [if_pos rfl]
    unfold zeb at h
    go_enter Tryz.func100, Tryz.ntmps100
    go_wp2
    go_ret
    exact ⟨rfl, rfl⟩
theorem makeSpan_any (a b : Nat) (w : World) : Calls Tryz.prog 30 #[.float .f64 a, .float .f64 b] w fun e w' => e = .returned (.tuple #[.agg #[.float .f64 (msL a b), .float .f64 (msH a b)], .int .i64 (msK a b)]) ∧ Below w.heap.size w w' := by
  have hfb := floatbits_run
  have hfn := fneg_run
  have hsf := store_float
  have HM := hid (fun W => mayEnd_any a b W)
  have HPa := hid (fun W => plain_any a W)
  have HPb := hid (fun W => plain_any b W)
  unfold msL msH msK
  cases hm : mayB a b
  · simp only [Bool.false_and, Bool.false_eq_true, if_false]
    go_enter Tryz.func30, Tryz.ntmps30
    go_wp2_with fail
    refine (HM.out _).mono ?_
    rw [hm]
    rintro e w9 ⟨rfl, rfl⟩
    go_wp2
    refine bodyPost_ret (v := .tuple #[.agg #[.float .f64 0, .float .f64 0], .int .i64 1]) (by simp [results, Tryz.results30, go_sem]) rfl ?_
    exact ⟨rfl, below_alloc _ _⟩
  · cases hg : gtb a b
    · simp only [Bool.true_and, Bool.not_false, if_true, Bool.false_eq_true, if_false]
      have hg' := hg
      unfold gtb at hg'
      go_enter Tryz.func30, Tryz.ntmps30
      go_wp2_with fail
      refine (HM.out _).mono ?_
      rw [hm]
      rintro e w9 ⟨rfl, rfl⟩
      go_wp2_with fail
      refine (HPa.out _).mono ?_
      rintro e w9 ⟨rfl, rfl⟩
      go_wp2_with fail
      refine (HPb.out _).mono ?_
      rintro e w9 ⟨rfl, rfl⟩
      go_wp2
      refine bodyPost_ret (v := .tuple #[.agg #[.float .f64 (ez a), .float .f64 (ez b)], .int .i64 0]) (by simp [results, Tryz.results30, go_sem]) rfl ?_
      exact ⟨rfl, below_alloc _ _⟩
    · simp only [Bool.true_and, Bool.not_true, Bool.false_eq_true, if_false, if_true]
      have hg' := hg
      unfold gtb at hg'
      go_enter Tryz.func30, Tryz.ntmps30
      go_wp2_with fail
      refine (HM.out _).mono ?_
      rw [hm]
      rintro e w9 ⟨rfl, rfl⟩
      go_wp2
      refine bodyPost_ret (v := .tuple #[.agg #[.float .f64 0, .float .f64 0], .int .i64 7]) (by simp [results, Tryz.results30, go_sem]) rfl ?_
      exact ⟨rfl, below_alloc _ _⟩
theorem rmakeSpan_any (a b : Nat) (w : World) : Calls Tryz.prog 31 #[.float .f64 a, .float .f64 b] w fun e w' => e = .returned (.tuple #[.agg #[.float .f64 (msL a b), .float .f64 (msH a b)], .int .i64 (msK a b)]) ∧ Below w.heap.size w w' := by
  have hfb := floatbits_run
  have hfn := fneg_run
  have hsf := store_float
  have HPa := hid (fun W => rend_any a W)
  have HPb := hid (fun W => rend_any b W)
  unfold msL msH msK mayB
  cases h1 : nanb a
  · cases h2 : nanb b
    · cases h3 : infp a
      · cases h4 : infn b
        · cases hg : gtb a b
          · simp only [Bool.not_false, Bool.and_true, if_true, Bool.false_eq_true, if_false]
            unfold nanb at h1 h2; unfold infp at h3; unfold infn at h4; unfold gtb at hg
            go_enter Tryz.func31, Tryz.ntmps31
            cases hza : zeb a
            · cases hzb : zeb b
              · unfold ez; rw [hza, hzb]; unfold zeb at hza hzb
                go_wp2
                refine bodyPost_ret (v := .tuple #[.agg #[.float .f64 a, .float .f64 b], .int .i64 0]) (by simp [results, Tryz.results31, go_sem]) rfl ?_
                exact ⟨rfl, below_alloc _ _⟩
              · unfold ez; rw [hza, hzb]; unfold zeb at hza hzb
                go_wp2
                refine bodyPost_ret (v := .tuple #[.agg #[.float .f64 a, .float .f64 0], .int .i64 0]) (by simp [results, Tryz.results31, go_sem]) rfl ?_
                exact ⟨rfl, below_alloc _ _⟩
            · cases hzb : zeb b
              · unfold ez; rw [hza, hzb]; unfold zeb at hza hzb
                go_wp2
                refine bodyPost_ret (v := .tuple #[.agg #[.float .f64 0, .float .f64 b], .int .i64 0]) (by simp [results, Tryz.results31, go_sem]) rfl ?_
                exact ⟨rfl, below_alloc _ _⟩
              · unfold ez; rw [hza, hzb]; unfold zeb at hza hzb
                go_wp2
                refine bodyPost_ret (v := .tuple #[.agg #[.float .f64 0, .float .f64 0], .int .i64 0]) (by simp [results, Tryz.results31, go_sem]) rfl ?_
                exact ⟨rfl, below_alloc _ _⟩
          · simp only [Bool.not_false, Bool.not_true, Bool.and_true, Bool.and_false, if_true, Bool.false_eq_true, if_false]
            unfold nanb at h1 h2; unfold infp at h3; unfold infn at h4; unfold gtb at hg
            go_enter Tryz.func31, Tryz.ntmps31
            go_wp2
            refine bodyPost_ret (v := .tuple #[.agg #[.float .f64 0, .float .f64 0], .int .i64 7]) (by simp [results, Tryz.results31, go_sem]) rfl ?_
            exact ⟨rfl, below_alloc _ _⟩
        · simp only [Bool.not_false, Bool.not_true, Bool.and_true, Bool.and_false, Bool.false_and, if_true, Bool.false_eq_true, if_false]
          unfold nanb at h1 h2; unfold infp at h3; unfold infn at h4
          go_enter Tryz.func31, Tryz.ntmps31
          go_wp2
          refine bodyPost_ret (v := .tuple #[.agg #[.float .f64 0, .float .f64 0], .int .i64 1]) (by simp [results, Tryz.results31, go_sem]) rfl ?_
          exact ⟨rfl, below_alloc _ _⟩
      · simp only [Bool.not_false, Bool.not_true, Bool.and_true, Bool.and_false, Bool.false_and, if_true, Bool.false_eq_true, if_false]
        unfold nanb at h1 h2; unfold infp at h3
        go_enter Tryz.func31, Tryz.ntmps31
        go_wp2
        refine bodyPost_ret (v := .tuple #[.agg #[.float .f64 0, .float .f64 0], .int .i64 1]) (by simp [results, Tryz.results31, go_sem]) rfl ?_
        exact ⟨rfl, below_alloc _ _⟩
    · simp only [Bool.not_false, Bool.not_true, Bool.and_true, Bool.and_false, Bool.false_and, if_true, Bool.false_eq_true, if_false]
      unfold nanb at h1 h2
      go_enter Tryz.func31, Tryz.ntmps31
      go_wp2
      refine bodyPost_ret (v := .tuple #[.agg #[.float .f64 0, .float .f64 0], .int .i64 1]) (by simp [results, Tryz.results31, go_sem]) rfl ?_
      exact ⟨rfl, below_alloc _ _⟩
  · simp only [Bool.not_false, Bool.not_true, Bool.and_true, Bool.and_false, Bool.false_and, if_true, Bool.false_eq_true, if_false]
    unfold nanb at h1
    go_enter Tryz.func31, Tryz.ntmps31
    go_wp2
    refine bodyPost_ret (v := .tuple #[.agg #[.float .f64 0, .float .f64 0], .int .i64 1]) (by simp [results, Tryz.results31, go_sem]) rfl ?_
    exact ⟨rfl, below_alloc _ _⟩
set_option maxHeartbeats 2000000 in
theorem ends_any (a b : Nat) (w : World) : Calls Tryz.prog 101 #[.agg #[.float .f64 a, .float .f64 b]] w fun e w' => e = .returned (.tuple #[.float .f64 a, .float .f64 b]) ∧ Below w.heap.size w w' := by
  have hfb := floatbits_run
  have hsf := store_float
  go_enter Tryz.func101, Tryz.ntmps101
  go_upto_region 1 with fail
  obtain ⟨W1, hW1⟩ : ∃ W : World, W = w.alloc (.cells #[.float .f64 a, .float .f64 b] 65) := ⟨_, rfl⟩
  rw [← hW1]
  have X0 : W1.heap[w.heap.size]? = some (.cells #[.float .f64 a, .float .f64 b] 65 (0, 0)) := by rw [hW1]; exact (alloc_at (by simp))
  have z0 : w.heap.size < W1.heap.size := by rw [hW1]; simp <;> omega
  have B : Below w.heap.size w W1 := by rw [hW1]; exact (below_trans (Below.refl w.heap.size w) (below_alloc _ _))
  clear hW1
  obtain ⟨f0_0, f0_1, y0_0, y0_1⟩ := bx2 X0
  refine region_lin [.val (kIs (.pointer (some ⟨w.heap.size, 0, none⟩))), .val (kIs (.float .f64 a)), .val (kIs (.pointer (some ⟨w.heap.size, 1, none⟩))), .val (kIs (.float .f64 b)), .val (kIs (.float .f64 a)), .val (kIs (.float .f64 b))]
    (by kernel_rfl) (by kernel_rfl) (by kernel_rfl) (by kernel_rfl) (by kernel_rfl) ⟨Stab.b (stab_is _), Stab.b (stab_is _), Stab.b (stab_is _), Stab.b (stab_is _), Stab.b (stab_is _), Stab.b (stab_is _), trivial⟩ (by simp) ⟨?_, ?_, ?_, ?_, ?_, ?_, trivial⟩ ?_
  · exact obq
  · intro ts W hb hB hp; have h0 : ts 0 = _ := hp 0 (by kernel_rfl); intro K hK; simp only [fillT, Nat.zero_add, Nat.reduceAdd, sA, sB, sC, h0] at hK ⊢; have HK := hid hK; clear hK hp; obtain ⟨p0, p1, -, -⟩ := bx2 ((hb.block _ z0).trans X0); refine ⟨?_⟩; go_simp; exact HK.out _ _ kk rfB
  · exact obq
  · intro ts W hb hB hp; have h2 : ts 2 = _ := hp 2 (by kernel_rfl); intro K hK; simp only [fillT, Nat.zero_add, Nat.reduceAdd, sA, sB, sC, h2] at hK ⊢; have HK := hid hK; clear hK hp; obtain ⟨p0, p1, -, -⟩ := bx2 ((hb.block _ z0).trans X0); refine ⟨?_⟩; go_simp; exact HK.out _ _ kk rfB
  · intro ts W hb hB hp; have h1 : ts 1 = _ := hp 1 (by kernel_rfl); intro K hK; simp only [fillT, Nat.zero_add, Nat.reduceAdd, sA, sB, sC, h1] at hK ⊢; have HK := hid hK; clear hK hp; refine ⟨?_⟩; go_simp; exact HK.out _ _ kk rfB
  · intro ts W hb hB hp; have h3 : ts 3 = _ := hp 3 (by kernel_rfl); intro K hK; simp only [fillT, Nat.zero_add, Nat.reduceAdd, sA, sB, sC, h3] at hK ⊢; have HK := hid hK; clear hK hp; refine ⟨?_⟩; go_simp; exact HK.out _ _ kk rfB
  intro ts W2 hb2 hh hap
  have e0 := held_is (hh 0 (by simp)) rfl
  have e1 := held_is (hh 1 (by simp)) rfl
  have e2 := held_is (hh 2 (by simp)) rfl
  have e3 := held_is (hh 3 (by simp)) rfl
  have e4 := held_is (hh 4 (by simp)) rfl
  have e5 := held_is (hh 5 (by simp)) rfl
  simp only [fillT, Nat.zero_add, Nat.reduceAdd, sA, sB, sC, e0, e1, e2, e3, e4, e5]
  clear hh hap e0 e1 e2 e3 e4 e5
  replace X0 := (hb2.block _ z0).trans X0
  replace z0 := Nat.lt_of_lt_of_le z0 hb2.size
  replace B := below_trans B hb2
  clear hb2
  clear f0_0 f0_1 y0_0 y0_1
  obtain ⟨f0_0, f0_1, y0_0, y0_1⟩ := bx2 X0
  go_wp2
  refine bodyPost_ret (v := .tuple #[.float .f64 a, .float .f64 b]) (by simp [results, Tryz.results101]) rfl ?_
  exact ⟨rfl, B⟩
theorem equal_self (a : Nat) (w : World) : Calls Tryz.prog 102 #[.float .f64 a, .float .f64 a] w fun e w' => e = .returned (.bool true) ∧ w = w' := by
  have hfb := floatbits_run
  go_enter Tryz.func102, Tryz.ntmps102
  go_wp2
  go_ret
  exact ⟨rfl, rfl⟩
set_option maxHeartbeats 2000000 in
theorem isSpan_any (a b : Nat) (w : World) : Calls Tryz.prog 32 #[.agg #[.float .f64 a, .float .f64 b], .agg #[.float .f64 a, .float .f64 b]] w fun e w' => e = .returned (.bool true) ∧ Below w.heap.size w w' := by
  have hfb := floatbits_run
  have hsf := store_float
  go_enter Tryz.func32, Tryz.ntmps32
  go_wp2_with fail
  obtain ⟨W1, hW1⟩ : ∃ W : World, W = (w.alloc (.cells #[.float .f64 a, .float .f64 b] 65)).alloc (.cells #[.float .f64 a, .float .f64 b] 69) := ⟨_, rfl⟩
  rw [← hW1]
  have X0 : W1.heap[w.heap.size]? = some (.cells #[.float .f64 a, .float .f64 b] 65 (0, 0)) := by rw [hW1]; exact ((heap_alloc_old _ _ (by first | omega | (simp <;> omega))).trans (alloc_at (by simp)))
  have X1 : W1.heap[w.heap.size + 1]? = some (.cells #[.float .f64 a, .float .f64 b] 69 (0, 0)) := by rw [hW1]; exact (alloc_at (by simp))
  have z0 : w.heap.size < W1.heap.size := by rw [hW1]; simp <;> omega
  have z1 : w.heap.size + 1 < W1.heap.size := by rw [hW1]; simp <;> omega
  have B : Below w.heap.size w W1 := by rw [hW1]; exact (below_trans (below_trans (Below.refl w.heap.size w) (below_alloc _ _)) (below_alloc _ _))
  clear hW1
  refine (ends_any a b _).mono ?_
  rintro e W2 ⟨rfl, hb2⟩
  replace X0 := (hb2.block _ z0).trans X0
  replace z0 := Nat.lt_of_lt_of_le z0 hb2.size
  replace X1 := (hb2.block _ z1).trans X1
  replace z1 := Nat.lt_of_lt_of_le z1 hb2.size
  replace B := below_trans B hb2
  clear hb2
  obtain ⟨f0_0, f0_1, y0_0, y0_1⟩ := bx2 X0
  obtain ⟨f1_0, f1_1, y1_0, y1_1⟩ := bx2 X1
  go_wp2_with fail
  refine (equal_self a _).mono ?_
  rintro e w9 ⟨rfl, rfl⟩
  go_wp2_with fail
  refine (equal_self b _).mono ?_
  rintro e w9 ⟨rfl, rfl⟩
  go_wp2
  go_ret
  exact ⟨rfl, B⟩
end Go.Proofs.YtphlmmjlpbledaaGreatDoor
namespace Go.Proofs.YtphlmmjlpbledaaGreatDoor
open Go.RowKit
set_option maxRecDepth 100000

theorem msK_1 (w : World) : Calls Tryz.prog 30 #[.float .f64 4607182418800017408, .float .f64 4611686018427387904] w fun e w' => e = .returned (.tuple #[.agg #[.float .f64 4607182418800017408, .float .f64 4611686018427387904], .int .i64 0]) ∧ Below w.heap.size w w' := by
  have := makeSpan_any 4607182418800017408 4611686018427387904 w
  rwa [show msL 4607182418800017408 4611686018427387904 = 4607182418800017408 by decide +kernel, show msH 4607182418800017408 4611686018427387904 = 4611686018427387904 by decide +kernel, show msK 4607182418800017408 4611686018427387904 = 0 by decide +kernel] at this
theorem msK_2 (w : World) : Calls Tryz.prog 30 #[.float .f64 0, .float .f64 4607182418800017408] w fun e w' => e = .returned (.tuple #[.agg #[.float .f64 0, .float .f64 4607182418800017408], .int .i64 0]) ∧ Below w.heap.size w w' := by
  have := makeSpan_any 0 4607182418800017408 w
  rwa [show msL 0 4607182418800017408 = 0 by decide +kernel, show msH 0 4607182418800017408 = 4607182418800017408 by decide +kernel, show msK 0 4607182418800017408 = 0 by decide +kernel] at this
theorem meK_1 (w : World) : Calls Tryz.prog 96 #[.float .f64 0, .float .f64 4607182418800017408] w fun e w' => e = .returned (.bool true) ∧ w = w' := by
  have := mayEnd_any 0 4607182418800017408 w
  rwa [show mayB 0 4607182418800017408 = true by decide +kernel] at this
set_option maxHeartbeats 2000000 in
theorem makeK_1 (w : World) : Calls Tryz.prog 38 #[.complex .f64 4607182418800017408 0, .complex .f64 4611686018427387904 4607182418800017408] w fun e w' => e = .returned (.tuple #[.agg #[.float .f64 4607182418800017408, .float .f64 4611686018427387904, .float .f64 0, .float .f64 4607182418800017408], .int .i64 0]) ∧ Below w.heap.size w w' := by
  have hfb := floatbits_run
  have hsf := store_float
  go_enter Tryz.func38, Tryz.ntmps38
  go_upto_region 1 with fail
  obtain ⟨W1, hW1⟩ : ∃ W : World, W = w.alloc (.cells #[.float .f64 0, .float .f64 0, .float .f64 0, .float .f64 0] 85) := ⟨_, rfl⟩
  rw [← hW1]
  have X0 : W1.heap[w.heap.size]? = some (.cells #[.float .f64 0, .float .f64 0, .float .f64 0, .float .f64 0] 85 (0, 0)) := by rw [hW1]; exact (alloc_at (by simp))
  have z0 : w.heap.size < W1.heap.size := by rw [hW1]; simp <;> omega
  have B : Below w.heap.size w W1 := by rw [hW1]; exact (below_trans (Below.refl w.heap.size w) (below_alloc _ _))
  clear hW1
  obtain ⟨f0_0, f0_1, f0_2, f0_3, y0_0, y0_1, y0_2, y0_3⟩ := bx4 X0
  go_wp2_with fail
  refine (msK_1 _).mono ?_
  rintro e W2 ⟨rfl, hb2⟩
  replace X0 := (hb2.block _ z0).trans X0
  replace z0 := Nat.lt_of_lt_of_le z0 hb2.size
  replace B := below_trans B hb2
  clear hb2
  clear f0_0 f0_1 f0_2 f0_3 y0_0 y0_1 y0_2 y0_3
  obtain ⟨f0_0, f0_1, f0_2, f0_3, y0_0, y0_1, y0_2, y0_3⟩ := bx4 X0
  go_wp2_with fail
  refine (meK_1 _).mono ?_
  rintro e w9 ⟨rfl, rfl⟩
  go_upto_region 4 with fail
  obtain ⟨W3, hW3⟩ : ∃ W : World, W = W2.alloc (.cells #[.float .f64 4607182418800017408, .float .f64 4611686018427387904] 65) := ⟨_, rfl⟩
  rw [← hW3]
  replace X0 : W3.heap[w.heap.size]? = some (.cells #[.float .f64 0, .float .f64 0, .float .f64 0, .float .f64 0] 85 (0, 0)) := by rw [hW3]; exact ((heap_alloc_old _ _ (by first | omega | (simp <;> omega))).trans X0)
  have X1 : W3.heap[W2.heap.size]? = some (.cells #[.float .f64 4607182418800017408, .float .f64 4611686018427387904] 65 (0, 0)) := by rw [hW3]; exact (alloc_at (by simp))
  have q0_1 : w.heap.size < W2.heap.size := by omega
  replace z0 : w.heap.size < W3.heap.size := by rw [hW3]; simp <;> omega
  have z1 : W2.heap.size < W3.heap.size := by rw [hW3]; simp <;> omega
  replace B : Below w.heap.size w W3 := by rw [hW3]; exact (below_trans B (below_alloc _ _))
  clear hW3
  clear f0_0 f0_1 f0_2 f0_3 y0_0 y0_1 y0_2 y0_3
  obtain ⟨f0_0, f0_1, f0_2, f0_3, y0_0, y0_1, y0_2, y0_3⟩ := bx4 X0
  obtain ⟨f1_0, f1_1, y1_0, y1_1⟩ := bx2 X1
  go_wp2_with fail
  refine (msK_2 _).mono ?_
  rintro e W4 ⟨rfl, hb4⟩
  replace X0 := (hb4.block _ z0).trans X0
  replace z0 := Nat.lt_of_lt_of_le z0 hb4.size
  replace X1 := (hb4.block _ z1).trans X1
  replace z1 := Nat.lt_of_lt_of_le z1 hb4.size
  replace B := below_trans B hb4
  clear hb4
  clear f0_0 f0_1 f0_2 f0_3 y0_0 y0_1 y0_2 y0_3 f1_0 f1_1 y1_0 y1_1
  obtain ⟨f0_0, f0_1, f0_2, f0_3, y0_0, y0_1, y0_2, y0_3⟩ := bx4 X0
  obtain ⟨f1_0, f1_1, y1_0, y1_1⟩ := bx2 X1
  go_upto_region 7 with fail
  obtain ⟨W5, hW5⟩ : ∃ W : World, W = W4.alloc (.cells #[.float .f64 0, .float .f64 4607182418800017408] 65) := ⟨_, rfl⟩
  rw [← hW5]
  replace X0 : W5.heap[w.heap.size]? = some (.cells #[.float .f64 0, .float .f64 0, .float .f64 0, .float .f64 0] 85 (0, 0)) := by rw [hW5]; exact ((heap_alloc_old _ _ (by first | omega | (simp <;> omega))).trans X0)
  replace X1 : W5.heap[W2.heap.size]? = some (.cells #[.float .f64 4607182418800017408, .float .f64 4611686018427387904] 65 (0, 0)) := by rw [hW5]; exact ((heap_alloc_old _ _ (by first | omega | (simp <;> omega))).trans X1)
  have X2 : W5.heap[W4.heap.size]? = some (.cells #[.float .f64 0, .float .f64 4607182418800017408] 65 (0, 0)) := by rw [hW5]; exact (alloc_at (by simp))
  have q0_2 : w.heap.size < W4.heap.size := by omega
  have q1_2 : W2.heap.size < W4.heap.size := by omega
  replace z0 : w.heap.size < W5.heap.size := by rw [hW5]; simp <;> omega
  replace z1 : W2.heap.size < W5.heap.size := by rw [hW5]; simp <;> omega
  have z2 : W4.heap.size < W5.heap.size := by rw [hW5]; simp <;> omega
  replace B : Below w.heap.size w W5 := by rw [hW5]; exact (below_trans B (below_alloc _ _))
  clear hW5
  clear f0_0 f0_1 f0_2 f0_3 y0_0 y0_1 y0_2 y0_3 f1_0 f1_1 y1_0 y1_1
  obtain ⟨f0_0, f0_1, f0_2, f0_3, y0_0, y0_1, y0_2, y0_3⟩ := bx4 X0
  obtain ⟨f1_0, f1_1, y1_0, y1_1⟩ := bx2 X1
  obtain ⟨f2_0, f2_1, y2_0, y2_1⟩ := bx2 X2
  go_wp2
  refine bodyPost_ret (v := .tuple #[.agg #[.float .f64 4607182418800017408, .float .f64 4611686018427387904, .float .f64 0, .float .f64 4607182418800017408], .int .i64 0]) (by simp [results, Tryz.results38, go_sem, f0_0, f0_1, f0_2, f0_3, y0_0, y0_1, y0_2, y0_3, f1_0, f1_1, y1_0, y1_1, f2_0, f2_1, y2_0, y2_1]) rfl ?_
  exact ⟨rfl, (Below.setCell (p := ⟨w.heap.size, 3, none⟩) (Below.setCell (p := ⟨w.heap.size, 2, none⟩) (Below.setCell (p := ⟨w.heap.size, 1, none⟩) (Below.setCell (p := ⟨w.heap.size, 0, none⟩) B (show w.heap.size ≤ w.heap.size by omega) _) (show w.heap.size ≤ w.heap.size by omega) _) (show w.heap.size ≤ w.heap.size by omega) _) (show w.heap.size ≤ w.heap.size by omega) _)⟩
set_option maxHeartbeats 2000000 in
theorem loK_1 (w : World) : Calls Tryz.prog 93 #[.agg #[.float .f64 0, .float .f64 4616189618054758400, .float .f64 0, .float .f64 4616189618054758400]] w fun e w' => e = .returned (.complex .f64 0 0) ∧ Below w.heap.size w w' := by
  have hfb := floatbits_run
  have hsf := store_float
  go_enter Tryz.func93, Tryz.ntmps93
  go_wp2
  go_ret
  exact ⟨rfl, (below_trans (Below.refl w.heap.size w) (below_alloc _ _))⟩
set_option maxHeartbeats 2000000 in
theorem hiK_1 (w : World) : Calls Tryz.prog 94 #[.agg #[.float .f64 0, .float .f64 4616189618054758400, .float .f64 0, .float .f64 4616189618054758400]] w fun e w' => e = .returned (.complex .f64 4616189618054758400 4616189618054758400) ∧ Below w.heap.size w w' := by
  have hfb := floatbits_run
  have hsf := store_float
  go_enter Tryz.func94, Tryz.ntmps94
  go_wp2
  go_ret
  exact ⟨rfl, (below_trans (Below.refl w.heap.size w) (below_alloc _ _))⟩
set_option maxHeartbeats 2000000 in
theorem loK_2 (w : World) : Calls Tryz.prog 93 #[.agg #[.float .f64 4600877379321698713, .float .f64 4607182418800017408, .float .f64 13826050856027422720, .float .f64 0]] w fun e w' => e = .returned (.complex .f64 4600877379321698713 13826050856027422720) ∧ Below w.heap.size w w' := by
  have hfb := floatbits_run
  have hsf := store_float
  go_enter Tryz.func93, Tryz.ntmps93
  go_wp2
  go_ret
  exact ⟨rfl, (below_trans (Below.refl w.heap.size w) (below_alloc _ _))⟩
set_option maxHeartbeats 2000000 in
theorem hiK_2 (w : World) : Calls Tryz.prog 94 #[.agg #[.float .f64 4600877379321698713, .float .f64 4607182418800017408, .float .f64 13826050856027422720, .float .f64 0]] w fun e w' => e = .returned (.complex .f64 4607182418800017408 0) ∧ Below w.heap.size w w' := by
  have hfb := floatbits_run
  have hsf := store_float
  go_enter Tryz.func94, Tryz.ntmps94
  go_wp2
  go_ret
  exact ⟨rfl, (below_trans (Below.refl w.heap.size w) (below_alloc _ _))⟩
set_option maxHeartbeats 2000000 in
theorem hasZeroK_1 (w : World) : Calls Tryz.prog 162 #[.agg #[.float .f64 0, .float .f64 4616189618054758400]] w fun e w' => e = .returned (.bool true) ∧ Below w.heap.size w w' := by
  have hfb := floatbits_run
  have hsf := store_float
  have k0 : (FloatKind.f64.format.order 0 0 == some Ordering.lt) = false := by decide +kernel
  have k1 : (FloatKind.f64.format.order 0 0 == some Ordering.eq) = true := by decide +kernel
  have k2 : (FloatKind.f64.format.order 0 4616189618054758400 == some Ordering.lt) = true := by decide +kernel
  have k3 : (FloatKind.f64.format.order 0 4616189618054758400 == some Ordering.eq) = false := by decide +kernel
  go_enter Tryz.func162, Tryz.ntmps162
  go_wp2
  go_ret
  exact ⟨rfl, (below_trans (Below.refl w.heap.size w) (below_alloc _ _))⟩
set_option maxHeartbeats 2000000 in
theorem clearK_1 (w : World) : Calls Tryz.prog 95 #[.agg #[.float .f64 0, .float .f64 4616189618054758400, .float .f64 0, .float .f64 4616189618054758400]] w fun e w' => e = .returned (.bool false) ∧ Below w.heap.size w w' := by
  have hfb := floatbits_run
  have hsf := store_float
  go_enter Tryz.func95, Tryz.ntmps95
  go_wp2_with fail
  obtain ⟨W1, hW1⟩ : ∃ W : World, W = w.alloc (.cells #[.float .f64 0, .float .f64 4616189618054758400, .float .f64 0, .float .f64 4616189618054758400] 85) := ⟨_, rfl⟩
  rw [← hW1]
  have X0 : W1.heap[w.heap.size]? = some (.cells #[.float .f64 0, .float .f64 4616189618054758400, .float .f64 0, .float .f64 4616189618054758400] 85 (0, 0)) := by rw [hW1]; exact (alloc_at (by simp))
  have z0 : w.heap.size < W1.heap.size := by rw [hW1]; simp <;> omega
  have B : Below w.heap.size w W1 := by rw [hW1]; exact (below_trans (Below.refl w.heap.size w) (below_alloc _ _))
  clear hW1
  refine (hasZeroK_1 _).mono ?_
  rintro e W2 ⟨rfl, hb2⟩
  replace X0 := (hb2.block _ z0).trans X0
  replace z0 := Nat.lt_of_lt_of_le z0 hb2.size
  replace B := below_trans B hb2
  clear hb2
  obtain ⟨f0_0, f0_1, f0_2, f0_3, y0_0, y0_1, y0_2, y0_3⟩ := bx4 X0
  go_wp2_with fail
  refine (hasZeroK_1 _).mono ?_
  rintro e W3 ⟨rfl, hb3⟩
  replace X0 := (hb3.block _ z0).trans X0
  replace z0 := Nat.lt_of_lt_of_le z0 hb3.size
  replace B := below_trans B hb3
  clear hb3
  clear f0_0 f0_1 f0_2 f0_3 y0_0 y0_1 y0_2 y0_3
  obtain ⟨f0_0, f0_1, f0_2, f0_3, y0_0, y0_1, y0_2, y0_3⟩ := bx4 X0
  go_wp2
  go_ret
  exact ⟨rfl, B⟩
set_option maxHeartbeats 2000000 in
theorem awake2K_1 (w : World) (hT : Tab w) (hT6 : Tab64 w) : Calls Tryz.prog 29 #[] w fun e w' => e = .returned (.bool true) ∧ Below w.heap.size w w' := by
  have hfb := floatbits_run
  have hsf := store_float
  have k0 : (FloatKind.f64.format.order 0 0 == some Ordering.eq) = true := by decide +kernel
  have k1 : (FloatKind.f64.format.order 4616189618054758400 4616189618054758400 == some Ordering.eq) = true := by decide +kernel
  have k2 : (FloatKind.f64.format.order 13826050856027422720 13826050856027422720 == some Ordering.eq) = true := by decide +kernel
  have k3 : (FloatKind.f64.format.order 4607182418800017408 4607182418800017408 == some Ordering.eq) = true := by decide +kernel
  have HT := hid hT
  have HT6 := hid hT6
  clear hT hT6
  go_enter Tryz.func29, Tryz.ntmps29
  go_wp2_with fail
  obtain ⟨W1, hW1⟩ : ∃ W : World, W = w := ⟨_, rfl⟩
  rw [← hW1]
  have B : Below w.heap.size w W1 := by rw [hW1]; exact (Below.refl w.heap.size w)
  clear hW1
  refine (makeK_1 _).mono ?_
  rintro e W2 ⟨rfl, hb2⟩
  replace B := below_trans B hb2
  clear hb2
  go_upto_region 2 with fail
  obtain ⟨W3, hW3⟩ : ∃ W : World, W = W2.alloc (.cells #[.float .f64 4607182418800017408, .float .f64 4611686018427387904, .float .f64 0, .float .f64 4607182418800017408] 85) := ⟨_, rfl⟩
  rw [← hW3]
  have X0 : W3.heap[W2.heap.size]? = some (.cells #[.float .f64 4607182418800017408, .float .f64 4611686018427387904, .float .f64 0, .float .f64 4607182418800017408] 85 (0, 0)) := by rw [hW3]; exact (alloc_at (by simp))
  have z0 : W2.heap.size < W3.heap.size := by rw [hW3]; simp <;> omega
  replace B : Below w.heap.size w W3 := by rw [hW3]; exact (below_trans B (below_alloc _ _))
  clear hW3
  obtain ⟨f0_0, f0_1, f0_2, f0_3, y0_0, y0_1, y0_2, y0_3⟩ := bx4 X0
  go_wp2_with fail
  refine (inv_awake _ (HT.out.below B) (HT6.out.below B)).mono ?_
  rintro e W4 ⟨rfl, hb4⟩
  replace X0 := (hb4.block _ z0).trans X0
  replace z0 := Nat.lt_of_lt_of_le z0 hb4.size
  replace B := below_trans B hb4
  clear hb4
  clear f0_0 f0_1 f0_2 f0_3 y0_0 y0_1 y0_2 y0_3
  obtain ⟨f0_0, f0_1, f0_2, f0_3, y0_0, y0_1, y0_2, y0_3⟩ := bx4 X0
  go_upto_region 3 with fail
  obtain ⟨W5, hW5⟩ : ∃ W : World, W = W4.alloc (.cells #[.float .f64 4600877379321698713, .float .f64 4607182418800017408, .float .f64 13826050856027422720, .float .f64 0] 85) := ⟨_, rfl⟩
  rw [← hW5]
  replace X0 : W5.heap[W2.heap.size]? = some (.cells #[.float .f64 4607182418800017408, .float .f64 4611686018427387904, .float .f64 0, .float .f64 4607182418800017408] 85 (0, 0)) := by rw [hW5]; exact ((heap_alloc_old _ _ (by first | omega | (simp <;> omega))).trans X0)
  have X1 : W5.heap[W4.heap.size]? = some (.cells #[.float .f64 4600877379321698713, .float .f64 4607182418800017408, .float .f64 13826050856027422720, .float .f64 0] 85 (0, 0)) := by rw [hW5]; exact (alloc_at (by simp))
  have q0_1 : W2.heap.size < W4.heap.size := by omega
  replace z0 : W2.heap.size < W5.heap.size := by rw [hW5]; simp <;> omega
  have z1 : W4.heap.size < W5.heap.size := by rw [hW5]; simp <;> omega
  replace B : Below w.heap.size w W5 := by rw [hW5]; exact (below_trans B (below_alloc _ _))
  clear hW5
  clear f0_0 f0_1 f0_2 f0_3 y0_0 y0_1 y0_2 y0_3
  obtain ⟨f0_0, f0_1, f0_2, f0_3, y0_0, y0_1, y0_2, y0_3⟩ := bx4 X0
  obtain ⟨f1_0, f1_1, f1_2, f1_3, y1_0, y1_1, y1_2, y1_3⟩ := bx4 X1
  go_wp2_with fail
  refine (bmul_1 _).mono ?_
  rintro e W6 ⟨rfl, hb6⟩
  replace X0 := (hb6.block _ z0).trans X0
  replace z0 := Nat.lt_of_lt_of_le z0 hb6.size
  replace X1 := (hb6.block _ z1).trans X1
  replace z1 := Nat.lt_of_lt_of_le z1 hb6.size
  replace B := below_trans B hb6
  clear hb6
  clear f0_0 f0_1 f0_2 f0_3 y0_0 y0_1 y0_2 y0_3 f1_0 f1_1 f1_2 f1_3 y1_0 y1_1 y1_2 y1_3
  obtain ⟨f0_0, f0_1, f0_2, f0_3, y0_0, y0_1, y0_2, y0_3⟩ := bx4 X0
  obtain ⟨f1_0, f1_1, f1_2, f1_3, y1_0, y1_1, y1_2, y1_3⟩ := bx4 X1
  go_wp2_with fail
  obtain ⟨W7, hW7⟩ : ∃ W : World, W = W6.alloc (.cells #[.float .f64 0, .float .f64 4616189618054758400, .float .f64 0, .float .f64 4616189618054758400] 85) := ⟨_, rfl⟩
  rw [← hW7]
  replace X0 : W7.heap[W2.heap.size]? = some (.cells #[.float .f64 4607182418800017408, .float .f64 4611686018427387904, .float .f64 0, .float .f64 4607182418800017408] 85 (0, 0)) := by rw [hW7]; exact ((heap_alloc_old _ _ (by first | omega | (simp <;> omega))).trans X0)
  replace X1 : W7.heap[W4.heap.size]? = some (.cells #[.float .f64 4600877379321698713, .float .f64 4607182418800017408, .float .f64 13826050856027422720, .float .f64 0] 85 (0, 0)) := by rw [hW7]; exact ((heap_alloc_old _ _ (by first | omega | (simp <;> omega))).trans X1)
  have X2 : W7.heap[W6.heap.size]? = some (.cells #[.float .f64 0, .float .f64 4616189618054758400, .float .f64 0, .float .f64 4616189618054758400] 85 (0, 0)) := by rw [hW7]; exact (alloc_at (by simp))
  have q0_2 : W2.heap.size < W6.heap.size := by omega
  have q1_2 : W4.heap.size < W6.heap.size := by omega
  replace z0 : W2.heap.size < W7.heap.size := by rw [hW7]; simp <;> omega
  replace z1 : W4.heap.size < W7.heap.size := by rw [hW7]; simp <;> omega
  have z2 : W6.heap.size < W7.heap.size := by rw [hW7]; simp <;> omega
  replace B : Below w.heap.size w W7 := by rw [hW7]; exact (below_trans B (below_alloc _ _))
  clear hW7
  refine (loK_1 _).mono ?_
  rintro e W8 ⟨rfl, hb8⟩
  replace X0 := (hb8.block _ z0).trans X0
  replace z0 := Nat.lt_of_lt_of_le z0 hb8.size
  replace X1 := (hb8.block _ z1).trans X1
  replace z1 := Nat.lt_of_lt_of_le z1 hb8.size
  replace X2 := (hb8.block _ z2).trans X2
  replace z2 := Nat.lt_of_lt_of_le z2 hb8.size
  replace B := below_trans B hb8
  clear hb8
  clear f0_0 f0_1 f0_2 f0_3 y0_0 y0_1 y0_2 y0_3 f1_0 f1_1 f1_2 f1_3 y1_0 y1_1 y1_2 y1_3
  obtain ⟨f0_0, f0_1, f0_2, f0_3, y0_0, y0_1, y0_2, y0_3⟩ := bx4 X0
  obtain ⟨f1_0, f1_1, f1_2, f1_3, y1_0, y1_1, y1_2, y1_3⟩ := bx4 X1
  obtain ⟨f2_0, f2_1, f2_2, f2_3, y2_0, y2_1, y2_2, y2_3⟩ := bx4 X2
  go_wp2_with fail
  refine (hiK_1 _).mono ?_
  rintro e W9 ⟨rfl, hb9⟩
  replace X0 := (hb9.block _ z0).trans X0
  replace z0 := Nat.lt_of_lt_of_le z0 hb9.size
  replace X1 := (hb9.block _ z1).trans X1
  replace z1 := Nat.lt_of_lt_of_le z1 hb9.size
  replace X2 := (hb9.block _ z2).trans X2
  replace z2 := Nat.lt_of_lt_of_le z2 hb9.size
  replace B := below_trans B hb9
  clear hb9
  clear f0_0 f0_1 f0_2 f0_3 y0_0 y0_1 y0_2 y0_3 f1_0 f1_1 f1_2 f1_3 y1_0 y1_1 y1_2 y1_3 f2_0 f2_1 f2_2 f2_3 y2_0 y2_1 y2_2 y2_3
  obtain ⟨f0_0, f0_1, f0_2, f0_3, y0_0, y0_1, y0_2, y0_3⟩ := bx4 X0
  obtain ⟨f1_0, f1_1, f1_2, f1_3, y1_0, y1_1, y1_2, y1_3⟩ := bx4 X1
  obtain ⟨f2_0, f2_1, f2_2, f2_3, y2_0, y2_1, y2_2, y2_3⟩ := bx4 X2
  go_wp2_with fail
  refine (loK_2 _).mono ?_
  rintro e W10 ⟨rfl, hb10⟩
  replace X0 := (hb10.block _ z0).trans X0
  replace z0 := Nat.lt_of_lt_of_le z0 hb10.size
  replace X1 := (hb10.block _ z1).trans X1
  replace z1 := Nat.lt_of_lt_of_le z1 hb10.size
  replace X2 := (hb10.block _ z2).trans X2
  replace z2 := Nat.lt_of_lt_of_le z2 hb10.size
  replace B := below_trans B hb10
  clear hb10
  clear f0_0 f0_1 f0_2 f0_3 y0_0 y0_1 y0_2 y0_3 f1_0 f1_1 f1_2 f1_3 y1_0 y1_1 y1_2 y1_3 f2_0 f2_1 f2_2 f2_3 y2_0 y2_1 y2_2 y2_3
  obtain ⟨f0_0, f0_1, f0_2, f0_3, y0_0, y0_1, y0_2, y0_3⟩ := bx4 X0
  obtain ⟨f1_0, f1_1, f1_2, f1_3, y1_0, y1_1, y1_2, y1_3⟩ := bx4 X1
  obtain ⟨f2_0, f2_1, f2_2, f2_3, y2_0, y2_1, y2_2, y2_3⟩ := bx4 X2
  go_wp2_with fail
  refine (hiK_2 _).mono ?_
  rintro e W11 ⟨rfl, hb11⟩
  replace X0 := (hb11.block _ z0).trans X0
  replace z0 := Nat.lt_of_lt_of_le z0 hb11.size
  replace X1 := (hb11.block _ z1).trans X1
  replace z1 := Nat.lt_of_lt_of_le z1 hb11.size
  replace X2 := (hb11.block _ z2).trans X2
  replace z2 := Nat.lt_of_lt_of_le z2 hb11.size
  replace B := below_trans B hb11
  clear hb11
  clear f0_0 f0_1 f0_2 f0_3 y0_0 y0_1 y0_2 y0_3 f1_0 f1_1 f1_2 f1_3 y1_0 y1_1 y1_2 y1_3 f2_0 f2_1 f2_2 f2_3 y2_0 y2_1 y2_2 y2_3
  obtain ⟨f0_0, f0_1, f0_2, f0_3, y0_0, y0_1, y0_2, y0_3⟩ := bx4 X0
  obtain ⟨f1_0, f1_1, f1_2, f1_3, y1_0, y1_1, y1_2, y1_3⟩ := bx4 X1
  obtain ⟨f2_0, f2_1, f2_2, f2_3, y2_0, y2_1, y2_2, y2_3⟩ := bx4 X2
  go_wp2_with fail
  refine (clearI_1 _).mono ?_
  rintro e W12 ⟨rfl, hb12⟩
  replace X0 := (hb12.block _ z0).trans X0
  replace z0 := Nat.lt_of_lt_of_le z0 hb12.size
  replace X1 := (hb12.block _ z1).trans X1
  replace z1 := Nat.lt_of_lt_of_le z1 hb12.size
  replace X2 := (hb12.block _ z2).trans X2
  replace z2 := Nat.lt_of_lt_of_le z2 hb12.size
  replace B := below_trans B hb12
  clear hb12
  clear f0_0 f0_1 f0_2 f0_3 y0_0 y0_1 y0_2 y0_3 f1_0 f1_1 f1_2 f1_3 y1_0 y1_1 y1_2 y1_3 f2_0 f2_1 f2_2 f2_3 y2_0 y2_1 y2_2 y2_3
  obtain ⟨f0_0, f0_1, f0_2, f0_3, y0_0, y0_1, y0_2, y0_3⟩ := bx4 X0
  obtain ⟨f1_0, f1_1, f1_2, f1_3, y1_0, y1_1, y1_2, y1_3⟩ := bx4 X1
  obtain ⟨f2_0, f2_1, f2_2, f2_3, y2_0, y2_1, y2_2, y2_3⟩ := bx4 X2
  go_wp2_with fail
  refine (clearK_1 _).mono ?_
  rintro e W13 ⟨rfl, hb13⟩
  replace X0 := (hb13.block _ z0).trans X0
  replace z0 := Nat.lt_of_lt_of_le z0 hb13.size
  replace X1 := (hb13.block _ z1).trans X1
  replace z1 := Nat.lt_of_lt_of_le z1 hb13.size
  replace X2 := (hb13.block _ z2).trans X2
  replace z2 := Nat.lt_of_lt_of_le z2 hb13.size
  replace B := below_trans B hb13
  clear hb13
  clear f0_0 f0_1 f0_2 f0_3 y0_0 y0_1 y0_2 y0_3 f1_0 f1_1 f1_2 f1_3 y1_0 y1_1 y1_2 y1_3 f2_0 f2_1 f2_2 f2_3 y2_0 y2_1 y2_2 y2_3
  obtain ⟨f0_0, f0_1, f0_2, f0_3, y0_0, y0_1, y0_2, y0_3⟩ := bx4 X0
  obtain ⟨f1_0, f1_1, f1_2, f1_3, y1_0, y1_1, y1_2, y1_3⟩ := bx4 X1
  obtain ⟨f2_0, f2_1, f2_2, f2_3, y2_0, y2_1, y2_2, y2_3⟩ := bx4 X2
  go_wp2
  go_ret
  exact ⟨rfl, B⟩
end Go.Proofs.YtphlmmjlpbledaaGreatDoor
namespace Go.Proofs.YtphlmmjlpbledaaGreatDoor
open Go.RowKit
set_option maxRecDepth 100000

set_option maxHeartbeats 1000000 in
theorem boxSpans_walk (w : World) (a b : Nat) (ha : a < 18446744073709551616) (hb : b < 18446744073709551616) (hT : Tab w) (hT6 : Tab64 w) :
    Calls Tryz.prog 7 #[.int .u64 (a : Int), .int .u64 (b : Int)] w fun e w' => e = .returned (.bool true) ∧ Below w.heap.size w w' := by
  have hfr := frombits_run
  have hsf := store_float
  have HT := hid hT
  have HT6 := hid hT6
  have HM := hid (fun W => makeSpan_any a b W)
  have HR := hid (fun W => rmakeSpan_any a b W)
  clear hT hT6 ha hb
  generalize msL a b = l at *
  generalize msH a b = h at *
  generalize msK a b = k at *
  go_enter Tryz.func7, Tryz.ntmps7
  go_wp2_with fail
  refine (awake2K_1 _ HT.out HT6.out).mono ?_
  rintro e W1 ⟨rfl, hb1⟩
  have B1 := hid hb1
  clear hb1
  go_wp2_with fail
  refine (HM.out _).mono ?_
  rintro e W2 ⟨rfl, hb2⟩
  have B2 := hid (below_trans B1.out hb2)
  clear hb2
  go_wp2_with fail
  refine (HR.out _).mono ?_
  rintro e W3 ⟨rfl, hb3⟩
  have X7 := (hb3.block W2.heap.size (by simp)).trans (heap_alloc_new W2 _)
  have z7 : W2.heap.size < W3.heap.size := Nat.lt_of_lt_of_le (by simp) hb3.size
  have B3 := hid (below_trans B2.out (below_trans (below_alloc _ _) hb3))
  clear hb3
  go_upto_region 6 with fail
  obtain ⟨W4, hW4⟩ : ∃ W : World, W = W3.alloc (.cells #[.float .f64 l, .float .f64 h] 69) := ⟨_, rfl⟩
  rw [← hW4]
  have X9 : W4.heap[W3.heap.size]? = some (.cells #[.float .f64 l, .float .f64 h] 69 (0, 0)) := by rw [hW4]; exact heap_alloc_new W3 _
  replace X7 : W4.heap[W2.heap.size]? = some (.cells #[.float .f64 l, .float .f64 h] 65 (0, 0)) := by rw [hW4]; exact (heap_alloc_old W3 _ z7).trans X7
  have B4 := hid (show Below w.heap.size w W4 by rw [hW4]; exact below_trans B3.out (below_alloc _ _))
  clear hW4 z7
  obtain ⟨f0, f1, y0, y1⟩ := bx2 X7
  obtain ⟨g0, g1, v0, v1⟩ := bx2 X9
  clear X7 X9
  go_wp2_with fail
  refine (isSpan_any l h _).mono ?_
  rintro e W5 ⟨rfl, hb5⟩
  go_wp2
  go_ret
  exact ⟨rfl, below_trans B4.out hb5⟩
end Go.Proofs.YtphlmmjlpbledaaGreatDoor
namespace Go.Proofs.YtphlmmjlpbledaaGreatDoor
open Go Go.ChangeShapes Go.WideShapes Go.ChangeAt Go.WideMaps Go.WideElems Go.RowKit Go.Joins
set_option maxRecDepth 100000

theorem tab64_named : Tryz.prog.globalNamed "math/bits.deBruijn64tab" = some 1 := by kernel_rfl
theorem tab64_type : (Tryz.prog.globals[1]?).map (·.type) = some 229 := by kernel_rfl
/-- The rows' condition, with both tables. -/
def LaidTabs (W : World) : Prop := laidMetH Tryz.prog [("math/bits.deBruijn32tab", Rows.laid_math_bits_deBruijn32tab), ("math/bits.deBruijn64tab", Rows.laid_math_bits_deBruijn64tab)] W
theorem tab_of_tabs {W : World} (h : LaidTabs W) : Tab W := by
  unfold LaidTabs at h
  rw [MakeChecks.laidMetH_plain _ _ _ (by kernel_rfl)] at h
  obtain ⟨ps, ⟨g0, t0, cs0, f0, p0, q0, hg0, ht0, hv0, hd0, -⟩, -, -⟩ := h
  obtain rfl := Option.some.inj (tab_named.symm.trans hg0)
  obtain rfl := Option.some.inj (tab_type.symm.trans ht0)
  obtain ⟨xs, m1, rfl, hx1, hlen, hn, hel⟩ := DataW.trod_array Tryz.underlying242 hd0
  rw [tab_cells8] at hel
  have hcell : ∀ k, W.cell? ⟨2, k, none⟩ = cs0[k]? := fun k => World.var?_cell tab_named hv0 k
  have hx2 := (Prod.mk.injEq _ _ _ _).mp hx1
  have hx3 := hx2.1
  unfold Rows.laid_math_bits_deBruijn32tab at hx3
  injection hx3 with hx3
  have key : ∀ k, k < 32 → cs0[k]? = some (.int .u8 ((Lib.deBruijn32tab.getD k 0 : Nat) : Int)) := fun k hk => by
    have h0 := hel k hk
    have hxk : xs[k]? = some xs[k] := List.getElem?_eq_getElem (by omega)
    rw [hxk] at h0
    obtain ⟨n, e1, e2, -⟩ := DataW.trod_int Tryz.underlying5 h0
    have e3 : (xs.map (·.1))[k]? = some (.lit (.int .u8 n)) := by rw [List.getElem?_map, hxk, Option.map_some, e2]
    rw [← hx3] at e3
    have e4 : cs0[k]? = some (.int .u8 n) := by
      have : (cs0.toList.drop (k * 1))[0]? = some (.int .u8 n) := by
        have h5 : ((cs0.toList.drop (k * 1)).take 1)[0]? = some (.int .u8 n) := by rw [e1]; rfl
        rwa [List.getElem?_take_of_lt (by omega)] at h5
      simpa using this
    rw [e4]
    have e5 : ∀ k, k < 32 → ∀ n : Int, ([DataW.lit (.int .u8 0), .lit (.int .u8 1), .lit (.int .u8 28), .lit (.int .u8 2), .lit (.int .u8 29), .lit (.int .u8 14), .lit (.int .u8 24), .lit (.int .u8 3), .lit (.int .u8 30), .lit (.int .u8 22), .lit (.int .u8 20), .lit (.int .u8 15), .lit (.int .u8 25), .lit (.int .u8 17), .lit (.int .u8 4), .lit (.int .u8 8), .lit (.int .u8 31), .lit (.int .u8 27), .lit (.int .u8 13), .lit (.int .u8 23), .lit (.int .u8 21), .lit (.int .u8 19), .lit (.int .u8 16), .lit (.int .u8 7), .lit (.int .u8 26), .lit (.int .u8 12), .lit (.int .u8 18), .lit (.int .u8 6), .lit (.int .u8 11), .lit (.int .u8 5), .lit (.int .u8 10), .lit (.int .u8 9)] : List (DataW Unit))[k]? = some (.lit (.int .u8 n)) → n = ((Lib.deBruijn32tab.getD k 0 : Nat) : Int) := by
      intro k hk n h
      match k, hk with
      | 0, _ | 1, _ | 2, _ | 3, _ | 4, _ | 5, _ | 6, _ | 7, _ | 8, _ | 9, _ | 10, _ | 11, _ | 12, _ | 13, _ | 14, _ | 15, _ | 16, _ | 17, _ | 18, _ | 19, _ | 20, _ | 21, _ | 22, _ | 23, _ | 24, _ | 25, _ | 26, _ | 27, _ | 28, _ | 29, _ | 30, _ | 31, _ => simp at h; rw [← h]; rfl
      | k + 32, hk => omega
    rw [e5 k hk n e3]
  refine ⟨?_, fun k hk => (hcell k).trans (key k hk)⟩
  have h0 := (hcell 0).trans (key 0 (by omega))
  exact World.block_lt_of_cell? W ⟨2, 0, none⟩ h0
theorem tab64_of_tabs {W : World} (h : LaidTabs W) : Tab64 W := by
  unfold LaidTabs at h
  rw [MakeChecks.laidMetH_plain _ _ _ (by kernel_rfl)] at h
  obtain ⟨ps, ⟨g1, t1, cs1, f1, p1, q1, -, -, -, -, ⟨⟨g0, t0, cs0, f0, p0, q0, hg0, ht0, hv0, hd0, -⟩, -⟩⟩, -, -⟩ := h
  obtain rfl := Option.some.inj (tab64_named.symm.trans hg0)
  obtain rfl := Option.some.inj (tab64_type.symm.trans ht0)
  obtain ⟨xs, m1, rfl, hx1, hlen, hn, hel⟩ := DataW.trod_array Tryz.underlying229 hd0
  rw [tab_cells8] at hel
  have hcell : ∀ k, W.cell? ⟨1, k, none⟩ = cs0[k]? := fun k => World.var?_cell tab64_named hv0 k
  have hx2 := (Prod.mk.injEq _ _ _ _).mp hx1
  have hx3 := hx2.1
  unfold Rows.laid_math_bits_deBruijn64tab at hx3
  injection hx3 with hx3
  have key : ∀ k, k < 64 → cs0[k]? = some (.int .u8 ((Lib.deBruijn64tab.getD k 0 : Nat) : Int)) := fun k hk => by
    have h0 := hel k hk
    have hxk : xs[k]? = some xs[k] := List.getElem?_eq_getElem (by omega)
    rw [hxk] at h0
    obtain ⟨n, e1, e2, -⟩ := DataW.trod_int Tryz.underlying5 h0
    have e3 : (xs.map (·.1))[k]? = some (.lit (.int .u8 n)) := by rw [List.getElem?_map, hxk, Option.map_some, e2]
    rw [← hx3] at e3
    have e4 : cs0[k]? = some (.int .u8 n) := by
      have : (cs0.toList.drop (k * 1))[0]? = some (.int .u8 n) := by
        have h5 : ((cs0.toList.drop (k * 1)).take 1)[0]? = some (.int .u8 n) := by rw [e1]; rfl
        rwa [List.getElem?_take_of_lt (by omega)] at h5
      simpa using this
    rw [e4]
    have e5 : ∀ k, k < 64 → ∀ n : Int, ([DataW.lit (.int .u8 0), .lit (.int .u8 1), .lit (.int .u8 56), .lit (.int .u8 2), .lit (.int .u8 57), .lit (.int .u8 49), .lit (.int .u8 28), .lit (.int .u8 3), .lit (.int .u8 61), .lit (.int .u8 58), .lit (.int .u8 42), .lit (.int .u8 50), .lit (.int .u8 38), .lit (.int .u8 29), .lit (.int .u8 17), .lit (.int .u8 4), .lit (.int .u8 62), .lit (.int .u8 47), .lit (.int .u8 59), .lit (.int .u8 36), .lit (.int .u8 45), .lit (.int .u8 43), .lit (.int .u8 51), .lit (.int .u8 22), .lit (.int .u8 53), .lit (.int .u8 39), .lit (.int .u8 33), .lit (.int .u8 30), .lit (.int .u8 24), .lit (.int .u8 18), .lit (.int .u8 12), .lit (.int .u8 5), .lit (.int .u8 63), .lit (.int .u8 55), .lit (.int .u8 48), .lit (.int .u8 27), .lit (.int .u8 60), .lit (.int .u8 41), .lit (.int .u8 37), .lit (.int .u8 16), .lit (.int .u8 46), .lit (.int .u8 35), .lit (.int .u8 44), .lit (.int .u8 21), .lit (.int .u8 52), .lit (.int .u8 32), .lit (.int .u8 23), .lit (.int .u8 11), .lit (.int .u8 54), .lit (.int .u8 26), .lit (.int .u8 40), .lit (.int .u8 15), .lit (.int .u8 34), .lit (.int .u8 20), .lit (.int .u8 31), .lit (.int .u8 10), .lit (.int .u8 25), .lit (.int .u8 14), .lit (.int .u8 19), .lit (.int .u8 9), .lit (.int .u8 13), .lit (.int .u8 8), .lit (.int .u8 7), .lit (.int .u8 6)] : List (DataW Unit))[k]? = some (.lit (.int .u8 n)) → n = ((Lib.deBruijn64tab.getD k 0 : Nat) : Int) := by
      intro k hk n h
      match k, hk with
      | 0, _ | 1, _ | 2, _ | 3, _ | 4, _ | 5, _ | 6, _ | 7, _ | 8, _ | 9, _ | 10, _ | 11, _ | 12, _ | 13, _ | 14, _ | 15, _ | 16, _ | 17, _ | 18, _ | 19, _ | 20, _ | 21, _ | 22, _ | 23, _ | 24, _ | 25, _ | 26, _ | 27, _ | 28, _ | 29, _ | 30, _ | 31, _ | 32, _ | 33, _ | 34, _ | 35, _ | 36, _ | 37, _ | 38, _ | 39, _ | 40, _ | 41, _ | 42, _ | 43, _ | 44, _ | 45, _ | 46, _ | 47, _ | 48, _ | 49, _ | 50, _ | 51, _ | 52, _ | 53, _ | 54, _ | 55, _ | 56, _ | 57, _ | 58, _ | 59, _ | 60, _ | 61, _ | 62, _ | 63, _ => simp at h; rw [← h]; rfl
      | k + 64, hk => omega
    rw [e5 k hk n e3]
  refine ⟨?_, fun k hk => (hcell k).trans (key k hk)⟩
  have h0 := (hcell 0).trans (key 0 (by omega))
  exact World.block_lt_of_cell? W ⟨1, 0, none⟩ h0
end Go.Proofs.YtphlmmjlpbledaaGreatDoor
namespace Go.Proofs.YtphlmmjlpbledaaGreatDoor
open Go Go.ChangeShapes Go.WideShapes Go.ChangeAt Go.WideMaps Go.WideElems Go.RowKit Go.Joins
set_option maxRecDepth 100000

theorem door_met2 (os : Os) (args : Array Value) : laidMetH Tryz.prog [("math/bits.deBruijn32tab", Rows.laid_math_bits_deBruijn32tab), ("math/bits.deBruijn64tab", Rows.laid_math_bits_deBruijn64tab)] ((World.doorLaid Tryz.prog 400 os).forCall (fun _ _ => 0) ⟨#[], args, []⟩).memory :=
  laidMetH_of_parts3 (fuel := 8) (laidMet_of_run' 8 (by kernel_rfl) (by kernel_rfl)) (by kernel_rfl) (by kernel_rfl)
/-- Bits, opened. -/
theorem open_u {H : Type} {enc : TypeId × Value → H} {W : World} {base : Nat} {v : Value} {d : DataW H} {p : List MemPlace} {b0 : Nat} (hv : Value.okWide Tryz.prog W .any b0 47 v) (h : DataW.Trod enc Tryz.prog W base (fun _ => true) true 47 v d p) :
    ∃ n : Nat, v = .int .u64 (n : Int) ∧ n < 18446744073709551616 := by
  obtain ⟨z, rfl⟩ := okWide_int Tryz.underlying47 hv
  obtain ⟨fuel, hf⟩ := h
  obtain ⟨n, hn, -, hw⟩ := DataW.trod_int Tryz.underlying47 hf
  simp [Value.cells] at hn
  subst hn
  have hw' : (decide (IntKind.u64.min ≤ z) && decide (z ≤ IntKind.u64.max)) = true := hw
  simp only [Bool.and_eq_true] at hw'
  have e1 : IntKind.u64.min = 0 := by decide
  have e2 : IntKind.u64.max = 18446744073709551616 - 1 := by decide
  have h1 := of_decide_eq_true hw'.1
  have h2 := of_decide_eq_true hw'.2
  refine ⟨z.toNat, ?_, by omega⟩
  rw [Int.toNat_of_nonneg (by omega)]
theorem boxSpans_lifted (os : Os) (started : os.Started) (H : Type) (enc : TypeId × Value → H) :
    ReturnsInHanded {} Tryz.checked os 7 .any (fun w args => (Rows.boxSpansSpec.pre enc Tryz.prog Tryz.f7 [] false w args ∧ laidMetH Tryz.prog [("math/bits.deBruijn32tab", Rows.laid_math_bits_deBruijn32tab), ("math/bits.deBruijn64tab", Rows.laid_math_bits_deBruijn64tab)] w) ∧ sizedMet enc Tryz.prog Tryz.f7 (OpenSpec.ofChange Rows.boxSpansSpec) false w args)
      (Rows.boxSpansSpec.post enc Tryz.prog Tryz.f7 false true false false) := by
  refine returnsInHanded_of_change_and (C := Tryz.checked) (X := fun w _ => laidMetH Tryz.prog [("math/bits.deBruijn32tab", Rows.laid_math_bits_deBruijn32tab), ("math/bits.deBruijn64tab", Rows.laid_math_bits_deBruijn64tab)] w) (fun _ _ _ hh h => h.of_heap hh) own_knob started (by kernel_rfl) Tryz.func7
    (ChangeSpec.witness_shaped (enc := enc) (C := Tryz.checked) (os := os) (X := fun w _ => laidMetH Tryz.prog [("math/bits.deBruijn32tab", Rows.laid_math_bits_deBruijn32tab), ("math/bits.deBruijn64tab", Rows.laid_math_bits_deBruijn64tab)] w) false (World.doorLaid Tryz.prog 400 os) #[.int .u64 0, .int .u64 0] 8 rfl (World.shaped_of_RefB (by kernel_rfl) (by kernel_rfl)) (by kernel_rfl) (by kernel_rfl) (by kernel_rfl) (door_met2 os _)) ?_
  intro W base args ds gs before hval0 hW _ _ hL _
  have hval : ∀ (j : Nat) t v, Tryz.f7.params[j]? = some t → args[j]? = some v → Value.okWide Tryz.prog W .any base t v := hval0
  have hWW := hW
  obtain ⟨p, q, hA0, hV, rfl, hfz, hnd⟩ := hW
  have hA : DataW.TrodAll enc Tryz.prog W 0 (fun _ => true) true Tryz.f7.params.toList args.toList ds p := hA0
  rw [Tryz.params7] at hA hval
  obtain ⟨v0, v1, d0, d1, q0, q1, rfl, rfl, rfl, h0, h1⟩ := trodAll_two hA
  obtain ⟨a1, rfl, ha1⟩ := open_u (hval 0 _ _ rfl rfl) h0
  obtain ⟨a2, rfl, ha2⟩ := open_u (hval 1 _ _ rfl rfl) h1
  have hT := tab_of_tabs hL
  have hT6 := tab64_of_tabs hL
  obtain ⟨rfl, rfl⟩ := trodVars_none hV
  refine (boxSpans_walk W a1 a2 ha1 ha2 hT hT6).mono fun e W' ⟨he, hb⟩ => ?_
  subst he
  exact ⟨_, rfl, law_post rfl rfl (by kernel_rfl) ⟨rfl, rfl, rfl⟩ hWW hb⟩
theorem boxSpans_said : Rows.BoxSpansSaid :=
  OpenClaim.holds_of_wide 7 Tryz.f7 rfl rfl rfl rfl rfl rfl rfl ⟨rfl, rfl, rfl, rfl, rfl⟩ rfl rfl rfl rfl rfl (by kernel_rfl) Tryz.func7 (by kernel_rfl)
    (of_decide_eq_true (by kernel_rfl)) (by unfold Func.isWrapper; first | (rw [if_pos (by decide +kernel)]; kernel_rfl) | (rw [if_neg (by decide +kernel)]; exact ⟨rfl, rfl⟩))
    (fun os started H enc _ => boxSpans_lifted os started H enc)
theorem boxSpans_holds : Rows.BoxSpansCardSaid :=
  Claim7.holds_tied_plain_at .later [] [.data, .data] true Rows.boxSpansCard.stood.harness false
    boxSpans_said (fun _ h => by cases h) (by kernel_rfl) (fun _ h => by cases h) boxSpans_row_tie rfl ⟨rfl, rfl⟩ (by kernel_rfl) rfl
    (fun f fn hf hfn => by
      obtain rfl : f = 7 := Option.some.inj ((show Tryz.prog.funcNamed "waveport/waveportlaw02.BoxSpans" = some 7 by kernel_rfl).symm.trans hf) |>.symm
      obtain rfl : fn = Tryz.f7 := (Option.some.inj (Tryz.func7.symm.trans hfn)).symm
      exact ⟨by kernel_rfl, fun j t ht => by
        rw [Tryz.params7] at ht
        have hm : t ∈ [47, 47] := by simpa using Array.mem_of_getElem? ht
        have hall : ([47, 47].all fun u => !Tryz.prog.wantsStandIn u) = true := by kernel_rfl
        exact (show Tryz.prog.wantsStandIn t = false by simpa using List.all_eq_true.1 hall t hm)⟩)
    (by kernel_rfl)
end Go.Proofs.YtphlmmjlpbledaaGreatDoor
