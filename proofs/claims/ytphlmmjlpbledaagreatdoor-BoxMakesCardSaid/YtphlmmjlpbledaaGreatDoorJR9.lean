import Derived.Test.YtphlmmjlpbledaaGreatDoorJR8
set_option linter.unusedSimpArgs false
set_option linter.unusedVariables false
namespace Go.Proofs.YtphlmmjlpbledaaGreatDoor
open Go.RowKit
set_option maxRecDepth 100000

def nanb (b : Nat) : Bool := FloatKind.f64.format.order b b != some Ordering.eq
def infp (b : Nat) : Bool := FloatKind.f64.format.order b 9218868437227405311 == some Ordering.gt
def infn (b : Nat) : Bool := FloatKind.f64.format.order (Op.negFloat .f64 b) 9218868437227405311 == some Ordering.gt
def gtb (a b : Nat) : Bool := FloatKind.f64.format.order a b == some Ordering.gt
def zeb (b : Nat) : Bool := FloatKind.f64.format.order b 0 == some Ordering.eq
/-- A float, and +0 for -0. -/
def ez (b : Nat) : Nat := if zeb b then 0 else b
def mayB (a b : Nat) : Bool := !nanb a && !nanb b && !infp a && !infn b
/-- The code of MakeSpan, and the span's ends. -/
def msK (a b : Nat) : Int := if mayB a b then (if gtb a b then 7 else 0) else 1
def msL (a b : Nat) : Nat := if mayB a b && !gtb a b then ez a else 0
def msH (a b : Nat) : Nat := if mayB a b && !gtb a b then ez b else 0
theorem fneg_run (b : Nat) (W : World) : (Op.unary UnOp.neg (.float .f64 b)).run Tryz.prog W = .ok (.float .f64 (Op.negFloat .f64 b)) W := by
  simp [Op.unary]
theorem mayEnd_any (a b : Nat) (w : World) : Calls Tryz.prog 96 #[.float .f64 a, .float .f64 b] w fun e w' => e = .returned (.bool (mayB a b)) ∧ w = w' := by
  have hfb := floatbits_run
  have hfn := fneg_run
  unfold mayB
  cases h1 : nanb a
  · cases h2 : nanb b
    · cases h3 : infp a
      · cases h4 : infn b
        · unfold nanb at h1 h2; unfold infp at h3; unfold infn at h4
          go_enter Tryz.func96, Tryz.ntmps96
          go_wp2
          go_ret
          exact ⟨rfl, rfl⟩
        · unfold nanb at h1 h2; unfold infp at h3; unfold infn at h4
          go_enter Tryz.func96, Tryz.ntmps96
          go_wp2
          go_ret
          exact ⟨rfl, rfl⟩
      · unfold nanb at h1 h2; unfold infp at h3
        go_enter Tryz.func96, Tryz.ntmps96
        go_wp2
        go_ret
        exact ⟨rfl, rfl⟩
    · unfold nanb at h1 h2
      go_enter Tryz.func96, Tryz.ntmps96
      go_wp2
      go_ret
      exact ⟨rfl, rfl⟩
  · unfold nanb at h1
    go_enter Tryz.func96, Tryz.ntmps96
    go_wp2
    go_ret
    exact ⟨rfl, rfl⟩
theorem plain_any (b : Nat) (w : World) : Calls Tryz.prog 97 #[.float .f64 b] w fun e w' => e = .returned (.float .f64 (ez b)) ∧ w = w' := by
  unfold ez
  cases h : zeb b
  · rw [if_neg Bool.false_ne_true]
    unfold zeb at h
    go_enter Tryz.func97, Tryz.ntmps97
    go_wp2
    go_ret
    exact ⟨rfl, rfl⟩
  · rw [if_pos rfl]
    unfold zeb at h
    go_enter Tryz.func97, Tryz.ntmps97
    go_wp2
    go_ret
    exact ⟨rfl, rfl⟩
theorem rend_any (b : Nat) (w : World) : Calls Tryz.prog 100 #[.float .f64 b] w fun e w' => e = .returned (.float .f64 (ez b)) ∧ w = w' := by
  unfold ez
  cases h : zeb b
  · rw [if_neg Bool.false_ne_true]
    unfold zeb at h
    go_enter Tryz.func100, Tryz.ntmps100
    go_wp2
    go_ret
    exact ⟨rfl, rfl⟩
  · rw [if_pos rfl]
    unfold zeb at h
    go_enter Tryz.func100, Tryz.ntmps100
    go_wp2
    go_ret
    exact ⟨rfl, rfl⟩
theorem makeSpan_any (a b : Nat) (w : World) : Calls Tryz.prog 30 #[.float .f64 a, .float .f64 b] w fun e w' => e = .returned (.tuple #[.agg #[.float .f64 (msL a b), .float .f64 (msH a b)], .int .i64 (msK a b)]) ∧ Below w.heap.size w w' := by
  have hfb := floatbits_run
  have hfn := fneg_run
  have hsf := store_float
  have HM := hid (fun W => mayEnd_any a b W)
  have HPa := hid (fun W => plain_any a W)
  have HPb := hid (fun W => plain_any b W)
  unfold msL msH msK
  cases hm : mayB a b
  · simp only [Bool.false_and, Bool.false_eq_true, if_false]
    go_enter Tryz.func30, Tryz.ntmps30
    go_wp2_with fail
    refine (HM.out _).mono ?_
    rw [hm]
    rintro e w9 ⟨rfl, rfl⟩
    go_wp2
    refine bodyPost_ret (v := .tuple #[.agg #[.float .f64 0, .float .f64 0], .int .i64 1]) (by simp [results, Tryz.results30, go_sem]) rfl ?_
    exact ⟨rfl, below_alloc _ _⟩
  · cases hg : gtb a b
    · simp only [Bool.true_and, Bool.not_false, if_true, Bool.false_eq_true, if_false]
      have hg' := hg
      unfold gtb at hg'
      go_enter Tryz.func30, Tryz.ntmps30
      go_wp2_with fail
      refine (HM.out _).mono ?_
      rw [hm]
      rintro e w9 ⟨rfl, rfl⟩
      go_wp2_with fail
      refine (HPa.out _).mono ?_
      rintro e w9 ⟨rfl, rfl⟩
      go_wp2_with fail
      refine (HPb.out _).mono ?_
      rintro e w9 ⟨rfl, rfl⟩
      go_wp2
      refine bodyPost_ret (v := .tuple #[.agg #[.float .f64 (ez a), .float .f64 (ez b)], .int .i64 0]) (by simp [results, Tryz.results30, go_sem]) rfl ?_
      exact ⟨rfl, below_alloc _ _⟩
    · simp only [Bool.true_and, Bool.not_true, Bool.false_eq_true, if_false, if_true]
      have hg' := hg
      unfold gtb at hg'
      go_enter Tryz.func30, Tryz.ntmps30
      go_wp2_with fail
      refine (HM.out _).mono ?_
      rw [hm]
      rintro e w9 ⟨rfl, rfl⟩
      go_wp2
      refine bodyPost_ret (v := .tuple #[.agg #[.float .f64 0, .float .f64 0], .int .i64 7]) (by simp [results, Tryz.results30, go_sem]) rfl ?_
      exact ⟨rfl, below_alloc _ _⟩
theorem rmakeSpan_any (a b : Nat) (w : World) : Calls Tryz.prog 31 #[.float .f64 a, .float .f64 b] w fun e w' => e = .returned (.tuple #[.agg #[.float .f64 (msL a b), .float .f64 (msH a b)], .int .i64 (msK a b)]) ∧ Below w.heap.size w w' := by
  have hfb := floatbits_run
  have hfn := fneg_run
  have hsf := store_float
  have HPa := hid (fun W => rend_any a W)
  have HPb := hid (fun W => rend_any b W)
  unfold msL msH msK mayB
  cases h1 : nanb a
  · cases h2 : nanb b
    · cases h3 : infp a
      · cases h4 : infn b
        · cases hg : gtb a b
          · simp only [Bool.not_false, Bool.and_true, if_true, Bool.false_eq_true, if_false]
            unfold nanb at h1 h2; unfold infp at h3; unfold infn at h4; unfold gtb at hg
            go_enter Tryz.func31, Tryz.ntmps31
            cases hza : zeb a
            · cases hzb : zeb b
              · unfold ez; rw [hza, hzb]; unfold zeb at hza hzb
                go_wp2
                refine bodyPost_ret (v := .tuple #[.agg #[.float .f64 a, .float .f64 b], .int .i64 0]) (by simp [results, Tryz.results31, go_sem]) rfl ?_
                exact ⟨rfl, below_alloc _ _⟩
              · unfold ez; rw [hza, hzb]; unfold zeb at hza hzb
                go_wp2
                refine bodyPost_ret (v := .tuple #[.agg #[.float .f64 a, .float .f64 0], .int .i64 0]) (by simp [results, Tryz.results31, go_sem]) rfl ?_
                exact ⟨rfl, below_alloc _ _⟩
            · cases hzb : zeb b
              · unfold ez; rw [hza, hzb]; unfold zeb at hza hzb
                go_wp2
                refine bodyPost_ret (v := .tuple #[.agg #[.float .f64 0, .float .f64 b], .int .i64 0]) (by simp [results, Tryz.results31, go_sem]) rfl ?_
                exact ⟨rfl, below_alloc _ _⟩
              · unfold ez; rw [hza, hzb]; unfold zeb at hza hzb
                go_wp2
                refine bodyPost_ret (v := .tuple #[.agg #[.float .f64 0, .float .f64 0], .int .i64 0]) (by simp [results, Tryz.results31, go_sem]) rfl ?_
                exact ⟨rfl, below_alloc _ _⟩
          · simp only [Bool.not_false, Bool.not_true, Bool.and_true, Bool.and_false, if_true, Bool.false_eq_true, if_false]
            unfold nanb at h1 h2; unfold infp at h3; unfold infn at h4; unfold gtb at hg
            go_enter Tryz.func31, Tryz.ntmps31
            go_wp2
            refine bodyPost_ret (v := .tuple #[.agg #[.float .f64 0, .float .f64 0], .int .i64 7]) (by simp [results, Tryz.results31, go_sem]) rfl ?_
            exact ⟨rfl, below_alloc _ _⟩
        · simp only [Bool.not_false, Bool.not_true, Bool.and_true, Bool.and_false, Bool.false_and, if_true, Bool.false_eq_true, if_false]
          unfold nanb at h1 h2; unfold infp at h3; unfold infn at h4
          go_enter Tryz.func31, Tryz.ntmps31
          go_wp2
          refine bodyPost_ret (v := .tuple #[.agg #[.float .f64 0, .float .f64 0], .int .i64 1]) (by simp [results, Tryz.results31, go_sem]) rfl ?_
          exact ⟨rfl, below_alloc _ _⟩
      · simp only [Bool.not_false, Bool.not_true, Bool.and_true, Bool.and_false, Bool.false_and, if_true, Bool.false_eq_true, if_false]
        unfold nanb at h1 h2; unfold infp at h3
        go_enter Tryz.func31, Tryz.ntmps31
        go_wp2
        refine bodyPost_ret (v := .tuple #[.agg #[.float .f64 0, .float .f64 0], .int .i64 1]) (by simp [results, Tryz.results31, go_sem]) rfl ?_
        exact ⟨rfl, below_alloc _ _⟩
    · simp only [Bool.not_false, Bool.not_true, Bool.and_true, Bool.and_false, Bool.false_and, if_true, Bool.false_eq_true, if_false]
      unfold nanb at h1 h2
      go_enter Tryz.func31, Tryz.ntmps31
      go_wp2
      refine bodyPost_ret (v := .tuple #[.agg #[.float .f64 0, .float .f64 0], .int .i64 1]) (by simp [results, Tryz.results31, go_sem]) rfl ?_
      exact ⟨rfl, below_alloc _ _⟩
  · simp only [Bool.not_false, Bool.not_true, Bool.and_true, Bool.and_false, Bool.false_and, if_true, Bool.false_eq_true, if_false]
    unfold nanb at h1
    go_enter Tryz.func31, Tryz.ntmps31
    go_wp2
    refine bodyPost_ret (v := .tuple #[.agg #[.float .f64 0, .float .f64 0], .int .i64 1]) (by simp [results, Tryz.results31, go_sem]) rfl ?_
    exact ⟨rfl, below_alloc _ _⟩
set_option maxHeartbeats 2000000 in
theorem ends_any (a b : Nat) (w : World) : Calls Tryz.prog 101 #[.agg #[.float .f64 a, .float .f64 b]] w fun e w' => e = .returned (.tuple #[.float .f64 a, .float .f64 b]) ∧ Below w.heap.size w w' := by
  have hfb := floatbits_run
  have hsf := store_float
  go_enter Tryz.func101, Tryz.ntmps101
  go_upto_region 1 with fail
  obtain ⟨W1, hW1⟩ : ∃ W : World, W = w.alloc (.cells #[.float .f64 a, .float .f64 b] 65) := ⟨_, rfl⟩
  rw [← hW1]
  have X0 : W1.heap[w.heap.size]? = some (.cells #[.float .f64 a, .float .f64 b] 65 (0, 0)) := by rw [hW1]; exact (alloc_at (by simp))
  have z0 : w.heap.size < W1.heap.size := by rw [hW1]; simp <;> omega
  have B : Below w.heap.size w W1 := by rw [hW1]; exact (below_trans (Below.refl w.heap.size w) (below_alloc _ _))
  clear hW1
  obtain ⟨f0_0, f0_1, y0_0, y0_1⟩ := bx2 X0
  refine region_lin [.val (kIs (.pointer (some ⟨w.heap.size, 0, none⟩))), .val (kIs (.float .f64 a)), .val (kIs (.pointer (some ⟨w.heap.size, 1, none⟩))), .val (kIs (.float .f64 b)), .val (kIs (.float .f64 a)), .val (kIs (.float .f64 b))]
    (by kernel_rfl) (by kernel_rfl) (by kernel_rfl) (by kernel_rfl) (by kernel_rfl) ⟨Stab.b (stab_is _), Stab.b (stab_is _), Stab.b (stab_is _), Stab.b (stab_is _), Stab.b (stab_is _), Stab.b (stab_is _), trivial⟩ (by simp) ⟨?_, ?_, ?_, ?_, ?_, ?_, trivial⟩ ?_
  · exact obq
  · intro ts W hb hB hp; have h0 : ts 0 = _ := hp 0 (by kernel_rfl); intro K hK; simp only [fillT, Nat.zero_add, Nat.reduceAdd, sA, sB, sC, h0] at hK ⊢; have HK := hid hK; clear hK hp; obtain ⟨p0, p1, -, -⟩ := bx2 ((hb.block _ z0).trans X0); refine ⟨?_⟩; go_simp; exact HK.out _ _ kk rfB
  · exact obq
  · intro ts W hb hB hp; have h2 : ts 2 = _ := hp 2 (by kernel_rfl); intro K hK; simp only [fillT, Nat.zero_add, Nat.reduceAdd, sA, sB, sC, h2] at hK ⊢; have HK := hid hK; clear hK hp; obtain ⟨p0, p1, -, -⟩ := bx2 ((hb.block _ z0).trans X0); refine ⟨?_⟩; go_simp; exact HK.out _ _ kk rfB
  · intro ts W hb hB hp; have h1 : ts 1 = _ := hp 1 (by kernel_rfl); intro K hK; simp only [fillT, Nat.zero_add, Nat.reduceAdd, sA, sB, sC, h1] at hK ⊢; have HK := hid hK; clear hK hp; refine ⟨?_⟩; go_simp; exact HK.out _ _ kk rfB
  · intro ts W hb hB hp; have h3 : ts 3 = _ := hp 3 (by kernel_rfl); intro K hK; simp only [fillT, Nat.zero_add, Nat.reduceAdd, sA, sB, sC, h3] at hK ⊢; have HK := hid hK; clear hK hp; refine ⟨?_⟩; go_simp; exact HK.out _ _ kk rfB
  intro ts W2 hb2 hh hap
  have e0 := held_is (hh 0 (by simp)) rfl
  have e1 := held_is (hh 1 (by simp)) rfl
  have e2 := held_is (hh 2 (by simp)) rfl
  have e3 := held_is (hh 3 (by simp)) rfl
  have e4 := held_is (hh 4 (by simp)) rfl
  have e5 := held_is (hh 5 (by simp)) rfl
  simp only [fillT, Nat.zero_add, Nat.reduceAdd, sA, sB, sC, e0, e1, e2, e3, e4, e5]
  clear hh hap e0 e1 e2 e3 e4 e5
  replace X0 := (hb2.block _ z0).trans X0
  replace z0 := Nat.lt_of_lt_of_le z0 hb2.size
  replace B := below_trans B hb2
  clear hb2
  clear f0_0 f0_1 y0_0 y0_1
  obtain ⟨f0_0, f0_1, y0_0, y0_1⟩ := bx2 X0
  go_wp2
  refine bodyPost_ret (v := .tuple #[.float .f64 a, .float .f64 b]) (by simp [results, Tryz.results101]) rfl ?_
  exact ⟨rfl, B⟩
theorem equal_self (a : Nat) (w : World) : Calls Tryz.prog 102 #[.float .f64 a, .float .f64 a] w fun e w' => e = .returned (.bool true) ∧ w = w' := by
  have hfb := floatbits_run
  go_enter Tryz.func102, Tryz.ntmps102
  go_wp2
  go_ret
  exact ⟨rfl, rfl⟩
set_option maxHeartbeats 2000000 in
theorem isSpan_any (a b : Nat) (w : World) : Calls Tryz.prog 32 #[.agg #[.float .f64 a, .float .f64 b], .agg #[.float .f64 a, .float .f64 b]] w fun e w' => e = .returned (.bool true) ∧ Below w.heap.size w w' := by
  have hfb := floatbits_run
  have hsf := store_float
  go_enter Tryz.func32, Tryz.ntmps32
  go_wp2_with fail
  obtain ⟨W1, hW1⟩ : ∃ W : World, W = (w.alloc (.cells #[.float .f64 a, .float .f64 b] 65)).alloc (.cells #[.float .f64 a, .float .f64 b] 69) := ⟨_, rfl⟩
  rw [← hW1]
  have X0 : W1.heap[w.heap.size]? = some (.cells #[.float .f64 a, .float .f64 b] 65 (0, 0)) := by rw [hW1]; exact ((heap_alloc_old _ _ (by first | omega | (simp <;> omega))).trans (alloc_at (by simp)))
  have X1 : W1.heap[w.heap.size + 1]? = some (.cells #[.float .f64 a, .float .f64 b] 69 (0, 0)) := by rw [hW1]; exact (alloc_at (by simp))
  have z0 : w.heap.size < W1.heap.size := by rw [hW1]; simp <;> omega
  have z1 : w.heap.size + 1 < W1.heap.size := by rw [hW1]; simp <;> omega
  have B : Below w.heap.size w W1 := by rw [hW1]; exact (below_trans (below_trans (Below.refl w.heap.size w) (below_alloc _ _)) (below_alloc _ _))
  clear hW1
  refine (ends_any a b _).mono ?_
  rintro e W2 ⟨rfl, hb2⟩
  replace X0 := (hb2.block _ z0).trans X0
  replace z0 := Nat.lt_of_lt_of_le z0 hb2.size
  replace X1 := (hb2.block _ z1).trans X1
  replace z1 := Nat.lt_of_lt_of_le z1 hb2.size
  replace B := below_trans B hb2
  clear hb2
  obtain ⟨f0_0, f0_1, y0_0, y0_1⟩ := bx2 X0
  obtain ⟨f1_0, f1_1, y1_0, y1_1⟩ := bx2 X1
  go_wp2_with fail
  refine (equal_self a _).mono ?_
  rintro e w9 ⟨rfl, rfl⟩
  go_wp2_with fail
  refine (equal_self b _).mono ?_
  rintro e w9 ⟨rfl, rfl⟩
  go_wp2
  go_ret
  exact ⟨rfl, B⟩
end Go.Proofs.YtphlmmjlpbledaaGreatDoor
namespace Go.Proofs.YtphlmmjlpbledaaGreatDoor
open Go.RowKit
set_option maxRecDepth 100000

theorem msK_1 (w : World) : Calls Tryz.prog 30 #[.float .f64 4607182418800017408, .float .f64 4611686018427387904] w fun e w' => e = .returned (.tuple #[.agg #[.float .f64 4607182418800017408, .float .f64 4611686018427387904], .int .i64 0]) ∧ Below w.heap.size w w' := by
  have := makeSpan_any 4607182418800017408 4611686018427387904 w
  rwa [show msL 4607182418800017408 4611686018427387904 = 4607182418800017408 by decide +kernel, show msH 4607182418800017408 4611686018427387904 = 4611686018427387904 by decide +kernel, show msK 4607182418800017408 4611686018427387904 = 0 by decide +kernel] at this
theorem msK_2 (w : World) : Calls Tryz.prog 30 #[.float .f64 0, .float .f64 4607182418800017408] w fun e w' => e = .returned (.tuple #[.agg #[.float .f64 0, .float .f64 4607182418800017408], .int .i64 0]) ∧ Below w.heap.size w w' := by
  have := makeSpan_any 0 4607182418800017408 w
  rwa [show msL 0 4607182418800017408 = 0 by decide +kernel, show msH 0 4607182418800017408 = 4607182418800017408 by decide +kernel, show msK 0 4607182418800017408 = 0 by decide +kernel] at this
theorem meK_1 (w : World) : Calls Tryz.prog 96 #[.float .f64 0, .float .f64 4607182418800017408] w fun e w' => e = .returned (.bool true) ∧ w = w' := by
  have := mayEnd_any 0 4607182418800017408 w
  rwa [show mayB 0 4607182418800017408 = true by decide +kernel] at this
set_option maxHeartbeats 2000000 in
theorem makeK_1 (w : World) : Calls Tryz.prog 38 #[.complex .f64 4607182418800017408 0, .complex .f64 4611686018427387904 4607182418800017408] w fun e w' => e = .returned (.tuple #[.agg #[.float .f64 4607182418800017408, .float .f64 4611686018427387904, .float .f64 0, .float .f64 4607182418800017408], .int .i64 0]) ∧ Below w.heap.size w w' := by
  have hfb := floatbits_run
  have hsf := store_float
  go_enter Tryz.func38, Tryz.ntmps38
  go_upto_region 1 with fail
  obtain ⟨W1, hW1⟩ : ∃ W : World, W = w.alloc (.cells #[.float .f64 0, .float .f64 0, .float .f64 0, .float .f64 0] 85) := ⟨_, rfl⟩
  rw [← hW1]
  have X0 : W1.heap[w.heap.size]? = some (.cells #[.float .f64 0, .float .f64 0, .float .f64 0, .float .f64 0] 85 (0, 0)) := by rw [hW1]; exact (alloc_at (by simp))
  have z0 : w.heap.size < W1.heap.size := by rw [hW1]; simp <;> omega
  have B : Below w.heap.size w W1 := by rw [hW1]; exact (below_trans (Below.refl w.heap.size w) (below_alloc _ _))
  clear hW1
  obtain ⟨f0_0, f0_1, f0_2, f0_3, y0_0, y0_1, y0_2, y0_3⟩ := bx4 X0
  go_wp2_with fail
  refine (msK_1 _).mono ?_
  rintro e W2 ⟨rfl, hb2⟩
  replace X0 := (hb2.block _ z0).trans X0
  replace z0 := Nat.lt_of_lt_of_le z0 hb2.size
  replace B := below_trans B hb2
  clear hb2
  clear f0_0 f0_1 f0_2 f0_3 y0_0 y0_1 y0_2 y0_3
  obtain ⟨f0_0, f0_1, f0_2, f0_3, y0_0, y0_1, y0_2, y0_3⟩ := bx4 X0
  go_wp2_with fail
  refine (meK_1 _).mono ?_
  rintro e w9 ⟨rfl, rfl⟩
  go_upto_region 4 with fail
  obtain ⟨W3, hW3⟩ : ∃ W : World, W = W2.alloc (.cells #[.float .f64 4607182418800017408, .float .f64 4611686018427387904] 65) := ⟨_, rfl⟩
  rw [← hW3]
  replace X0 : W3.heap[w.heap.size]? = some (.cells #[.float .f64 0, .float .f64 0, .float .f64 0, .float .f64 0] 85 (0, 0)) := by rw [hW3]; exact ((heap_alloc_old _ _ (by first | omega | (simp <;> omega))).trans X0)
  have X1 : W3.heap[W2.heap.size]? = some (.cells #[.float .f64 4607182418800017408, .float .f64 4611686018427387904] 65 (0, 0)) := by rw [hW3]; exact (alloc_at (by simp))
  have q0_1 : w.heap.size < W2.heap.size := by omega
  replace z0 : w.heap.size < W3.heap.size := by rw [hW3]; simp <;> omega
  have z1 : W2.heap.size < W3.heap.size := by rw [hW3]; simp <;> omega
  replace B : Below w.heap.size w W3 := by rw [hW3]; exact (below_trans B (below_alloc _ _))
  clear hW3
  clear f0_0 f0_1 f0_2 f0_3 y0_0 y0_1 y0_2 y0_3
  obtain ⟨f0_0, f0_1, f0_2, f0_3, y0_0, y0_1, y0_2, y0_3⟩ := bx4 X0
  obtain ⟨f1_0, f1_1, y1_0, y1_1⟩ := bx2 X1
  go_wp2_with fail
  refine (msK_2 _).mono ?_
  rintro e W4 ⟨rfl, hb4⟩
  replace X0 := (hb4.block _ z0).trans X0
  replace z0 := Nat.lt_of_lt_of_le z0 hb4.size
  replace X1 := (hb4.block _ z1).trans X1
  replace z1 := Nat.lt_of_lt_of_le z1 hb4.size
  replace B := below_trans B hb4
  clear hb4
  clear f0_0 f0_1 f0_2 f0_3 y0_0 y0_1 y0_2 y0_3 f1_0 f1_1 y1_0 y1_1
  obtain ⟨f0_0, f0_1, f0_2, f0_3, y0_0, y0_1, y0_2, y0_3⟩ := bx4 X0
  obtain ⟨f1_0, f1_1, y1_0, y1_1⟩ := bx2 X1
  go_upto_region 7 with fail
  obtain ⟨W5, hW5⟩ : ∃ W : World, W = W4.alloc (.cells #[.float .f64 0, .float .f64 4607182418800017408] 65) := ⟨_, rfl⟩
  rw [← hW5]
  replace X0 : W5.heap[w.heap.size]? = some (.cells #[.float .f64 0, .float .f64 0, .float .f64 0, .float .f64 0] 85 (0, 0)) := by rw [hW5]; exact ((heap_alloc_old _ _ (by first | omega | (simp <;> omega))).trans X0)
  replace X1 : W5.heap[W2.heap.size]? = some (.cells #[.float .f64 4607182418800017408, .float .f64 4611686018427387904] 65 (0, 0)) := by rw [hW5]; exact ((heap_alloc_old _ _ (by first | omega | (simp <;> omega))).trans X1)
  have X2 : W5.heap[W4.heap.size]? = some (.cells #[.float .f64 0, .float .f64 4607182418800017408] 65 (0, 0)) := by rw [hW5]; exact (alloc_at (by simp))
  have q0_2 : w.heap.size < W4.heap.size := by omega
  have q1_2 : W2.heap.size < W4.heap.size := by omega
  replace z0 : w.heap.size < W5.heap.size := by rw [hW5]; simp <;> omega
  replace z1 : W2.heap.size < W5.heap.size := by rw [hW5]; simp <;> omega
  have z2 : W4.heap.size < W5.heap.size := by rw [hW5]; simp <;> omega
  replace B : Below w.heap.size w W5 := by rw [hW5]; exact (below_trans B (below_alloc _ _))
  clear hW5
  clear f0_0 f0_1 f0_2 f0_3 y0_0 y0_1 y0_2 y0_3 f1_0 f1_1 y1_0 y1_1
  obtain ⟨f0_0, f0_1, f0_2, f0_3, y0_0, y0_1, y0_2, y0_3⟩ := bx4 X0
  obtain ⟨f1_0, f1_1, y1_0, y1_1⟩ := bx2 X1
  obtain ⟨f2_0, f2_1, y2_0, y2_1⟩ := bx2 X2
  go_wp2
  refine bodyPost_ret (v := .tuple #[.agg #[.float .f64 4607182418800017408, .float .f64 4611686018427387904, .float .f64 0, .float .f64 4607182418800017408], .int .i64 0]) (by simp [results, Tryz.results38, go_sem, f0_0, f0_1, f0_2, f0_3, y0_0, y0_1, y0_2, y0_3, f1_0, f1_1, y1_0, y1_1, f2_0, f2_1, y2_0, y2_1]) rfl ?_
  exact ⟨rfl, (Below.setCell (p := ⟨w.heap.size, 3, none⟩) (Below.setCell (p := ⟨w.heap.size, 2, none⟩) (Below.setCell (p := ⟨w.heap.size, 1, none⟩) (Below.setCell (p := ⟨w.heap.size, 0, none⟩) B (show w.heap.size ≤ w.heap.size by omega) _) (show w.heap.size ≤ w.heap.size by omega) _) (show w.heap.size ≤ w.heap.size by omega) _) (show w.heap.size ≤ w.heap.size by omega) _)⟩
set_option maxHeartbeats 2000000 in
theorem loK_1 (w : World) : Calls Tryz.prog 93 #[.agg #[.float .f64 0, .float .f64 4616189618054758400, .float .f64 0, .float .f64 4616189618054758400]] w fun e w' => e = .returned (.complex .f64 0 0) ∧ Below w.heap.size w w' := by
  have hfb := floatbits_run
  have hsf := store_float
  go_enter Tryz.func93, Tryz.ntmps93
  go_wp2
  go_ret
  exact ⟨rfl, (below_trans (Below.refl w.heap.size w) (below_alloc _ _))⟩
set_option maxHeartbeats 2000000 in
theorem hiK_1 (w : World) : Calls Tryz.prog 94 #[.agg #[.float .f64 0, .float .f64 4616189618054758400, .float .f64 0, .float .f64 4616189618054758400]] w fun e w' => e = .returned (.complex .f64 4616189618054758400 4616189618054758400) ∧ Below w.heap.size w w' := by
  have hfb := floatbits_run
  have hsf := store_float
  go_enter Tryz.func94, Tryz.ntmps94
  go_wp2
  go_ret
  exact ⟨rfl, (below_trans (Below.refl w.heap.size w) (below_alloc _ _))⟩
set_option maxHeartbeats 2000000 in
theorem loK_2 (w : World) : Calls Tryz.prog 93 #[.agg #[.float .f64 4600877379321698713, .float .f64 4607182418800017408, .float .f64 13826050856027422720, .float .f64 0]] w fun e w' => e = .returned (.complex .f64 4600877379321698713 13826050856027422720) ∧ Below w.heap.size w w' := by
  have hfb := floatbits_run
  have hsf := store_float
  go_enter Tryz.func93, Tryz.ntmps93
  go_wp2
  go_ret
  exact ⟨rfl, (below_trans (Below.refl w.heap.size w) (below_alloc _ _))⟩
set_option maxHeartbeats 2000000 in
theorem hiK_2 (w : World) : Calls Tryz.prog 94 #[.agg #[.float .f64 4600877379321698713, .float .f64 4607182418800017408, .float .f64 13826050856027422720, .float .f64 0]] w fun e w' => e = .returned (.complex .f64 4607182418800017408 0) ∧ Below w.heap.size w w' := by
  have hfb := floatbits_run
  have hsf := store_float
  go_enter Tryz.func94, Tryz.ntmps94
  go_wp2
  go_ret
  exact ⟨rfl, (below_trans (Below.refl w.heap.size w) (below_alloc _ _))⟩
set_option maxHeartbeats 2000000 in
theorem hasZeroK_1 (w : World) : Calls Tryz.prog 162 #[.agg #[.float .f64 0, .float .f64 4616189618054758400]] w fun e w' => e = .returned (.bool true) ∧ Below w.heap.size w w' := by
  have hfb := floatbits_run
  have hsf := store_float
  have k0 : (FloatKind.f64.format.order 0 0 == some Ordering.lt) = false := by decide +kernel
  have k1 : (FloatKind.f64.format.order 0 0 == some Ordering.eq) = true := by decide +kernel
  have k2 : (FloatKind.f64.format.order 0 4616189618054758400 == some Ordering.lt) = true := by decide +kernel
  have k3 : (FloatKind.f64.format.order 0 4616189618054758400 == some Ordering.eq) = false := by decide +kernel
  go_enter Tryz.func162, Tryz.ntmps162
  go_wp2
  go_ret
  exact ⟨rfl, (below_trans (Below.refl w.heap.size w) (below_alloc _ _))⟩
set_option maxHeartbeats 2000000 in
theorem clearK_1 (w : World) : Calls Tryz.prog 95 #[.agg #[.float .f64 0, .float .f64 4616189618054758400, .float .f64 0, .float .f64 4616189618054758400]] w fun e w' => e = .returned (.bool false) ∧ Below w.heap.size w w' := by
  have hfb := floatbits_run
  have hsf := store_float
  go_enter Tryz.func95, Tryz.ntmps95
  go_wp2_with fail
  obtain ⟨W1, hW1⟩ : ∃ W : World, W = w.alloc (.cells #[.float .f64 0, .float .f64 4616189618054758400, .float .f64 0, .float .f64 4616189618054758400] 85) := ⟨_, rfl⟩
  rw [← hW1]
  have X0 : W1.heap[w.heap.size]? = some (.cells #[.float .f64 0, .float .f64 4616189618054758400, .float .f64 0, .float .f64 4616189618054758400] 85 (0, 0)) := by rw [hW1]; exact (alloc_at (by simp))
  have z0 : w.heap.size < W1.heap.size := by rw [hW1]; simp <;> omega
  have B : Below w.heap.size w W1 := by rw [hW1]; exact (below_trans (Below.refl w.heap.size w) (below_alloc _ _))
  clear hW1
  refine (hasZeroK_1 _).mono ?_
  rintro e W2 ⟨rfl, hb2⟩
  replace X0 := (hb2.block _ z0).trans X0
  replace z0 := Nat.lt_of_lt_of_le z0 hb2.size
  replace B := below_trans B hb2
  clear hb2
  obtain ⟨f0_0, f0_1, f0_2, f0_3, y0_0, y0_1, y0_2, y0_3⟩ := bx4 X0
  go_wp2_with fail
  refine (hasZeroK_1 _).mono ?_
  rintro e W3 ⟨rfl, hb3⟩
  replace X0 := (hb3.block _ z0).trans X0
  replace z0 := Nat.lt_of_lt_of_le z0 hb3.size
  replace B := below_trans B hb3
  clear hb3
  clear f0_0 f0_1 f0_2 f0_3 y0_0 y0_1 y0_2 y0_3
  obtain ⟨f0_0, f0_1, f0_2, f0_3, y0_0, y0_1, y0_2, y0_3⟩ := bx4 X0
  go_wp2
  go_ret
  exact ⟨rfl, B⟩
set_option maxHeartbeats 2000000 in
theorem awake2K_1 (w : World) (hT : Tab w) (hT6 : Tab64 w) : Calls Tryz.prog 29 #[] w fun e w' => e = .returned (.bool true) ∧ Below w.heap.size w w' := by
  have hfb := floatbits_run
  have hsf := store_float
  have k0 : (FloatKind.f64.format.order 0 0 == some Ordering.eq) = true := by decide +kernel
  have k1 : (FloatKind.f64.format.order 4616189618054758400 4616189618054758400 == some Ordering.eq) = true := by decide +kernel
  have k2 : (FloatKind.f64.format.order 13826050856027422720 13826050856027422720 == some Ordering.eq) = true := by decide +kernel
  have k3 : (FloatKind.f64.format.order 4607182418800017408 4607182418800017408 == some Ordering.eq) = true := by decide +kernel
  have HT := hid hT
  have HT6 := hid hT6
  clear hT hT6
  go_enter Tryz.func29, Tryz.ntmps29
  go_wp2_with fail
  obtain ⟨W1, hW1⟩ : ∃ W : World, W = w := ⟨_, rfl⟩
  rw [← hW1]
  have B : Below w.heap.size w W1 := by rw [hW1]; exact (Below.refl w.heap.size w)
  clear hW1
  refine (makeK_1 _).mono ?_
  rintro e W2 ⟨rfl, hb2⟩
  replace B := below_trans B hb2
  clear hb2
  go_upto_region 2 with fail
  obtain ⟨W3, hW3⟩ : ∃ W : World, W = W2.alloc (.cells #[.float .f64 4607182418800017408, .float .f64 4611686018427387904, .float .f64 0, .float .f64 4607182418800017408] 85) := ⟨_, rfl⟩
  rw [← hW3]
  have X0 : W3.heap[W2.heap.size]? = some (.cells #[.float .f64 4607182418800017408, .float .f64 4611686018427387904, .float .f64 0, .float .f64 4607182418800017408] 85 (0, 0)) := by rw [hW3]; exact (alloc_at (by simp))
  have z0 : W2.heap.size < W3.heap.size := by rw [hW3]; simp <;> omega
  replace B : Below w.heap.size w W3 := by rw [hW3]; exact (below_trans B (below_alloc _ _))
  clear hW3
  obtain ⟨f0_0, f0_1, f0_2, f0_3, y0_0, y0_1, y0_2, y0_3⟩ := bx4 X0
  go_wp2_with fail
  refine (inv_awake _ (HT.out.below B) (HT6.out.below B)).mono ?_
  rintro e W4 ⟨rfl, hb4⟩
  replace X0 := (hb4.block _ z0).trans X0
  replace z0 := Nat.lt_of_lt_of_le z0 hb4.size
  replace B := below_trans B hb4
  clear hb4
  clear f0_0 f0_1 f0_2 f0_3 y0_0 y0_1 y0_2 y0_3
  obtain ⟨f0_0, f0_1, f0_2, f0_3, y0_0, y0_1, y0_2, y0_3⟩ := bx4 X0
  go_upto_region 3 with fail
  obtain ⟨W5, hW5⟩ : ∃ W : World, W = W4.alloc (.cells #[.float .f64 4600877379321698713, .float .f64 4607182418800017408, .float .f64 13826050856027422720, .float .f64 0] 85) := ⟨_, rfl⟩
  rw [← hW5]
  replace X0 : W5.heap[W2.heap.size]? = some (.cells #[.float .f64 4607182418800017408, .float .f64 4611686018427387904, .float .f64 0, .float .f64 4607182418800017408] 85 (0, 0)) := by rw [hW5]; exact ((heap_alloc_old _ _ (by first | omega | (simp <;> omega))).trans X0)
  have X1 : W5.heap[W4.heap.size]? = some (.cells #[.float .f64 4600877379321698713, .float .f64 4607182418800017408, .float .f64 13826050856027422720, .float .f64 0] 85 (0, 0)) := by rw [hW5]; exact (alloc_at (by simp))
  have q0_1 : W2.heap.size < W4.heap.size := by omega
  replace z0 : W2.heap.size < W5.heap.size := by rw [hW5]; simp <;> omega
  have z1 : W4.heap.size < W5.heap.size := by rw [hW5]; simp <;> omega
  replace B : Below w.heap.size w W5 := by rw [hW5]; exact (below_trans B (below_alloc _ _))
  clear hW5
  clear f0_0 f0_1 f0_2 f0_3 y0_0 y0_1 y0_2 y0_3
  obtain ⟨f0_0, f0_1, f0_2, f0_3, y0_0, y0_1, y0_2, y0_3⟩ := bx4 X0
  obtain ⟨f1_0, f1_1, f1_2, f1_3, y1_0, y1_1, y1_2, y1_3⟩ := bx4 X1
  go_wp2_with fail
  refine (bmul_1 _).mono ?_
  rintro e W6 ⟨rfl, hb6⟩
  replace X0 := (hb6.block _ z0).trans X0
  replace z0 := Nat.lt_of_lt_of_le z0 hb6.size
  replace X1 := (hb6.block _ z1).trans X1
  replace z1 := Nat.lt_of_lt_of_le z1 hb6.size
  replace B := below_trans B hb6
  clear hb6
  clear f0_0 f0_1 f0_2 f0_3 y0_0 y0_1 y0_2 y0_3 f1_0 f1_1 f1_2 f1_3 y1_0 y1_1 y1_2 y1_3
  obtain ⟨f0_0, f0_1, f0_2, f0_3, y0_0, y0_1, y0_2, y0_3⟩ := bx4 X0
  obtain ⟨f1_0, f1_1, f1_2, f1_3, y1_0, y1_1, y1_2, y1_3⟩ := bx4 X1
  go_wp2_with fail
  obtain ⟨W7, hW7⟩ : ∃ W : World, W = W6.alloc (.cells #[.float .f64 0, .float .f64 4616189618054758400, .float .f64 0, .float .f64 4616189618054758400] 85) := ⟨_, rfl⟩
  rw [← hW7]
  replace X0 : W7.heap[W2.heap.size]? = some (.cells #[.float .f64 4607182418800017408, .float .f64 4611686018427387904, .float .f64 0, .float .f64 4607182418800017408] 85 (0, 0)) := by rw [hW7]; exact ((heap_alloc_old _ _ (by first | omega | (simp <;> omega))).trans X0)
  replace X1 : W7.heap[W4.heap.size]? = some (.cells #[.float .f64 4600877379321698713, .float .f64 4607182418800017408, .float .f64 13826050856027422720, .float .f64 0] 85 (0, 0)) := by rw [hW7]; exact ((heap_alloc_old _ _ (by first | omega | (simp <;> omega))).trans X1)
  have X2 : W7.heap[W6.heap.size]? = some (.cells #[.float .f64 0, .float .f64 4616189618054758400, .float .f64 0, .float .f64 4616189618054758400] 85 (0, 0)) := by rw [hW7]; exact (alloc_at (by simp))
  have q0_2 : W2.heap.size < W6.heap.size := by omega
  have q1_2 : W4.heap.size < W6.heap.size := by omega
  replace z0 : W2.heap.size < W7.heap.size := by rw [hW7]; simp <;> omega
  replace z1 : W4.heap.size < W7.heap.size := by rw [hW7]; simp <;> omega
  have z2 : W6.heap.size < W7.heap.size := by rw [hW7]; simp <;> omega
  replace B : Below w.heap.size w W7 := by rw [hW7]; exact (below_trans B (below_alloc _ _))
  clear hW7
  refine (loK_1 _).mono ?_
  rintro e W8 ⟨rfl, hb8⟩
  replace X0 := (hb8.block _ z0).trans X0
  replace z0 := Nat.lt_of_lt_of_le z0 hb8.size
  replace X1 := (hb8.block _ z1).trans X1
  replace z1 := Nat.lt_of_lt_of_le z1 hb8.size
  replace X2 := (hb8.block _ z2).trans X2
  replace z2 := Nat.lt_of_lt_of_le z2 hb8.size
  replace B := below_trans B hb8
  clear hb8
  clear f0_0 f0_1 f0_2 f0_3 y0_0 y0_1 y0_2 y0_3 f1_0 f1_1 f1_2 f1_3 y1_0 y1_1 y1_2 y1_3
  obtain ⟨f0_0, f0_1, f0_2, f0_3, y0_0, y0_1, y0_2, y0_3⟩ := bx4 X0
  obtain ⟨f1_0, f1_1, f1_2, f1_3, y1_0, y1_1, y1_2, y1_3⟩ := bx4 X1
  obtain ⟨f2_0, f2_1, f2_2, f2_3, y2_0, y2_1, y2_2, y2_3⟩ := bx4 X2
  go_wp2_with fail
  refine (hiK_1 _).mono ?_
  rintro e W9 ⟨rfl, hb9⟩
  replace X0 := (hb9.block _ z0).trans X0
  replace z0 := Nat.lt_of_lt_of_le z0 hb9.size
  replace X1 := (hb9.block _ z1).trans X1
  replace z1 := Nat.lt_of_lt_of_le z1 hb9.size
  replace X2 := (hb9.block _ z2).trans X2
  replace z2 := Nat.lt_of_lt_of_le z2 hb9.size
  replace B := below_trans B hb9
  clear hb9
  clear f0_0 f0_1 f0_2 f0_3 y0_0 y0_1 y0_2 y0_3 f1_0 f1_1 f1_2 f1_3 y1_0 y1_1 y1_2 y1_3 f2_0 f2_1 f2_2 f2_3 y2_0 y2_1 y2_2 y2_3
  obtain ⟨f0_0, f0_1, f0_2, f0_3, y0_0, y0_1, y0_2, y0_3⟩ := bx4 X0
  obtain ⟨f1_0, f1_1, f1_2, f1_3, y1_0, y1_1, y1_2, y1_3⟩ := bx4 X1
  obtain ⟨f2_0, f2_1, f2_2, f2_3, y2_0, y2_1, y2_2, y2_3⟩ := bx4 X2
  go_wp2_with fail
  refine (loK_2 _).mono ?_
  rintro e W10 ⟨rfl, hb10⟩
  replace X0 := (hb10.block _ z0).trans X0
  replace z0 := Nat.lt_of_lt_of_le z0 hb10.size
  replace X1 := (hb10.block _ z1).trans X1
  replace z1 := Nat.lt_of_lt_of_le z1 hb10.size
  replace X2 := (hb10.block _ z2).trans X2
  replace z2 := Nat.lt_of_lt_of_le z2 hb10.size
  replace B := below_trans B hb10
  clear hb10
  clear f0_0 f0_1 f0_2 f0_3 y0_0 y0_1 y0_2 y0_3 f1_0 f1_1 f1_2 f1_3 y1_0 y1_1 y1_2 y1_3 f2_0 f2_1 f2_2 f2_3 y2_0 y2_1 y2_2 y2_3
  obtain ⟨f0_0, f0_1, f0_2, f0_3, y0_0, y0_1, y0_2, y0_3⟩ := bx4 X0
  obtain ⟨f1_0, f1_1, f1_2, f1_3, y1_0, y1_1, y1_2, y1_3⟩ := bx4 X1
  obtain ⟨f2_0, f2_1, f2_2, f2_3, y2_0, y2_1, y2_2, y2_3⟩ := bx4 X2
  go_wp2_with fail
  refine (hiK_2 _).mono ?_
  rintro e W11 ⟨rfl, hb11⟩
  replace X0 := (hb11.block _ z0).trans X0
  replace z0 := Nat.lt_of_lt_of_le z0 hb11.size
  replace X1 := (hb11.block _ z1).trans X1
  replace z1 := Nat.lt_of_lt_of_le z1 hb11.size
  replace X2 := (hb11.block _ z2).trans X2
  replace z2 := Nat.lt_of_lt_of_le z2 hb11.size
  replace B := below_trans B hb11
  clear hb11
  clear f0_0 f0_1 f0_2 f0_3 y0_0 y0_1 y0_2 y0_3 f1_0 f1_1 f1_2 f1_3 y1_0 y1_1 y1_2 y1_3 f2_0 f2_1 f2_2 f2_3 y2_0 y2_1 y2_2 y2_3
  obtain ⟨f0_0, f0_1, f0_2, f0_3, y0_0, y0_1, y0_2, y0_3⟩ := bx4 X0
  obtain ⟨f1_0, f1_1, f1_2, f1_3, y1_0, y1_1, y1_2, y1_3⟩ := bx4 X1
  obtain ⟨f2_0, f2_1, f2_2, f2_3, y2_0, y2_1, y2_2, y2_3⟩ := bx4 X2
  go_wp2_with fail
  refine (clearI_1 _).mono ?_
  rintro e W12 ⟨rfl, hb12⟩
  replace X0 := (hb12.block _ z0).trans X0
  replace z0 := Nat.lt_of_lt_of_le z0 hb12.size
  replace X1 := (hb12.block _ z1).trans X1
  replace z1 := Nat.lt_of_lt_of_le z1 hb12.size
  replace X2 := (hb12.block _ z2).trans X2
  replace z2 := Nat.lt_of_lt_of_le z2 hb12.size
  replace B := below_trans B hb12
  clear hb12
  clear f0_0 f0_1 f0_2 f0_3 y0_0 y0_1 y0_2 y0_3 f1_0 f1_1 f1_2 f1_3 y1_0 y1_1 y1_2 y1_3 f2_0 f2_1 f2_2 f2_3 y2_0 y2_1 y2_2 y2_3
  obtain ⟨f0_0, f0_1, f0_2, f0_3, y0_0, y0_1, y0_2, y0_3⟩ := bx4 X0
  obtain ⟨f1_0, f1_1, f1_2, f1_3, y1_0, y1_1, y1_2, y1_3⟩ := bx4 X1
  obtain ⟨f2_0, f2_1, f2_2, f2_3, y2_0, y2_1, y2_2, y2_3⟩ := bx4 X2
  go_wp2_with fail
  refine (clearK_1 _).mono ?_
  rintro e W13 ⟨rfl, hb13⟩
  replace X0 := (hb13.block _ z0).trans X0
  replace z0 := Nat.lt_of_lt_of_le z0 hb13.size
  replace X1 := (hb13.block _ z1).trans X1
  replace z1 := Nat.lt_of_lt_of_le z1 hb13.size
  replace X2 := (hb13.block _ z2).trans X2
  replace z2 := Nat.lt_of_lt_of_le z2 hb13.size
  replace B := below_trans B hb13
  clear hb13
  clear f0_0 f0_1 f0_2 f0_3 y0_0 y0_1 y0_2 y0_3 f1_0 f1_1 f1_2 f1_3 y1_0 y1_1 y1_2 y1_3 f2_0 f2_1 f2_2 f2_3 y2_0 y2_1 y2_2 y2_3
  obtain ⟨f0_0, f0_1, f0_2, f0_3, y0_0, y0_1, y0_2, y0_3⟩ := bx4 X0
  obtain ⟨f1_0, f1_1, f1_2, f1_3, y1_0, y1_1, y1_2, y1_3⟩ := bx4 X1
  obtain ⟨f2_0, f2_1, f2_2, f2_3, y2_0, y2_1, y2_2, y2_3⟩ := bx4 X2
  go_wp2
  go_ret
  exact ⟨rfl, B⟩
end Go.Proofs.YtphlmmjlpbledaaGreatDoor
namespace Go.Proofs.YtphlmmjlpbledaaGreatDoor
open Go.RowKit
set_option maxRecDepth 100000

set_option maxHeartbeats 2000000 in
theorem lo_any (p q r s : Nat) (w : World) : Calls Tryz.prog 93 #[.agg #[.float .f64 p, .float .f64 q, .float .f64 r, .float .f64 s]] w fun e w' => e = .returned (.complex .f64 p r) ∧ Below w.heap.size w w' := by
  have hfb := floatbits_run
  have hsf := store_float
  go_enter Tryz.func93, Tryz.ntmps93
  go_wp2
  go_ret
  exact ⟨rfl, (below_trans (Below.refl w.heap.size w) (below_alloc _ _))⟩
set_option maxHeartbeats 2000000 in
theorem hi_any (p q r s : Nat) (w : World) : Calls Tryz.prog 94 #[.agg #[.float .f64 p, .float .f64 q, .float .f64 r, .float .f64 s]] w fun e w' => e = .returned (.complex .f64 q s) ∧ Below w.heap.size w w' := by
  have hfb := floatbits_run
  have hsf := store_float
  go_enter Tryz.func94, Tryz.ntmps94
  go_wp2
  go_ret
  exact ⟨rfl, (below_trans (Below.refl w.heap.size w) (below_alloc _ _))⟩
set_option maxHeartbeats 2000000 in
theorem pair_any (p q r s : Nat) (w : World) : Calls Tryz.prog 43 #[.agg #[.float .f64 p, .float .f64 q], .agg #[.float .f64 r, .float .f64 s]] w fun e w' => e = .returned (.agg #[.float .f64 p, .float .f64 q, .float .f64 r, .float .f64 s]) ∧ Below w.heap.size w w' := by
  have hfb := floatbits_run
  have hsf := store_float
  go_enter Tryz.func43, Tryz.ntmps43
  go_wp2
  refine bodyPost_ret (v := .agg #[.float .f64 p, .float .f64 q, .float .f64 r, .float .f64 s]) (by simp [results, Tryz.results43, go_sem]) rfl ?_
  exact ⟨rfl, (below_trans (below_trans (below_trans (Below.refl w.heap.size w) (below_alloc _ _)) (below_alloc _ _)) (below_alloc _ _))⟩
set_option maxHeartbeats 2000000 in
theorem is_box (p q r s : Nat) (w : World) : Calls Tryz.prog 41 #[.agg #[.float .f64 p, .float .f64 q, .float .f64 r, .float .f64 s], .agg #[.float .f64 p, .float .f64 q, .float .f64 r, .float .f64 s]] w fun e w' => e = .returned (.bool true) ∧ Below w.heap.size w w' := by
  have hfb := floatbits_run
  have hsf := store_float
  go_enter Tryz.func41, Tryz.ntmps41
  go_upto_region 1 with fail
  obtain ⟨W1, hW1⟩ : ∃ W : World, W = (w.alloc (.cells #[.float .f64 p, .float .f64 q, .float .f64 r, .float .f64 s] 85)).alloc (.cells #[.float .f64 p, .float .f64 q, .float .f64 r, .float .f64 s] 89) := ⟨_, rfl⟩
  rw [← hW1]
  have X0 : W1.heap[w.heap.size]? = some (.cells #[.float .f64 p, .float .f64 q, .float .f64 r, .float .f64 s] 85 (0, 0)) := by rw [hW1]; exact ((heap_alloc_old _ _ (by first | omega | (simp <;> omega))).trans (alloc_at (by simp)))
  have X1 : W1.heap[w.heap.size + 1]? = some (.cells #[.float .f64 p, .float .f64 q, .float .f64 r, .float .f64 s] 89 (0, 0)) := by rw [hW1]; exact (alloc_at (by simp))
  have z0 : w.heap.size < W1.heap.size := by rw [hW1]; simp <;> omega
  have z1 : w.heap.size + 1 < W1.heap.size := by rw [hW1]; simp <;> omega
  have B : Below w.heap.size w W1 := by rw [hW1]; exact (below_trans (below_trans (Below.refl w.heap.size w) (below_alloc _ _)) (below_alloc _ _))
  clear hW1
  obtain ⟨f0_0, f0_1, f0_2, f0_3, y0_0, y0_1, y0_2, y0_3⟩ := bx4 X0
  obtain ⟨f1_0, f1_1, f1_2, f1_3, y1_0, y1_1, y1_2, y1_3⟩ := bx4 X1
  refine region_lin (.val (kIs (.agg #[.float .f64 p, .float .f64 q, .float .f64 r, .float .f64 s])) :: .val (kIs (.complex .f64 p r)) :: .val (kIs (.float .f64 p)) :: .val (kIs (.pointer (some ⟨w.heap.size + 1, 0, none⟩))) :: .val (kIs (.pointer (some ⟨w.heap.size + 1, 0, none⟩))) :: .val (kIs (.float .f64 p)) :: .val (kIs (.bool true)) :: .val (kIs (.bool true)) :: .val (kIs (.agg #[.float .f64 p, .float .f64 q, .float .f64 r, .float .f64 s])) :: .val (kIs (.complex .f64 p r)) :: .val (kIs (.float .f64 r)) :: .val (kIs (.pointer (some ⟨w.heap.size + 1, 2, none⟩))) :: .val (kIs (.pointer (some ⟨w.heap.size + 1, 2, none⟩))) :: .val (kIs (.float .f64 r)) :: .val (kIs (.bool true)) :: .val (kIs (.bool true)) :: .val (kIs (.bool true)) :: .val (kIs (.agg #[.float .f64 p, .float .f64 q, .float .f64 r, .float .f64 s])) :: .val (kIs (.complex .f64 q s)) :: .val (kIs (.float .f64 q)) :: .val (kIs (.pointer (some ⟨w.heap.size + 1, 0, none⟩))) :: .val (kIs (.pointer (some ⟨w.heap.size + 1, 1, none⟩))) :: .val (kIs (.float .f64 q)) :: .val (kIs (.bool true)) :: .val (kIs (.bool true)) :: .val (kIs (.bool true)) :: .val (kIs (.agg #[.float .f64 p, .float .f64 q, .float .f64 r, .float .f64 s])) :: .val (kIs (.complex .f64 q s)) :: .val (kIs (.float .f64 s)) :: .val (kIs (.pointer (some ⟨w.heap.size + 1, 2, none⟩))) :: .val (kIs (.pointer (some ⟨w.heap.size + 1, 3, none⟩))) :: .val (kIs (.float .f64 s)) :: .val (kIs (.bool true)) :: .val (kIs (.bool true)) :: .val (kIs (.bool true)) :: [])
    (by kernel_rfl) (by kernel_rfl) (by kernel_rfl) (by kernel_rfl) (by kernel_rfl) ⟨Stab.b (stab_is _), Stab.b (stab_is _), Stab.b (stab_is _), Stab.b (stab_is _), Stab.b (stab_is _), Stab.b (stab_is _), Stab.b (stab_is _), Stab.b (stab_is _), Stab.b (stab_is _), Stab.b (stab_is _), Stab.b (stab_is _), Stab.b (stab_is _), Stab.b (stab_is _), Stab.b (stab_is _), Stab.b (stab_is _), Stab.b (stab_is _), Stab.b (stab_is _), Stab.b (stab_is _), Stab.b (stab_is _), Stab.b (stab_is _), Stab.b (stab_is _), Stab.b (stab_is _), Stab.b (stab_is _), Stab.b (stab_is _), Stab.b (stab_is _), Stab.b (stab_is _), Stab.b (stab_is _), Stab.b (stab_is _), Stab.b (stab_is _), Stab.b (stab_is _), Stab.b (stab_is _), Stab.b (stab_is _), Stab.b (stab_is _), Stab.b (stab_is _), Stab.b (stab_is _), trivial⟩ (by simp) ⟨?_, ?_, ?_, ?_, ?_, ?_, ?_, ?_, ?_, ?_, ?_, ?_, ?_, ?_, ?_, ?_, ?_, ?_, ?_, ?_, ?_, ?_, ?_, ?_, ?_, ?_, ?_, ?_, ?_, ?_, ?_, ?_, ?_, ?_, ?_, trivial⟩ ?_
  · intro ts W hb hB hp; intro K hK; simp only [fillT, Nat.zero_add, Nat.reduceAdd, sA, sB, sC] at hK ⊢; have HK := hid hK; clear hK hp; obtain ⟨p0, p1, p2, p3, -, -, -, -⟩ := bx4 ((hb.block _ z0).trans X0); refine ⟨?_⟩; go_simp; exact HK.out _ _ kk rfB
  · intro ts W hb hB hp; have h0 : ts 0 = _ := hp 0 (by kernel_rfl); intro K hK; simp only [fillT, Nat.zero_add, Nat.reduceAdd, sA, sB, sC, h0] at hK ⊢; have HK := hid hK; clear hK hp; refine ⟨?_⟩; go_simp; refine (lo_any p q r s _).mono ?_; rintro e W9 ⟨rfl, hb9⟩; exact HK.out _ _ rfl hb9
  · intro ts W hb hB hp; have h1 : ts 1 = _ := hp 1 (by kernel_rfl); intro K hK; simp only [fillT, Nat.zero_add, Nat.reduceAdd, sA, sB, sC, h1] at hK ⊢; have HK := hid hK; clear hK hp; refine ⟨?_⟩; go_simp; exact HK.out _ _ kk rfB
  · exact obq
  · intro ts W hb hB hp; have h3 : ts 3 = _ := hp 3 (by kernel_rfl); intro K hK; simp only [fillT, Nat.zero_add, Nat.reduceAdd, sA, sB, sC, h3] at hK ⊢; have HK := hid hK; clear hK hp; refine ⟨?_⟩; go_simp; exact HK.out _ _ kk rfB
  · intro ts W hb hB hp; have h4 : ts 4 = _ := hp 4 (by kernel_rfl); intro K hK; simp only [fillT, Nat.zero_add, Nat.reduceAdd, sA, sB, sC, h4] at hK ⊢; have HK := hid hK; clear hK hp; obtain ⟨p0, p1, p2, p3, -, -, -, -⟩ := bx4 ((hb.block _ z1).trans X1); refine ⟨?_⟩; go_simp; exact HK.out _ _ kk rfB
  · intro ts W hb hB hp; have h2 : ts 2 = _ := hp 2 (by kernel_rfl); have h5 : ts 5 = _ := hp 5 (by kernel_rfl); intro K hK; simp only [fillT, Nat.zero_add, Nat.reduceAdd, sA, sB, sC, h2, h5] at hK ⊢; have HK := hid hK; clear hK hp; refine ⟨?_⟩; go_simp; refine (equal_self p _).mono ?_; rintro e W9 ⟨rfl, rfl⟩; exact HK.out _ _ rfl rfB
  · intro ts W hb hB hp; have h6 : ts 6 = _ := hp 6 (by kernel_rfl); intro K hK; simp only [fillT, Nat.zero_add, Nat.reduceAdd, sA, sB, sC, h6] at hK ⊢; have HK := hid hK; clear hK hp; refine ⟨?_⟩; go_simp; exact HK.out _ _ kk rfB
  · intro ts W hb hB hp; have h7 : ts 7 = _ := hp 7 (by kernel_rfl); refine Guarded.on h7 ?_; clear h7; intro K hK; simp only [fillT, Nat.zero_add, Nat.reduceAdd, sA, sB, sC] at hK ⊢; have HK := hid hK; clear hK hp; obtain ⟨p0, p1, p2, p3, -, -, -, -⟩ := bx4 ((hb.block _ z0).trans X0); refine ⟨?_⟩; go_simp; exact HK.out _ _ kk rfB
  · intro ts W hb hB hp; have h8 : ts 8 = _ := hp 8 (by kernel_rfl); have h7 : ts 7 = _ := hp 7 (by kernel_rfl); refine Guarded.on h7 ?_; clear h7; intro K hK; simp only [fillT, Nat.zero_add, Nat.reduceAdd, sA, sB, sC, h8] at hK ⊢; have HK := hid hK; clear hK hp; refine ⟨?_⟩; go_simp; refine (lo_any p q r s _).mono ?_; rintro e W9 ⟨rfl, hb9⟩; exact HK.out _ _ rfl hb9
  · intro ts W hb hB hp; have h9 : ts 9 = _ := hp 9 (by kernel_rfl); have h7 : ts 7 = _ := hp 7 (by kernel_rfl); refine Guarded.on h7 ?_; clear h7; intro K hK; simp only [fillT, Nat.zero_add, Nat.reduceAdd, sA, sB, sC, h9] at hK ⊢; have HK := hid hK; clear hK hp; refine ⟨?_⟩; go_simp; exact HK.out _ _ kk rfB
  · intro ts W hb hB hp; have h7 : ts 7 = _ := hp 7 (by kernel_rfl); refine Guarded.on h7 ?_; clear h7; intro K hK; simp only [fillT, Nat.zero_add, Nat.reduceAdd, sA, sB, sC] at hK ⊢; have HK := hid hK; clear hK hp; refine ⟨?_⟩; go_simp; exact HK.out _ _ kk rfB
  · intro ts W hb hB hp; have h11 : ts 11 = _ := hp 11 (by kernel_rfl); have h7 : ts 7 = _ := hp 7 (by kernel_rfl); refine Guarded.on h7 ?_; clear h7; intro K hK; simp only [fillT, Nat.zero_add, Nat.reduceAdd, sA, sB, sC, h11] at hK ⊢; have HK := hid hK; clear hK hp; refine ⟨?_⟩; go_simp; exact HK.out _ _ kk rfB
  · intro ts W hb hB hp; have h12 : ts 12 = _ := hp 12 (by kernel_rfl); have h7 : ts 7 = _ := hp 7 (by kernel_rfl); refine Guarded.on h7 ?_; clear h7; intro K hK; simp only [fillT, Nat.zero_add, Nat.reduceAdd, sA, sB, sC, h12] at hK ⊢; have HK := hid hK; clear hK hp; obtain ⟨p0, p1, p2, p3, -, -, -, -⟩ := bx4 ((hb.block _ z1).trans X1); refine ⟨?_⟩; go_simp; exact HK.out _ _ kk rfB
  · intro ts W hb hB hp; have h10 : ts 10 = _ := hp 10 (by kernel_rfl); have h13 : ts 13 = _ := hp 13 (by kernel_rfl); have h7 : ts 7 = _ := hp 7 (by kernel_rfl); refine Guarded.on h7 ?_; clear h7; intro K hK; simp only [fillT, Nat.zero_add, Nat.reduceAdd, sA, sB, sC, h10, h13] at hK ⊢; have HK := hid hK; clear hK hp; refine ⟨?_⟩; go_simp; refine (equal_self r _).mono ?_; rintro e W9 ⟨rfl, rfl⟩; exact HK.out _ _ rfl rfB
  · intro ts W hb hB hp; have h7 : ts 7 = _ := hp 7 (by kernel_rfl); have h14 : ts 14 = _ := hp 14 (by kernel_rfl); intro K hK; simp only [fillT, Nat.zero_add, Nat.reduceAdd, sA, sB, sC, h7, h14] at hK ⊢; have HK := hid hK; clear hK hp; refine ⟨?_⟩; go_simp; exact HK.out _ _ kk rfB
  · intro ts W hb hB hp; have h15 : ts 15 = _ := hp 15 (by kernel_rfl); intro K hK; simp only [fillT, Nat.zero_add, Nat.reduceAdd, sA, sB, sC, h15] at hK ⊢; have HK := hid hK; clear hK hp; refine ⟨?_⟩; go_simp; exact HK.out _ _ kk rfB
  · intro ts W hb hB hp; have h16 : ts 16 = _ := hp 16 (by kernel_rfl); refine Guarded.on h16 ?_; clear h16; intro K hK; simp only [fillT, Nat.zero_add, Nat.reduceAdd, sA, sB, sC] at hK ⊢; have HK := hid hK; clear hK hp; obtain ⟨p0, p1, p2, p3, -, -, -, -⟩ := bx4 ((hb.block _ z0).trans X0); refine ⟨?_⟩; go_simp; exact HK.out _ _ kk rfB
  · intro ts W hb hB hp; have h17 : ts 17 = _ := hp 17 (by kernel_rfl); have h16 : ts 16 = _ := hp 16 (by kernel_rfl); refine Guarded.on h16 ?_; clear h16; intro K hK; simp only [fillT, Nat.zero_add, Nat.reduceAdd, sA, sB, sC, h17] at hK ⊢; have HK := hid hK; clear hK hp; refine ⟨?_⟩; go_simp; refine (hi_any p q r s _).mono ?_; rintro e W9 ⟨rfl, hb9⟩; exact HK.out _ _ rfl hb9
  · intro ts W hb hB hp; have h18 : ts 18 = _ := hp 18 (by kernel_rfl); have h16 : ts 16 = _ := hp 16 (by kernel_rfl); refine Guarded.on h16 ?_; clear h16; intro K hK; simp only [fillT, Nat.zero_add, Nat.reduceAdd, sA, sB, sC, h18] at hK ⊢; have HK := hid hK; clear hK hp; refine ⟨?_⟩; go_simp; exact HK.out _ _ kk rfB
  · intro ts W hb hB hp; have h16 : ts 16 = _ := hp 16 (by kernel_rfl); refine Guarded.on h16 ?_; clear h16; intro K hK; simp only [fillT, Nat.zero_add, Nat.reduceAdd, sA, sB, sC] at hK ⊢; have HK := hid hK; clear hK hp; refine ⟨?_⟩; go_simp; exact HK.out _ _ kk rfB
  · intro ts W hb hB hp; have h20 : ts 20 = _ := hp 20 (by kernel_rfl); have h16 : ts 16 = _ := hp 16 (by kernel_rfl); refine Guarded.on h16 ?_; clear h16; intro K hK; simp only [fillT, Nat.zero_add, Nat.reduceAdd, sA, sB, sC, h20] at hK ⊢; have HK := hid hK; clear hK hp; refine ⟨?_⟩; go_simp; exact HK.out _ _ kk rfB
  · intro ts W hb hB hp; have h21 : ts 21 = _ := hp 21 (by kernel_rfl); have h16 : ts 16 = _ := hp 16 (by kernel_rfl); refine Guarded.on h16 ?_; clear h16; intro K hK; simp only [fillT, Nat.zero_add, Nat.reduceAdd, sA, sB, sC, h21] at hK ⊢; have HK := hid hK; clear hK hp; obtain ⟨p0, p1, p2, p3, -, -, -, -⟩ := bx4 ((hb.block _ z1).trans X1); refine ⟨?_⟩; go_simp; exact HK.out _ _ kk rfB
  · intro ts W hb hB hp; have h19 : ts 19 = _ := hp 19 (by kernel_rfl); have h22 : ts 22 = _ := hp 22 (by kernel_rfl); have h16 : ts 16 = _ := hp 16 (by kernel_rfl); refine Guarded.on h16 ?_; clear h16; intro K hK; simp only [fillT, Nat.zero_add, Nat.reduceAdd, sA, sB, sC, h19, h22] at hK ⊢; have HK := hid hK; clear hK hp; refine ⟨?_⟩; go_simp; refine (equal_self q _).mono ?_; rintro e W9 ⟨rfl, rfl⟩; exact HK.out _ _ rfl rfB
  · intro ts W hb hB hp; have h16 : ts 16 = _ := hp 16 (by kernel_rfl); have h23 : ts 23 = _ := hp 23 (by kernel_rfl); intro K hK; simp only [fillT, Nat.zero_add, Nat.reduceAdd, sA, sB, sC, h16, h23] at hK ⊢; have HK := hid hK; clear hK hp; refine ⟨?_⟩; go_simp; exact HK.out _ _ kk rfB
  · intro ts W hb hB hp; have h24 : ts 24 = _ := hp 24 (by kernel_rfl); intro K hK; simp only [fillT, Nat.zero_add, Nat.reduceAdd, sA, sB, sC, h24] at hK ⊢; have HK := hid hK; clear hK hp; refine ⟨?_⟩; go_simp; exact HK.out _ _ kk rfB
  · intro ts W hb hB hp; have h25 : ts 25 = _ := hp 25 (by kernel_rfl); refine Guarded.on h25 ?_; clear h25; intro K hK; simp only [fillT, Nat.zero_add, Nat.reduceAdd, sA, sB, sC] at hK ⊢; have HK := hid hK; clear hK hp; obtain ⟨p0, p1, p2, p3, -, -, -, -⟩ := bx4 ((hb.block _ z0).trans X0); refine ⟨?_⟩; go_simp; exact HK.out _ _ kk rfB
  · intro ts W hb hB hp; have h26 : ts 26 = _ := hp 26 (by kernel_rfl); have h25 : ts 25 = _ := hp 25 (by kernel_rfl); refine Guarded.on h25 ?_; clear h25; intro K hK; simp only [fillT, Nat.zero_add, Nat.reduceAdd, sA, sB, sC, h26] at hK ⊢; have HK := hid hK; clear hK hp; refine ⟨?_⟩; go_simp; refine (hi_any p q r s _).mono ?_; rintro e W9 ⟨rfl, hb9⟩; exact HK.out _ _ rfl hb9
  · intro ts W hb hB hp; have h27 : ts 27 = _ := hp 27 (by kernel_rfl); have h25 : ts 25 = _ := hp 25 (by kernel_rfl); refine Guarded.on h25 ?_; clear h25; intro K hK; simp only [fillT, Nat.zero_add, Nat.reduceAdd, sA, sB, sC, h27] at hK ⊢; have HK := hid hK; clear hK hp; refine ⟨?_⟩; go_simp; exact HK.out _ _ kk rfB
  · intro ts W hb hB hp; have h25 : ts 25 = _ := hp 25 (by kernel_rfl); refine Guarded.on h25 ?_; clear h25; intro K hK; simp only [fillT, Nat.zero_add, Nat.reduceAdd, sA, sB, sC] at hK ⊢; have HK := hid hK; clear hK hp; refine ⟨?_⟩; go_simp; exact HK.out _ _ kk rfB
  · intro ts W hb hB hp; have h29 : ts 29 = _ := hp 29 (by kernel_rfl); have h25 : ts 25 = _ := hp 25 (by kernel_rfl); refine Guarded.on h25 ?_; clear h25; intro K hK; simp only [fillT, Nat.zero_add, Nat.reduceAdd, sA, sB, sC, h29] at hK ⊢; have HK := hid hK; clear hK hp; refine ⟨?_⟩; go_simp; exact HK.out _ _ kk rfB
  · intro ts W hb hB hp; have h30 : ts 30 = _ := hp 30 (by kernel_rfl); have h25 : ts 25 = _ := hp 25 (by kernel_rfl); refine Guarded.on h25 ?_; clear h25; intro K hK; simp only [fillT, Nat.zero_add, Nat.reduceAdd, sA, sB, sC, h30] at hK ⊢; have HK := hid hK; clear hK hp; obtain ⟨p0, p1, p2, p3, -, -, -, -⟩ := bx4 ((hb.block _ z1).trans X1); refine ⟨?_⟩; go_simp; exact HK.out _ _ kk rfB
  · intro ts W hb hB hp; have h28 : ts 28 = _ := hp 28 (by kernel_rfl); have h31 : ts 31 = _ := hp 31 (by kernel_rfl); have h25 : ts 25 = _ := hp 25 (by kernel_rfl); refine Guarded.on h25 ?_; clear h25; intro K hK; simp only [fillT, Nat.zero_add, Nat.reduceAdd, sA, sB, sC, h28, h31] at hK ⊢; have HK := hid hK; clear hK hp; refine ⟨?_⟩; go_simp; refine (equal_self s _).mono ?_; rintro e W9 ⟨rfl, rfl⟩; exact HK.out _ _ rfl rfB
  · intro ts W hb hB hp; have h25 : ts 25 = _ := hp 25 (by kernel_rfl); have h32 : ts 32 = _ := hp 32 (by kernel_rfl); intro K hK; simp only [fillT, Nat.zero_add, Nat.reduceAdd, sA, sB, sC, h25, h32] at hK ⊢; have HK := hid hK; clear hK hp; refine ⟨?_⟩; go_simp; exact HK.out _ _ kk rfB
  · intro ts W hb hB hp; have h33 : ts 33 = _ := hp 33 (by kernel_rfl); intro K hK; simp only [fillT, Nat.zero_add, Nat.reduceAdd, sA, sB, sC, h33] at hK ⊢; have HK := hid hK; clear hK hp; refine ⟨?_⟩; go_simp; exact HK.out _ _ kk rfB
  intro ts W2 hb2 hh hap
  have e0 := held_is (hh 0 (by simp)) rfl
  have e1 := held_is (hh 1 (by simp)) rfl
  have e2 := held_is (hh 2 (by simp)) rfl
  have e3 := held_is (hh 3 (by simp)) rfl
  have e4 := held_is (hh 4 (by simp)) rfl
  have e5 := held_is (hh 5 (by simp)) rfl
  have e6 := held_is (hh 6 (by simp)) rfl
  have e7 := held_is (hh 7 (by simp)) rfl
  have e8 := held_is (hh 8 (by simp)) rfl
  have e9 := held_is (hh 9 (by simp)) rfl
  have e10 := held_is (hh 10 (by simp)) rfl
  have e11 := held_is (hh 11 (by simp)) rfl
  have e12 := held_is (hh 12 (by simp)) rfl
  have e13 := held_is (hh 13 (by simp)) rfl
  have e14 := held_is (hh 14 (by simp)) rfl
  have e15 := held_is (hh 15 (by simp)) rfl
  have e16 := held_is (hh 16 (by simp)) rfl
  have e17 := held_is (hh 17 (by simp)) rfl
  have e18 := held_is (hh 18 (by simp)) rfl
  have e19 := held_is (hh 19 (by simp)) rfl
  have e20 := held_is (hh 20 (by simp)) rfl
  have e21 := held_is (hh 21 (by simp)) rfl
  have e22 := held_is (hh 22 (by simp)) rfl
  have e23 := held_is (hh 23 (by simp)) rfl
  have e24 := held_is (hh 24 (by simp)) rfl
  have e25 := held_is (hh 25 (by simp)) rfl
  have e26 := held_is (hh 26 (by simp)) rfl
  have e27 := held_is (hh 27 (by simp)) rfl
  have e28 := held_is (hh 28 (by simp)) rfl
  have e29 := held_is (hh 29 (by simp)) rfl
  have e30 := held_is (hh 30 (by simp)) rfl
  have e31 := held_is (hh 31 (by simp)) rfl
  have e32 := held_is (hh 32 (by simp)) rfl
  have e33 := held_is (hh 33 (by simp)) rfl
  have e34 := held_is (hh 34 (by simp)) rfl
  simp only [fillT, Nat.zero_add, Nat.reduceAdd, sA, sB, sC, e0, e1, e2, e3, e4, e5, e6, e7, e8, e9, e10, e11, e12, e13, e14, e15, e16, e17, e18, e19, e20, e21, e22, e23, e24, e25, e26, e27, e28, e29, e30, e31, e32, e33, e34]
  clear hh hap e0 e1 e2 e3 e4 e5 e6 e7 e8 e9 e10 e11 e12 e13 e14 e15 e16 e17 e18 e19 e20 e21 e22 e23 e24 e25 e26 e27 e28 e29 e30 e31 e32 e33 e34
  replace X0 := (hb2.block _ z0).trans X0
  replace z0 := Nat.lt_of_lt_of_le z0 hb2.size
  replace X1 := (hb2.block _ z1).trans X1
  replace z1 := Nat.lt_of_lt_of_le z1 hb2.size
  replace B := below_trans B hb2
  clear hb2
  clear f0_0 f0_1 f0_2 f0_3 y0_0 y0_1 y0_2 y0_3 f1_0 f1_1 f1_2 f1_3 y1_0 y1_1 y1_2 y1_3
  obtain ⟨f0_0, f0_1, f0_2, f0_3, y0_0, y0_1, y0_2, y0_3⟩ := bx4 X0
  obtain ⟨f1_0, f1_1, f1_2, f1_3, y1_0, y1_1, y1_2, y1_3⟩ := bx4 X1
  go_wp2
  go_ret
  exact ⟨rfl, B⟩
theorem equalF (n x y : Nat) (W : World) : (Op.equalIn (n + 1) 49 (.float .f64 x) (.float .f64 y)).run Tryz.prog W = .ok (FloatKind.f64.format.order x y == some Ordering.eq) W := by
  simp [Op.equalIn, go_sem]
  rfl
theorem same_box (p q r s : Nat) (w : World) (h1 : (FloatKind.f64.format.order p p == some Ordering.eq) = true) (h2 : (FloatKind.f64.format.order q q == some Ordering.eq) = true) (h3 : (FloatKind.f64.format.order r r == some Ordering.eq) = true) (h4 : (FloatKind.f64.format.order s s == some Ordering.eq) = true) :
    Calls Tryz.prog 42 #[.agg #[.float .f64 p, .float .f64 q, .float .f64 r, .float .f64 s], .agg #[.float .f64 p, .float .f64 q, .float .f64 r, .float .f64 s]] w fun e w' => e = .returned (.bool true) ∧ Below w.heap.size w w' := by
  have e1 := fun x y W => equalF 9997 x y W
  have e2 := fun x y W => equalF 9998 x y W
  have e3 := fun x y W => equalF 9996 x y W
  simp only [Nat.reduceAdd] at e1 e2 e3
  go_enter Tryz.func42, Tryz.ntmps42
  go_wp2
  go_ret
  exact ⟨rfl, below_trans (below_alloc _ _) (below_alloc _ _)⟩
theorem parts_any (p q r s : Nat) (w : World) : Calls Tryz.prog 40 #[.agg #[.float .f64 p, .float .f64 q, .float .f64 r, .float .f64 s]] w fun e w' => e = .returned (.tuple #[.agg #[.float .f64 p, .float .f64 q], .agg #[.float .f64 r, .float .f64 s]]) ∧ Below w.heap.size w w' := by
  have hsf := store_float
  go_enter Tryz.func40, Tryz.ntmps40
  go_upto_region 1 with fail
  obtain ⟨W1, hW1⟩ : ∃ W : World, W = ((w.alloc (.cells #[.float .f64 p, .float .f64 q, .float .f64 r, .float .f64 s] 85)).alloc (.cells #[.float .f64 0, .float .f64 0] 65)).alloc (.cells #[.float .f64 0, .float .f64 0] 65) := ⟨_, rfl⟩
  rw [← hW1]
  have X := boxes3 w (.cells #[.float .f64 p, .float .f64 q, .float .f64 r, .float .f64 s] 85) (.cells #[.float .f64 0, .float .f64 0] 65) (.cells #[.float .f64 0, .float .f64 0] 65)
  rw [← hW1] at X
  obtain ⟨X0, z0, X1, z1, X2, z2⟩ := X
  have B : Below w.heap.size w W1 := by rw [hW1]; exact below_trans (below_trans (below_alloc _ _) (below_alloc _ _)) (below_alloc _ _)
  clear hW1
  obtain ⟨f0, f1, f2, f3, y0, y1, y2, y3⟩ := bx4 X0
  obtain ⟨g0, g1, u0, u1⟩ := bx2 X1
  obtain ⟨k0, k1, v0, v1⟩ := bx2 X2
  have n1 : w.heap.size ≠ w.heap.size + 1 := by omega
  have n2 : w.heap.size + 1 ≠ w.heap.size := by omega
  have n3 : w.heap.size ≠ w.heap.size + 1 + 1 := by omega
  have n4 : w.heap.size + 1 + 1 ≠ w.heap.size := by omega
  have n5 : w.heap.size + 1 ≠ w.heap.size + 1 + 1 := by omega
  have n6 : w.heap.size + 1 + 1 ≠ w.heap.size + 1 := by omega
  go_region_held3 (fun w' => w'.cell? ⟨w.heap.size, 0, none⟩ = some (.float .f64 p) ∧ w'.cell? ⟨w.heap.size, 1, none⟩ = some (.float .f64 q) ∧ w'.cell? ⟨w.heap.size, 2, none⟩ = some (.float .f64 r) ∧ w'.cell? ⟨w.heap.size, 3, none⟩ = some (.float .f64 s)) (go_keep) (fail)
  go_wp2
  refine bodyPost_ret (v := .tuple #[.agg #[.float .f64 p, .float .f64 q], .agg #[.float .f64 r, .float .f64 s]]) (by simp [results, Tryz.results40, go_sem, g0, g1, k0, k1, n5, n6]) rfl ?_
  exact ⟨rfl, Below.drew (Below.setCell (p := ⟨w.heap.size + 1 + 1, 1, none⟩) (Below.setCell (p := ⟨w.heap.size + 1 + 1, 0, none⟩) (Below.setCell (p := ⟨w.heap.size + 1, 1, none⟩) (Below.setCell (p := ⟨w.heap.size + 1, 0, none⟩) B (show w.heap.size ≤ w.heap.size + 1 by omega) _) (show w.heap.size ≤ w.heap.size + 1 by omega) _) (show w.heap.size ≤ w.heap.size + 1 + 1 by omega) _) (show w.heap.size ≤ w.heap.size + 1 + 1 by omega) _)⟩
end Go.Proofs.YtphlmmjlpbledaaGreatDoor
namespace Go.Proofs.YtphlmmjlpbledaaGreatDoor
open Go.RowKit
set_option maxRecDepth 100000

def mkK (a b c d : Nat) : Int := if msK a c = 1 ∨ msK b d = 1 then 1 else if msK a c = 0 ∧ msK b d = 0 then 0 else 7
def mk1 (a b c d x : Nat) : Nat := if mkK a b c d = 0 then x else 0
theorem msK_or (a b : Nat) : msK a b = 0 ∨ msK a b = 1 ∨ msK a b = 7 := by unfold msK; split <;> (try split) <;> simp
theorem msK_may (a b : Nat) : mayB a b = decide (msK a b ≠ 1) := by
  unfold msK
  cases mayB a b
  · rfl
  · cases gtb a b <;> rfl
set_option maxHeartbeats 2000000 in
theorem rmakeB_any (a b c d : Nat) (w : World) : Calls Tryz.prog 39 #[.complex .f64 a b, .complex .f64 c d] w fun e w' => e = .returned (.tuple #[.agg #[.float .f64 (mk1 a b c d (msL a c)), .float .f64 (mk1 a b c d (msH a c)), .float .f64 (mk1 a b c d (msL b d)), .float .f64 (mk1 a b c d (msH b d))], .int .i64 (mkK a b c d)]) ∧ Below w.heap.size w w' := by
  have hsf := store_float
  have H1 := hid (fun W => rmakeSpan_any a c W)
  have H2 := hid (fun W => rmakeSpan_any b d W)
  have k1 := msK_or a c
  have k2 := msK_or b d
  unfold mk1 mkK
  generalize msL a c = l1 at *
  generalize msH a c = h1 at *
  generalize msK a c = e1 at *
  generalize msL b d = l2 at *
  generalize msH b d = h2 at *
  generalize msK b d = e2 at *
  rcases k1 with rfl | rfl | rfl <;> rcases k2 with rfl | rfl | rfl <;> (
    simp only [Int.reduceEq, or_self, or_true, true_or, or_false, false_or, and_self, and_true, true_and, and_false, false_and, if_true, if_false, reduceIte]
    go_enter Tryz.func39, Tryz.ntmps39
    go_wp2_with fail
    refine (H1.out _).mono ?_
    rintro e W1 ⟨rfl, hb1⟩
    have X0 := (hb1.block w.heap.size (by simp)).trans (heap_alloc_new w _)
    have z0 : w.heap.size < W1.heap.size := Nat.lt_of_lt_of_le (by simp) hb1.size
    have B := below_trans (below_alloc w _) hb1
    clear hb1
    go_wp2_with fail
    refine (H2.out _).mono ?_
    rintro e W2 ⟨rfl, hb2⟩
    have X6 := (hb2.block W1.heap.size (by simp)).trans (heap_alloc_new W1 _)
    have z6 : W1.heap.size < W2.heap.size := Nat.lt_of_lt_of_le (by simp) hb2.size
    replace X0 := (hb2.block w.heap.size (by simp; omega)).trans ((heap_alloc_old W1 _ z0).trans X0)
    replace B := below_trans (below_trans B (below_alloc _ _)) hb2
    clear hb2
    go_upto_region 3 with fail
    obtain ⟨W3, hW3⟩ : ∃ W : World, W = W2.alloc (.cells #[.float .f64 l2, .float .f64 h2] 69) := ⟨_, rfl⟩
    rw [← hW3]
    have X8 : W3.heap[W2.heap.size]? = some (.cells #[.float .f64 l2, .float .f64 h2] 69 (0, 0)) := by rw [hW3]; exact heap_alloc_new W2 _
    replace X6 := (show W3.heap[W1.heap.size]? = W2.heap[W1.heap.size]? by rw [hW3]; exact heap_alloc_old W2 _ z6).trans X6
    replace X0 := (show W3.heap[w.heap.size]? = W2.heap[w.heap.size]? by rw [hW3]; exact heap_alloc_old W2 _ (by omega)).trans X0
    replace B : Below w.heap.size w W3 := by rw [hW3]; exact below_trans B (below_alloc _ _)
    clear hW3
    obtain ⟨f0, f1, f2, f3, y0, y1, y2, y3⟩ := bx4 X0
    obtain ⟨g0, g1, u0, u1⟩ := bx2 X6
    obtain ⟨j0, j1, v0, v1⟩ := bx2 X8
    clear X0 X6 X8
    go_wp2
    first
      | (refine bodyPost_ret (v := .tuple #[.agg #[.float .f64 l1, .float .f64 h1, .float .f64 l2, .float .f64 h2], .int .i64 0]) (by simp [results, Tryz.results39, go_sem, f0, f1, f2, f3]) rfl ?_; refine ⟨rfl, ?_⟩)
      | (refine bodyPost_ret (v := .tuple #[.agg #[.float .f64 0, .float .f64 0, .float .f64 0, .float .f64 0], .int .i64 1]) (by simp [results, Tryz.results39, go_sem, f0, f1, f2, f3]) rfl ?_; refine ⟨rfl, ?_⟩)
      | (refine bodyPost_ret (v := .tuple #[.agg #[.float .f64 0, .float .f64 0, .float .f64 0, .float .f64 0], .int .i64 7]) (by simp [results, Tryz.results39, go_sem, f0, f1, f2, f3]) rfl ?_; refine ⟨rfl, ?_⟩)
    exact Below.setCell (p := ⟨w.heap.size, 3, none⟩) (Below.setCell (p := ⟨w.heap.size, 2, none⟩) (Below.setCell (p := ⟨w.heap.size, 1, none⟩) (Below.setCell (p := ⟨w.heap.size, 0, none⟩) B (Nat.le_refl _) _) (Nat.le_refl _) _) (Nat.le_refl _) _) (Nat.le_refl _) _)
set_option maxHeartbeats 2000000 in
theorem makeB_any (a b c d : Nat) (w : World) : Calls Tryz.prog 38 #[.complex .f64 a b, .complex .f64 c d] w fun e w' => e = .returned (.tuple #[.agg #[.float .f64 (mk1 a b c d (msL a c)), .float .f64 (mk1 a b c d (msH a c)), .float .f64 (mk1 a b c d (msL b d)), .float .f64 (mk1 a b c d (msH b d))], .int .i64 (mkK a b c d)]) ∧ Below w.heap.size w w' := by
  have hsf := store_float
  have H1 := hid (fun W => makeSpan_any a c W)
  have H2 := hid (fun W => makeSpan_any b d W)
  have HM := hid (fun W => msK_may b d ▸ mayEnd_any b d W)
  have k1 := msK_or a c
  have k2 := msK_or b d
  unfold mk1 mkK
  generalize msL a c = l1 at *
  generalize msH a c = h1 at *
  generalize msK a c = e1 at *
  generalize msL b d = l2 at *
  generalize msH b d = h2 at *
  generalize msK b d = e2 at *
  rcases (show e1 = 1 ∨ (e1 = 0 ∨ e1 = 7) by omega) with rfl | k1
  · simp only [Int.reduceEq, or_self, or_true, true_or, or_false, false_or, and_self, and_true, true_and, and_false, false_and, if_true, if_false, reduceIte]
    go_enter Tryz.func38, Tryz.ntmps38
    go_wp2_with fail
    refine (H1.out _).mono ?_
    rintro e W1 ⟨rfl, hb1⟩
    have X0 := (hb1.block w.heap.size (by simp)).trans (heap_alloc_new w _)
    have z0 : w.heap.size < W1.heap.size := Nat.lt_of_lt_of_le (by simp) hb1.size
    have B := below_trans (below_alloc w _) hb1
    clear hb1
    go_upto_region 3 with fail
    obtain ⟨W3, hW3⟩ : ∃ W : World, W = W1.alloc (.cells #[.float .f64 l1, .float .f64 h1] 65) := ⟨_, rfl⟩
    rw [← hW3]
    replace X0 := (show W3.heap[w.heap.size]? = W1.heap[w.heap.size]? by rw [hW3]; exact heap_alloc_old W1 _ z0).trans X0
    replace B : Below w.heap.size w W3 := by rw [hW3]; exact below_trans B (below_alloc _ _)
    clear hW3
    obtain ⟨f0, f1, f2, f3, y0, y1, y2, y3⟩ := bx4 X0
    clear X0
    go_wp2
    first
      | (refine bodyPost_ret (v := .tuple #[.agg #[.float .f64 l1, .float .f64 h1, .float .f64 l2, .float .f64 h2], .int .i64 0]) (by simp [results, Tryz.results38, go_sem, f0, f1, f2, f3]) rfl ?_; refine ⟨rfl, ?_⟩)
      | (refine bodyPost_ret (v := .tuple #[.agg #[.float .f64 0, .float .f64 0, .float .f64 0, .float .f64 0], .int .i64 1]) (by simp [results, Tryz.results38, go_sem, f0, f1, f2, f3]) rfl ?_; refine ⟨rfl, ?_⟩)
      | (refine bodyPost_ret (v := .tuple #[.agg #[.float .f64 0, .float .f64 0, .float .f64 0, .float .f64 0], .int .i64 7]) (by simp [results, Tryz.results38, go_sem, f0, f1, f2, f3]) rfl ?_; refine ⟨rfl, ?_⟩)
    exact Below.setCell (p := ⟨w.heap.size, 3, none⟩) (Below.setCell (p := ⟨w.heap.size, 2, none⟩) (Below.setCell (p := ⟨w.heap.size, 1, none⟩) (Below.setCell (p := ⟨w.heap.size, 0, none⟩) B (Nat.le_refl _) _) (Nat.le_refl _) _) (Nat.le_refl _) _) (Nat.le_refl _) _
  rcases (show e2 = 1 ∨ (e2 = 0 ∨ e2 = 7) by omega) with rfl | k2
  · rcases k1 with rfl | rfl <;> (
    simp only [Int.reduceEq, or_self, or_true, true_or, or_false, false_or, and_self, and_true, true_and, and_false, false_and, if_true, if_false, reduceIte]
    go_enter Tryz.func38, Tryz.ntmps38
    go_wp2_with fail
    refine (H1.out _).mono ?_
    rintro e W1 ⟨rfl, hb1⟩
    have X0 := (hb1.block w.heap.size (by simp)).trans (heap_alloc_new w _)
    have z0 : w.heap.size < W1.heap.size := Nat.lt_of_lt_of_le (by simp) hb1.size
    have B := below_trans (below_alloc w _) hb1
    clear hb1
    go_wp2_with fail
    refine (HM.out _).mono ?_
    rintro e w9 ⟨rfl, rfl⟩
    rw [show decide ((1 : Int) ≠ 1) = false from rfl]
    go_upto_region 3 with fail
    obtain ⟨W3, hW3⟩ : ∃ W : World, W = W1.alloc (.cells #[.float .f64 l1, .float .f64 h1] 65) := ⟨_, rfl⟩
    rw [← hW3]
    replace X0 := (show W3.heap[w.heap.size]? = W1.heap[w.heap.size]? by rw [hW3]; exact heap_alloc_old W1 _ z0).trans X0
    replace B : Below w.heap.size w W3 := by rw [hW3]; exact below_trans B (below_alloc _ _)
    clear hW3
    obtain ⟨f0, f1, f2, f3, y0, y1, y2, y3⟩ := bx4 X0
    clear X0
    go_wp2
    first
      | (refine bodyPost_ret (v := .tuple #[.agg #[.float .f64 l1, .float .f64 h1, .float .f64 l2, .float .f64 h2], .int .i64 0]) (by simp [results, Tryz.results38, go_sem, f0, f1, f2, f3]) rfl ?_; refine ⟨rfl, ?_⟩)
      | (refine bodyPost_ret (v := .tuple #[.agg #[.float .f64 0, .float .f64 0, .float .f64 0, .float .f64 0], .int .i64 1]) (by simp [results, Tryz.results38, go_sem, f0, f1, f2, f3]) rfl ?_; refine ⟨rfl, ?_⟩)
      | (refine bodyPost_ret (v := .tuple #[.agg #[.float .f64 0, .float .f64 0, .float .f64 0, .float .f64 0], .int .i64 7]) (by simp [results, Tryz.results38, go_sem, f0, f1, f2, f3]) rfl ?_; refine ⟨rfl, ?_⟩)
    exact Below.setCell (p := ⟨w.heap.size, 3, none⟩) (Below.setCell (p := ⟨w.heap.size, 2, none⟩) (Below.setCell (p := ⟨w.heap.size, 1, none⟩) (Below.setCell (p := ⟨w.heap.size, 0, none⟩) B (Nat.le_refl _) _) (Nat.le_refl _) _) (Nat.le_refl _) _) (Nat.le_refl _) _)
  · rcases k1 with rfl | rfl <;> rcases k2 with rfl | rfl <;> (
    simp only [Int.reduceEq, or_self, or_true, true_or, or_false, false_or, and_self, and_true, true_and, and_false, false_and, if_true, if_false, reduceIte]
    go_enter Tryz.func38, Tryz.ntmps38
    go_wp2_with fail
    refine (H1.out _).mono ?_
    rintro e W1 ⟨rfl, hb1⟩
    have X0 := (hb1.block w.heap.size (by simp)).trans (heap_alloc_new w _)
    have z0 : w.heap.size < W1.heap.size := Nat.lt_of_lt_of_le (by simp) hb1.size
    have B := below_trans (below_alloc w _) hb1
    clear hb1
    go_wp2_with fail
    refine (HM.out _).mono ?_
    rintro e w9 ⟨rfl, rfl⟩
    first | rw [show decide ((0 : Int) ≠ 1) = true from rfl] | rw [show decide ((7 : Int) ≠ 1) = true from rfl]
    go_wp2_with fail
    refine (H2.out _).mono ?_
    rintro e W2 ⟨rfl, hb2⟩
    have X6 := (hb2.block W1.heap.size (by simp)).trans (heap_alloc_new W1 _)
    have z6 : W1.heap.size < W2.heap.size := Nat.lt_of_lt_of_le (by simp) hb2.size
    replace X0 := (hb2.block w.heap.size (by simp; omega)).trans ((heap_alloc_old W1 _ z0).trans X0)
    replace B := below_trans (below_trans B (below_alloc _ _)) hb2
    clear hb2
    go_upto_region 5 with fail
    obtain ⟨W3, hW3⟩ : ∃ W : World, W = W2.alloc (.cells #[.float .f64 l2, .float .f64 h2] 65) := ⟨_, rfl⟩
    rw [← hW3]
    have X8 : W3.heap[W2.heap.size]? = some (.cells #[.float .f64 l2, .float .f64 h2] 65 (0, 0)) := by rw [hW3]; exact heap_alloc_new W2 _
    replace X6 := (show W3.heap[W1.heap.size]? = W2.heap[W1.heap.size]? by rw [hW3]; exact heap_alloc_old W2 _ z6).trans X6
    replace X0 := (show W3.heap[w.heap.size]? = W2.heap[w.heap.size]? by rw [hW3]; exact heap_alloc_old W2 _ (by omega)).trans X0
    replace B : Below w.heap.size w W3 := by rw [hW3]; exact below_trans B (below_alloc _ _)
    clear hW3
    obtain ⟨f0, f1, f2, f3, y0, y1, y2, y3⟩ := bx4 X0
    obtain ⟨g0, g1, u0, u1⟩ := bx2 X6
    obtain ⟨j0, j1, v0, v1⟩ := bx2 X8
    clear X0 X6 X8
    go_wp2
    first
      | (refine bodyPost_ret (v := .tuple #[.agg #[.float .f64 l1, .float .f64 h1, .float .f64 l2, .float .f64 h2], .int .i64 0]) (by simp [results, Tryz.results38, go_sem, f0, f1, f2, f3]) rfl ?_; refine ⟨rfl, ?_⟩)
      | (refine bodyPost_ret (v := .tuple #[.agg #[.float .f64 0, .float .f64 0, .float .f64 0, .float .f64 0], .int .i64 1]) (by simp [results, Tryz.results38, go_sem, f0, f1, f2, f3]) rfl ?_; refine ⟨rfl, ?_⟩)
      | (refine bodyPost_ret (v := .tuple #[.agg #[.float .f64 0, .float .f64 0, .float .f64 0, .float .f64 0], .int .i64 7]) (by simp [results, Tryz.results38, go_sem, f0, f1, f2, f3]) rfl ?_; refine ⟨rfl, ?_⟩)
    exact Below.setCell (p := ⟨w.heap.size, 3, none⟩) (Below.setCell (p := ⟨w.heap.size, 2, none⟩) (Below.setCell (p := ⟨w.heap.size, 1, none⟩) (Below.setCell (p := ⟨w.heap.size, 0, none⟩) B (Nat.le_refl _) _) (Nat.le_refl _) _) (Nat.le_refl _) _) (Nat.le_refl _) _)
end Go.Proofs.YtphlmmjlpbledaaGreatDoor
namespace Go.Proofs.YtphlmmjlpbledaaGreatDoor
open Go.RowKit
set_option maxRecDepth 100000

theorem ez_ok {a : Nat} (h : nanb a = false) : (FloatKind.f64.format.order (ez a) (ez a) == some Ordering.eq) = true := by
  unfold ez
  split
  · decide +kernel
  · unfold nanb at h
    simpa using h
theorem zero_ok : (FloatKind.f64.format.order 0 0 == some Ordering.eq) = true := by decide +kernel
theorem may_nan {a b : Nat} (h : mayB a b = true) : nanb a = false ∧ nanb b = false := by
  unfold mayB at h
  cases h1 : nanb a <;> cases h2 : nanb b <;> simp_all
theorem msL_ok (a b : Nat) : (FloatKind.f64.format.order (msL a b) (msL a b) == some Ordering.eq) = true := by
  unfold msL
  split
  · next h => rw [Bool.and_eq_true] at h; exact ez_ok (may_nan h.1).1
  · exact zero_ok
theorem msH_ok (a b : Nat) : (FloatKind.f64.format.order (msH a b) (msH a b) == some Ordering.eq) = true := by
  unfold msH
  split
  · next h => rw [Bool.and_eq_true] at h; exact ez_ok (may_nan h.1).2
  · exact zero_ok
theorem mk1_ok (a b c d : Nat) {x : Nat} (h : (FloatKind.f64.format.order x x == some Ordering.eq) = true) : (FloatKind.f64.format.order (mk1 a b c d x) (mk1 a b c d x) == some Ordering.eq) = true := by
  unfold mk1
  split
  · exact h
  · exact zero_ok
set_option maxHeartbeats 2000000 in
theorem boxMakes_core (a b c d p q r s : Nat) (k : Int) (HM1 : Hid (∀ W, Calls Tryz.prog 38 #[.complex .f64 a b, .complex .f64 c d] W fun e w' => e = .returned (.tuple #[.agg #[.float .f64 p, .float .f64 q, .float .f64 r, .float .f64 s], .int .i64 k]) ∧ Below W.heap.size W w')) (HM2 : Hid (∀ W, Calls Tryz.prog 39 #[.complex .f64 a b, .complex .f64 c d] W fun e w' => e = .returned (.tuple #[.agg #[.float .f64 p, .float .f64 q, .float .f64 r, .float .f64 s], .int .i64 k]) ∧ Below W.heap.size W w')) (HS : Hid (∀ W, Calls Tryz.prog 42 #[.agg #[.float .f64 p, .float .f64 q, .float .f64 r, .float .f64 s], .agg #[.float .f64 p, .float .f64 q, .float .f64 r, .float .f64 s]] W fun e w' => e = .returned (.bool true) ∧ Below W.heap.size W w')) (w : World) (hT : Tab w) (hT6 : Tab64 w) : Calls Tryz.prog 9 #[.agg #[.int .u64 (a : Int), .int .u64 (b : Int), .int .u64 (c : Int), .int .u64 (d : Int)]] w fun e w' => e = .returned (.bool true) ∧ Below w.heap.size w w' := by
  have hfb := floatbits_run
  have hsf := store_float
  have HT := hid hT
  have HT6 := hid hT6
  clear hT hT6
  have hfr := frombits_run
  go_enter Tryz.func9, Tryz.ntmps9
  go_wp2_with fail
  obtain ⟨W1, hW1⟩ : ∃ W : World, W = w.alloc (.cells #[.int .u64 (a : Int), .int .u64 (b : Int), .int .u64 (c : Int), .int .u64 (d : Int)] 83) := ⟨_, rfl⟩
  rw [← hW1]
  have X0 : W1.heap[w.heap.size]? = some (.cells #[.int .u64 (a : Int), .int .u64 (b : Int), .int .u64 (c : Int), .int .u64 (d : Int)] 83 (0, 0)) := by rw [hW1]; exact (alloc_at (by simp))
  have z0 : w.heap.size < W1.heap.size := by rw [hW1]; simp <;> omega
  have B : Below w.heap.size w W1 := by rw [hW1]; exact (below_trans (Below.refl w.heap.size w) (below_alloc _ _))
  clear hW1
  refine (awake2K_1 _ (HT.out.below B) (HT6.out.below B)).mono ?_
  rintro e W2 ⟨rfl, hb2⟩
  replace X0 := (hb2.block _ z0).trans X0
  replace z0 := Nat.lt_of_lt_of_le z0 hb2.size
  replace B := below_trans B hb2
  clear hb2
  obtain ⟨f0_0, f0_1, f0_2, f0_3, y0_0, y0_1, y0_2, y0_3⟩ := bx4 X0
  go_upto_region 3 with fail
  clear f0_0 f0_1 f0_2 f0_3 y0_0 y0_1 y0_2 y0_3
  obtain ⟨f0_0, f0_1, f0_2, f0_3, y0_0, y0_1, y0_2, y0_3⟩ := bx4 X0
  refine region_lin [.val (kIs (.pointer (some ⟨w.heap.size, 0, none⟩))), .val (kIs (.int .u64 (a : Int))), .val (kIs (.float .f64 a)), .val (kIs (.pointer (some ⟨w.heap.size, 1, none⟩))), .val (kIs (.int .u64 (b : Int))), .val (kIs (.float .f64 b)), .val (kIs (.complex .f64 a b)), .val (kIs (.complex .f64 a b))]
    (by kernel_rfl) (by kernel_rfl) (by kernel_rfl) (by kernel_rfl) (by kernel_rfl) ⟨Stab.b (stab_is _), Stab.b (stab_is _), Stab.b (stab_is _), Stab.b (stab_is _), Stab.b (stab_is _), Stab.b (stab_is _), Stab.b (stab_is _), Stab.b (stab_is _), trivial⟩ (by simp) ⟨?_, ?_, ?_, ?_, ?_, ?_, ?_, ?_, trivial⟩ ?_
  · exact obq
  · intro ts W hb hB hp; have h0 : ts 0 = _ := hp 0 (by kernel_rfl); intro K hK; simp only [fillT, Nat.zero_add, Nat.reduceAdd, sA, sB, sC, h0] at hK ⊢; have HK := hid hK; clear hK hp; obtain ⟨p0, p1, p2, p3, -, -, -, -⟩ := bx4 ((hb.block _ z0).trans X0); refine ⟨?_⟩; go_simp; exact HK.out _ _ kk rfB
  · intro ts W hb hB hp; have h1 : ts 1 = _ := hp 1 (by kernel_rfl); intro K hK; simp only [fillT, Nat.zero_add, Nat.reduceAdd, sA, sB, sC, h1] at hK ⊢; have HK := hid hK; clear hK hp; refine ⟨?_⟩; go_simp; exact HK.out _ _ kk rfB
  · exact obq
  · intro ts W hb hB hp; have h3 : ts 3 = _ := hp 3 (by kernel_rfl); intro K hK; simp only [fillT, Nat.zero_add, Nat.reduceAdd, sA, sB, sC, h3] at hK ⊢; have HK := hid hK; clear hK hp; obtain ⟨p0, p1, p2, p3, -, -, -, -⟩ := bx4 ((hb.block _ z0).trans X0); refine ⟨?_⟩; go_simp; exact HK.out _ _ kk rfB
  · intro ts W hb hB hp; have h4 : ts 4 = _ := hp 4 (by kernel_rfl); intro K hK; simp only [fillT, Nat.zero_add, Nat.reduceAdd, sA, sB, sC, h4] at hK ⊢; have HK := hid hK; clear hK hp; refine ⟨?_⟩; go_simp; exact HK.out _ _ kk rfB
  · intro ts W hb hB hp; have h2 : ts 2 = _ := hp 2 (by kernel_rfl); have h5 : ts 5 = _ := hp 5 (by kernel_rfl); intro K hK; simp only [fillT, Nat.zero_add, Nat.reduceAdd, sA, sB, sC, h2, h5] at hK ⊢; have HK := hid hK; clear hK hp; refine ⟨?_⟩; go_simp; exact HK.out _ _ kk rfB
  · intro ts W hb hB hp; have h6 : ts 6 = _ := hp 6 (by kernel_rfl); intro K hK; simp only [fillT, Nat.zero_add, Nat.reduceAdd, sA, sB, sC, h6] at hK ⊢; have HK := hid hK; clear hK hp; refine ⟨?_⟩; go_simp; exact HK.out _ _ kk rfB
  intro ts W3 hb3 hh hap
  have e0 := held_is (hh 0 (by simp)) rfl
  have e1 := held_is (hh 1 (by simp)) rfl
  have e2 := held_is (hh 2 (by simp)) rfl
  have e3 := held_is (hh 3 (by simp)) rfl
  have e4 := held_is (hh 4 (by simp)) rfl
  have e5 := held_is (hh 5 (by simp)) rfl
  have e6 := held_is (hh 6 (by simp)) rfl
  have e7 := held_is (hh 7 (by simp)) rfl
  simp only [fillT, Nat.zero_add, Nat.reduceAdd, sA, sB, sC, e0, e1, e2, e3, e4, e5, e6, e7]
  clear hh hap e0 e1 e2 e3 e4 e5 e6 e7
  replace X0 := (hb3.block _ z0).trans X0
  replace z0 := Nat.lt_of_lt_of_le z0 hb3.size
  replace B := below_trans B hb3
  clear hb3
  clear f0_0 f0_1 f0_2 f0_3 y0_0 y0_1 y0_2 y0_3
  obtain ⟨f0_0, f0_1, f0_2, f0_3, y0_0, y0_1, y0_2, y0_3⟩ := bx4 X0
  go_upto_region 4 with fail
  clear f0_0 f0_1 f0_2 f0_3 y0_0 y0_1 y0_2 y0_3
  obtain ⟨f0_0, f0_1, f0_2, f0_3, y0_0, y0_1, y0_2, y0_3⟩ := bx4 X0
  refine region_lin [.val (kIs (.pointer (some ⟨w.heap.size, 2, none⟩))), .val (kIs (.int .u64 (c : Int))), .val (kIs (.float .f64 c)), .val (kIs (.pointer (some ⟨w.heap.size, 3, none⟩))), .val (kIs (.int .u64 (d : Int))), .val (kIs (.float .f64 d)), .val (kIs (.complex .f64 c d)), .val (kIs (.complex .f64 c d))]
    (by kernel_rfl) (by kernel_rfl) (by kernel_rfl) (by kernel_rfl) (by kernel_rfl) ⟨Stab.b (stab_is _), Stab.b (stab_is _), Stab.b (stab_is _), Stab.b (stab_is _), Stab.b (stab_is _), Stab.b (stab_is _), Stab.b (stab_is _), Stab.b (stab_is _), trivial⟩ (by simp) ⟨?_, ?_, ?_, ?_, ?_, ?_, ?_, ?_, trivial⟩ ?_
  · exact obq
  · intro ts W hb hB hp; have h0 : ts 0 = _ := hp 0 (by kernel_rfl); intro K hK; simp only [fillT, Nat.zero_add, Nat.reduceAdd, sA, sB, sC, h0] at hK ⊢; have HK := hid hK; clear hK hp; obtain ⟨p0, p1, p2, p3, -, -, -, -⟩ := bx4 ((hb.block _ z0).trans X0); refine ⟨?_⟩; go_simp; exact HK.out _ _ kk rfB
  · intro ts W hb hB hp; have h1 : ts 1 = _ := hp 1 (by kernel_rfl); intro K hK; simp only [fillT, Nat.zero_add, Nat.reduceAdd, sA, sB, sC, h1] at hK ⊢; have HK := hid hK; clear hK hp; refine ⟨?_⟩; go_simp; exact HK.out _ _ kk rfB
  · exact obq
  · intro ts W hb hB hp; have h3 : ts 3 = _ := hp 3 (by kernel_rfl); intro K hK; simp only [fillT, Nat.zero_add, Nat.reduceAdd, sA, sB, sC, h3] at hK ⊢; have HK := hid hK; clear hK hp; obtain ⟨p0, p1, p2, p3, -, -, -, -⟩ := bx4 ((hb.block _ z0).trans X0); refine ⟨?_⟩; go_simp; exact HK.out _ _ kk rfB
  · intro ts W hb hB hp; have h4 : ts 4 = _ := hp 4 (by kernel_rfl); intro K hK; simp only [fillT, Nat.zero_add, Nat.reduceAdd, sA, sB, sC, h4] at hK ⊢; have HK := hid hK; clear hK hp; refine ⟨?_⟩; go_simp; exact HK.out _ _ kk rfB
  · intro ts W hb hB hp; have h2 : ts 2 = _ := hp 2 (by kernel_rfl); have h5 : ts 5 = _ := hp 5 (by kernel_rfl); intro K hK; simp only [fillT, Nat.zero_add, Nat.reduceAdd, sA, sB, sC, h2, h5] at hK ⊢; have HK := hid hK; clear hK hp; refine ⟨?_⟩; go_simp; exact HK.out _ _ kk rfB
  · intro ts W hb hB hp; have h6 : ts 6 = _ := hp 6 (by kernel_rfl); intro K hK; simp only [fillT, Nat.zero_add, Nat.reduceAdd, sA, sB, sC, h6] at hK ⊢; have HK := hid hK; clear hK hp; refine ⟨?_⟩; go_simp; exact HK.out _ _ kk rfB
  intro ts W4 hb4 hh hap
  have e0 := held_is (hh 0 (by simp)) rfl
  have e1 := held_is (hh 1 (by simp)) rfl
  have e2 := held_is (hh 2 (by simp)) rfl
  have e3 := held_is (hh 3 (by simp)) rfl
  have e4 := held_is (hh 4 (by simp)) rfl
  have e5 := held_is (hh 5 (by simp)) rfl
  have e6 := held_is (hh 6 (by simp)) rfl
  have e7 := held_is (hh 7 (by simp)) rfl
  simp only [fillT, Nat.zero_add, Nat.reduceAdd, sA, sB, sC, e0, e1, e2, e3, e4, e5, e6, e7]
  clear hh hap e0 e1 e2 e3 e4 e5 e6 e7
  replace X0 := (hb4.block _ z0).trans X0
  replace z0 := Nat.lt_of_lt_of_le z0 hb4.size
  replace B := below_trans B hb4
  clear hb4
  clear f0_0 f0_1 f0_2 f0_3 y0_0 y0_1 y0_2 y0_3
  obtain ⟨f0_0, f0_1, f0_2, f0_3, y0_0, y0_1, y0_2, y0_3⟩ := bx4 X0
  go_wp2_with fail
  refine (HM1.out _).mono ?_
  rintro e W5 ⟨rfl, hb5⟩
  replace X0 := (hb5.block _ z0).trans X0
  replace z0 := Nat.lt_of_lt_of_le z0 hb5.size
  replace B := below_trans B hb5
  clear hb5
  clear f0_0 f0_1 f0_2 f0_3 y0_0 y0_1 y0_2 y0_3
  obtain ⟨f0_0, f0_1, f0_2, f0_3, y0_0, y0_1, y0_2, y0_3⟩ := bx4 X0
  go_upto_region 6 with fail
  obtain ⟨W6, hW6⟩ : ∃ W : World, W = W5.alloc (.cells #[.float .f64 p, .float .f64 q, .float .f64 r, .float .f64 s] 85) := ⟨_, rfl⟩
  rw [← hW6]
  replace X0 : W6.heap[w.heap.size]? = some (.cells #[.int .u64 (a : Int), .int .u64 (b : Int), .int .u64 (c : Int), .int .u64 (d : Int)] 83 (0, 0)) := by rw [hW6]; exact ((heap_alloc_old _ _ (by first | omega | (simp <;> omega))).trans X0)
  have X1 : W6.heap[W5.heap.size]? = some (.cells #[.float .f64 p, .float .f64 q, .float .f64 r, .float .f64 s] 85 (0, 0)) := by rw [hW6]; exact (alloc_at (by simp))
  have q0_1 : w.heap.size < W5.heap.size := by omega
  replace z0 : w.heap.size < W6.heap.size := by rw [hW6]; simp <;> omega
  have z1 : W5.heap.size < W6.heap.size := by rw [hW6]; simp <;> omega
  replace B : Below w.heap.size w W6 := by rw [hW6]; exact (below_trans B (below_alloc _ _))
  clear hW6
  clear f0_0 f0_1 f0_2 f0_3 y0_0 y0_1 y0_2 y0_3
  obtain ⟨f0_0, f0_1, f0_2, f0_3, y0_0, y0_1, y0_2, y0_3⟩ := bx4 X0
  obtain ⟨f1_0, f1_1, f1_2, f1_3, y1_0, y1_1, y1_2, y1_3⟩ := bx4 X1
  go_wp2_with fail
  refine (HM2.out _).mono ?_
  rintro e W7 ⟨rfl, hb7⟩
  replace X0 := (hb7.block _ z0).trans X0
  replace z0 := Nat.lt_of_lt_of_le z0 hb7.size
  replace X1 := (hb7.block _ z1).trans X1
  replace z1 := Nat.lt_of_lt_of_le z1 hb7.size
  replace B := below_trans B hb7
  clear hb7
  clear f0_0 f0_1 f0_2 f0_3 y0_0 y0_1 y0_2 y0_3 f1_0 f1_1 f1_2 f1_3 y1_0 y1_1 y1_2 y1_3
  obtain ⟨f0_0, f0_1, f0_2, f0_3, y0_0, y0_1, y0_2, y0_3⟩ := bx4 X0
  obtain ⟨f1_0, f1_1, f1_2, f1_3, y1_0, y1_1, y1_2, y1_3⟩ := bx4 X1
  go_upto_region 7 with fail
  obtain ⟨W8, hW8⟩ : ∃ W : World, W = W7.alloc (.cells #[.float .f64 p, .float .f64 q, .float .f64 r, .float .f64 s] 89) := ⟨_, rfl⟩
  rw [← hW8]
  replace X0 : W8.heap[w.heap.size]? = some (.cells #[.int .u64 (a : Int), .int .u64 (b : Int), .int .u64 (c : Int), .int .u64 (d : Int)] 83 (0, 0)) := by rw [hW8]; exact ((heap_alloc_old _ _ (by first | omega | (simp <;> omega))).trans X0)
  replace X1 : W8.heap[W5.heap.size]? = some (.cells #[.float .f64 p, .float .f64 q, .float .f64 r, .float .f64 s] 85 (0, 0)) := by rw [hW8]; exact ((heap_alloc_old _ _ (by first | omega | (simp <;> omega))).trans X1)
  have X2 : W8.heap[W7.heap.size]? = some (.cells #[.float .f64 p, .float .f64 q, .float .f64 r, .float .f64 s] 89 (0, 0)) := by rw [hW8]; exact (alloc_at (by simp))
  have q0_2 : w.heap.size < W7.heap.size := by omega
  have q1_2 : W5.heap.size < W7.heap.size := by omega
  replace z0 : w.heap.size < W8.heap.size := by rw [hW8]; simp <;> omega
  replace z1 : W5.heap.size < W8.heap.size := by rw [hW8]; simp <;> omega
  have z2 : W7.heap.size < W8.heap.size := by rw [hW8]; simp <;> omega
  replace B : Below w.heap.size w W8 := by rw [hW8]; exact (below_trans B (below_alloc _ _))
  clear hW8
  clear f0_0 f0_1 f0_2 f0_3 y0_0 y0_1 y0_2 y0_3 f1_0 f1_1 f1_2 f1_3 y1_0 y1_1 y1_2 y1_3
  obtain ⟨f0_0, f0_1, f0_2, f0_3, y0_0, y0_1, y0_2, y0_3⟩ := bx4 X0
  obtain ⟨f1_0, f1_1, f1_2, f1_3, y1_0, y1_1, y1_2, y1_3⟩ := bx4 X1
  obtain ⟨f2_0, f2_1, f2_2, f2_3, y2_0, y2_1, y2_2, y2_3⟩ := bx4 X2
  go_wp2_with fail
  refine (parts_any p q r s _).mono ?_
  rintro e W9 ⟨rfl, hb9⟩
  replace X0 := (hb9.block _ z0).trans X0
  replace z0 := Nat.lt_of_lt_of_le z0 hb9.size
  replace X1 := (hb9.block _ z1).trans X1
  replace z1 := Nat.lt_of_lt_of_le z1 hb9.size
  replace X2 := (hb9.block _ z2).trans X2
  replace z2 := Nat.lt_of_lt_of_le z2 hb9.size
  replace B := below_trans B hb9
  clear hb9
  clear f0_0 f0_1 f0_2 f0_3 y0_0 y0_1 y0_2 y0_3 f1_0 f1_1 f1_2 f1_3 y1_0 y1_1 y1_2 y1_3 f2_0 f2_1 f2_2 f2_3 y2_0 y2_1 y2_2 y2_3
  obtain ⟨f0_0, f0_1, f0_2, f0_3, y0_0, y0_1, y0_2, y0_3⟩ := bx4 X0
  obtain ⟨f1_0, f1_1, f1_2, f1_3, y1_0, y1_1, y1_2, y1_3⟩ := bx4 X1
  obtain ⟨f2_0, f2_1, f2_2, f2_3, y2_0, y2_1, y2_2, y2_3⟩ := bx4 X2
  go_upto_region 8 with fail
  obtain ⟨W10, hW10⟩ : ∃ W : World, W = (W9.alloc (.cells #[.float .f64 p, .float .f64 q] 65)).alloc (.cells #[.float .f64 r, .float .f64 s] 65) := ⟨_, rfl⟩
  rw [← hW10]
  replace X0 : W10.heap[w.heap.size]? = some (.cells #[.int .u64 (a : Int), .int .u64 (b : Int), .int .u64 (c : Int), .int .u64 (d : Int)] 83 (0, 0)) := by rw [hW10]; exact ((heap_alloc_old _ _ (by first | omega | (simp <;> omega))).trans ((heap_alloc_old _ _ (by first | omega | (simp <;> omega))).trans X0))
  replace X1 : W10.heap[W5.heap.size]? = some (.cells #[.float .f64 p, .float .f64 q, .float .f64 r, .float .f64 s] 85 (0, 0)) := by rw [hW10]; exact ((heap_alloc_old _ _ (by first | omega | (simp <;> omega))).trans ((heap_alloc_old _ _ (by first | omega | (simp <;> omega))).trans X1))
  replace X2 : W10.heap[W7.heap.size]? = some (.cells #[.float .f64 p, .float .f64 q, .float .f64 r, .float .f64 s] 89 (0, 0)) := by rw [hW10]; exact ((heap_alloc_old _ _ (by first | omega | (simp <;> omega))).trans ((heap_alloc_old _ _ (by first | omega | (simp <;> omega))).trans X2))
  have X3 : W10.heap[W9.heap.size]? = some (.cells #[.float .f64 p, .float .f64 q] 65 (0, 0)) := by rw [hW10]; exact ((heap_alloc_old _ _ (by first | omega | (simp <;> omega))).trans (alloc_at (by simp)))
  have X4 : W10.heap[W9.heap.size + 1]? = some (.cells #[.float .f64 r, .float .f64 s] 65 (0, 0)) := by rw [hW10]; exact (alloc_at (by simp))
  have q0_3 : w.heap.size < W9.heap.size := by omega
  have q1_3 : W5.heap.size < W9.heap.size := by omega
  have q2_3 : W7.heap.size < W9.heap.size := by omega
  have q0_4 : w.heap.size < W9.heap.size + 1 := by omega
  have q1_4 : W5.heap.size < W9.heap.size + 1 := by omega
  have q2_4 : W7.heap.size < W9.heap.size + 1 := by omega
  replace z0 : w.heap.size < W10.heap.size := by rw [hW10]; simp <;> omega
  replace z1 : W5.heap.size < W10.heap.size := by rw [hW10]; simp <;> omega
  replace z2 : W7.heap.size < W10.heap.size := by rw [hW10]; simp <;> omega
  have z3 : W9.heap.size < W10.heap.size := by rw [hW10]; simp <;> omega
  have z4 : W9.heap.size + 1 < W10.heap.size := by rw [hW10]; simp <;> omega
  replace B : Below w.heap.size w W10 := by rw [hW10]; exact (below_trans (below_trans B (below_alloc _ _)) (below_alloc _ _))
  clear hW10
  clear f0_0 f0_1 f0_2 f0_3 y0_0 y0_1 y0_2 y0_3 f1_0 f1_1 f1_2 f1_3 y1_0 y1_1 y1_2 y1_3 f2_0 f2_1 f2_2 f2_3 y2_0 y2_1 y2_2 y2_3
  obtain ⟨f0_0, f0_1, f0_2, f0_3, y0_0, y0_1, y0_2, y0_3⟩ := bx4 X0
  obtain ⟨f1_0, f1_1, f1_2, f1_3, y1_0, y1_1, y1_2, y1_3⟩ := bx4 X1
  obtain ⟨f2_0, f2_1, f2_2, f2_3, y2_0, y2_1, y2_2, y2_3⟩ := bx4 X2
  obtain ⟨f3_0, f3_1, y3_0, y3_1⟩ := bx2 X3
  obtain ⟨f4_0, f4_1, y4_0, y4_1⟩ := bx2 X4
  refine region_lin [.val (kIs (.int .i64 k)), .val (kIs (.int .i64 k)), .val (kIs (.bool true)), .val (kIs (.bool true)), .val (kIs (.agg #[.float .f64 p, .float .f64 q, .float .f64 r, .float .f64 s])), .val (kIs (.agg #[.float .f64 p, .float .f64 q, .float .f64 r, .float .f64 s])), .val (kIs (.bool true)), .val (kIs (.bool true)), .val (kIs (.bool true)), .val (kIs (.agg #[.float .f64 p, .float .f64 q])), .val (kIs (.pointer (some ⟨W7.heap.size, 0, none⟩))), .val (kIs (.agg #[.float .f64 p, .float .f64 q])), .val (kIs (.bool true)), .val (kIs (.bool true)), .val (kIs (.bool true)), .val (kIs (.agg #[.float .f64 r, .float .f64 s])), .val (kIs (.pointer (some ⟨W7.heap.size, 2, none⟩))), .val (kIs (.agg #[.float .f64 r, .float .f64 s])), .val (kIs (.bool true)), .val (kIs (.bool true)), .val (kIs (.bool true)), .val (kIs (.agg #[.float .f64 p, .float .f64 q, .float .f64 r, .float .f64 s])), .val (kIs (.agg #[.float .f64 p, .float .f64 q])), .val (kIs (.agg #[.float .f64 r, .float .f64 s])), .val (kIs (.agg #[.float .f64 p, .float .f64 q, .float .f64 r, .float .f64 s])), .val (kIs (.bool true)), .val (kIs (.bool true)), .val (kIs (.bool true))]
    (by kernel_rfl) (by kernel_rfl) (by kernel_rfl) (by kernel_rfl) (by kernel_rfl) ⟨Stab.b (stab_is _), Stab.b (stab_is _), Stab.b (stab_is _), Stab.b (stab_is _), Stab.b (stab_is _), Stab.b (stab_is _), Stab.b (stab_is _), Stab.b (stab_is _), Stab.b (stab_is _), Stab.b (stab_is _), Stab.b (stab_is _), Stab.b (stab_is _), Stab.b (stab_is _), Stab.b (stab_is _), Stab.b (stab_is _), Stab.b (stab_is _), Stab.b (stab_is _), Stab.b (stab_is _), Stab.b (stab_is _), Stab.b (stab_is _), Stab.b (stab_is _), Stab.b (stab_is _), Stab.b (stab_is _), Stab.b (stab_is _), Stab.b (stab_is _), Stab.b (stab_is _), Stab.b (stab_is _), Stab.b (stab_is _), trivial⟩ (by simp) ⟨?_, ?_, ?_, ?_, ?_, ?_, ?_, ?_, ?_, ?_, ?_, ?_, ?_, ?_, ?_, ?_, ?_, ?_, ?_, ?_, ?_, ?_, ?_, ?_, ?_, ?_, ?_, ?_, trivial⟩ ?_
  · exact obq
  · exact obq
  · intro ts W hb hB hp; have h0 : ts 0 = _ := hp 0 (by kernel_rfl); have h1 : ts 1 = _ := hp 1 (by kernel_rfl); intro K hK; simp only [fillT, Nat.zero_add, Nat.reduceAdd, sA, sB, sC, h0, h1] at hK ⊢; have HK := hid hK; clear hK hp; refine ⟨?_⟩; go_simp; exact HK.out _ _ kk rfB
  · intro ts W hb hB hp; have h2 : ts 2 = _ := hp 2 (by kernel_rfl); intro K hK; simp only [fillT, Nat.zero_add, Nat.reduceAdd, sA, sB, sC, h2] at hK ⊢; have HK := hid hK; clear hK hp; refine ⟨?_⟩; go_simp; exact HK.out _ _ kk rfB
  · intro ts W hb hB hp; have h3 : ts 3 = _ := hp 3 (by kernel_rfl); refine Guarded.on h3 ?_; clear h3; intro K hK; simp only [fillT, Nat.zero_add, Nat.reduceAdd, sA, sB, sC] at hK ⊢; have HK := hid hK; clear hK hp; obtain ⟨p0, p1, p2, p3, -, -, -, -⟩ := bx4 ((hb.block _ z1).trans X1); refine ⟨?_⟩; go_simp; exact HK.out _ _ kk rfB
  · intro ts W hb hB hp; have h3 : ts 3 = _ := hp 3 (by kernel_rfl); refine Guarded.on h3 ?_; clear h3; intro K hK; simp only [fillT, Nat.zero_add, Nat.reduceAdd, sA, sB, sC] at hK ⊢; have HK := hid hK; clear hK hp; obtain ⟨p0, p1, p2, p3, -, -, -, -⟩ := bx4 ((hb.block _ z2).trans X2); refine ⟨?_⟩; go_simp; exact HK.out _ _ kk rfB
  · intro ts W hb hB hp; have h4 : ts 4 = _ := hp 4 (by kernel_rfl); have h5 : ts 5 = _ := hp 5 (by kernel_rfl); have h3 : ts 3 = _ := hp 3 (by kernel_rfl); refine Guarded.on h3 ?_; clear h3; intro K hK; simp only [fillT, Nat.zero_add, Nat.reduceAdd, sA, sB, sC, h4, h5] at hK ⊢; have HK := hid hK; clear hK hp; refine ⟨?_⟩; go_simp; refine (is_box p q r s _).mono ?_; rintro e W9 ⟨rfl, hb9⟩; exact HK.out _ _ rfl hb9
  · intro ts W hb hB hp; have h3 : ts 3 = _ := hp 3 (by kernel_rfl); have h6 : ts 6 = _ := hp 6 (by kernel_rfl); intro K hK; simp only [fillT, Nat.zero_add, Nat.reduceAdd, sA, sB, sC, h3, h6] at hK ⊢; have HK := hid hK; clear hK hp; refine ⟨?_⟩; go_simp; exact HK.out _ _ kk rfB
  · intro ts W hb hB hp; have h7 : ts 7 = _ := hp 7 (by kernel_rfl); intro K hK; simp only [fillT, Nat.zero_add, Nat.reduceAdd, sA, sB, sC, h7] at hK ⊢; have HK := hid hK; clear hK hp; refine ⟨?_⟩; go_simp; exact HK.out _ _ kk rfB
  · intro ts W hb hB hp; have h8 : ts 8 = _ := hp 8 (by kernel_rfl); refine Guarded.on h8 ?_; clear h8; intro K hK; simp only [fillT, Nat.zero_add, Nat.reduceAdd, sA, sB, sC] at hK ⊢; have HK := hid hK; clear hK hp; obtain ⟨p0, p1, -, -⟩ := bx2 ((hb.block _ z3).trans X3); refine ⟨?_⟩; go_simp; exact HK.out _ _ kk rfB
  · intro ts W hb hB hp; have h8 : ts 8 = _ := hp 8 (by kernel_rfl); refine Guarded.on h8 ?_; clear h8; intro K hK; simp only [fillT, Nat.zero_add, Nat.reduceAdd, sA, sB, sC] at hK ⊢; have HK := hid hK; clear hK hp; refine ⟨?_⟩; go_simp; exact HK.out _ _ kk rfB
  · intro ts W hb hB hp; have h10 : ts 10 = _ := hp 10 (by kernel_rfl); have h8 : ts 8 = _ := hp 8 (by kernel_rfl); refine Guarded.on h8 ?_; clear h8; intro K hK; simp only [fillT, Nat.zero_add, Nat.reduceAdd, sA, sB, sC, h10] at hK ⊢; have HK := hid hK; clear hK hp; obtain ⟨p0, p1, p2, p3, -, -, -, -⟩ := bx4 ((hb.block _ z2).trans X2); refine ⟨?_⟩; go_simp; exact HK.out _ _ kk rfB
  · intro ts W hb hB hp; have h9 : ts 9 = _ := hp 9 (by kernel_rfl); have h11 : ts 11 = _ := hp 11 (by kernel_rfl); have h8 : ts 8 = _ := hp 8 (by kernel_rfl); refine Guarded.on h8 ?_; clear h8; intro K hK; simp only [fillT, Nat.zero_add, Nat.reduceAdd, sA, sB, sC, h9, h11] at hK ⊢; have HK := hid hK; clear hK hp; refine ⟨?_⟩; go_simp; refine (isSpan_any p q _).mono ?_; rintro e W9 ⟨rfl, hb9⟩; exact HK.out _ _ rfl hb9
  · intro ts W hb hB hp; have h8 : ts 8 = _ := hp 8 (by kernel_rfl); have h12 : ts 12 = _ := hp 12 (by kernel_rfl); intro K hK; simp only [fillT, Nat.zero_add, Nat.reduceAdd, sA, sB, sC, h8, h12] at hK ⊢; have HK := hid hK; clear hK hp; refine ⟨?_⟩; go_simp; exact HK.out _ _ kk rfB
  · intro ts W hb hB hp; have h13 : ts 13 = _ := hp 13 (by kernel_rfl); intro K hK; simp only [fillT, Nat.zero_add, Nat.reduceAdd, sA, sB, sC, h13] at hK ⊢; have HK := hid hK; clear hK hp; refine ⟨?_⟩; go_simp; exact HK.out _ _ kk rfB
  · intro ts W hb hB hp; have h14 : ts 14 = _ := hp 14 (by kernel_rfl); refine Guarded.on h14 ?_; clear h14; intro K hK; simp only [fillT, Nat.zero_add, Nat.reduceAdd, sA, sB, sC] at hK ⊢; have HK := hid hK; clear hK hp; obtain ⟨p0, p1, -, -⟩ := bx2 ((hb.block _ z4).trans X4); refine ⟨?_⟩; go_simp; exact HK.out _ _ kk rfB
  · intro ts W hb hB hp; have h14 : ts 14 = _ := hp 14 (by kernel_rfl); refine Guarded.on h14 ?_; clear h14; intro K hK; simp only [fillT, Nat.zero_add, Nat.reduceAdd, sA, sB, sC] at hK ⊢; have HK := hid hK; clear hK hp; refine ⟨?_⟩; go_simp; exact HK.out _ _ kk rfB
  · intro ts W hb hB hp; have h16 : ts 16 = _ := hp 16 (by kernel_rfl); have h14 : ts 14 = _ := hp 14 (by kernel_rfl); refine Guarded.on h14 ?_; clear h14; intro K hK; simp only [fillT, Nat.zero_add, Nat.reduceAdd, sA, sB, sC, h16] at hK ⊢; have HK := hid hK; clear hK hp; obtain ⟨p0, p1, p2, p3, -, -, -, -⟩ := bx4 ((hb.block _ z2).trans X2); refine ⟨?_⟩; go_simp; exact HK.out _ _ kk rfB
  · intro ts W hb hB hp; have h15 : ts 15 = _ := hp 15 (by kernel_rfl); have h17 : ts 17 = _ := hp 17 (by kernel_rfl); have h14 : ts 14 = _ := hp 14 (by kernel_rfl); refine Guarded.on h14 ?_; clear h14; intro K hK; simp only [fillT, Nat.zero_add, Nat.reduceAdd, sA, sB, sC, h15, h17] at hK ⊢; have HK := hid hK; clear hK hp; refine ⟨?_⟩; go_simp; refine (isSpan_any r s _).mono ?_; rintro e W9 ⟨rfl, hb9⟩; exact HK.out _ _ rfl hb9
  · intro ts W hb hB hp; have h14 : ts 14 = _ := hp 14 (by kernel_rfl); have h18 : ts 18 = _ := hp 18 (by kernel_rfl); intro K hK; simp only [fillT, Nat.zero_add, Nat.reduceAdd, sA, sB, sC, h14, h18] at hK ⊢; have HK := hid hK; clear hK hp; refine ⟨?_⟩; go_simp; exact HK.out _ _ kk rfB
  · intro ts W hb hB hp; have h19 : ts 19 = _ := hp 19 (by kernel_rfl); intro K hK; simp only [fillT, Nat.zero_add, Nat.reduceAdd, sA, sB, sC, h19] at hK ⊢; have HK := hid hK; clear hK hp; refine ⟨?_⟩; go_simp; exact HK.out _ _ kk rfB
  · intro ts W hb hB hp; have h20 : ts 20 = _ := hp 20 (by kernel_rfl); refine Guarded.on h20 ?_; clear h20; intro K hK; simp only [fillT, Nat.zero_add, Nat.reduceAdd, sA, sB, sC] at hK ⊢; have HK := hid hK; clear hK hp; obtain ⟨p0, p1, p2, p3, -, -, -, -⟩ := bx4 ((hb.block _ z1).trans X1); refine ⟨?_⟩; go_simp; exact HK.out _ _ kk rfB
  · intro ts W hb hB hp; have h20 : ts 20 = _ := hp 20 (by kernel_rfl); refine Guarded.on h20 ?_; clear h20; intro K hK; simp only [fillT, Nat.zero_add, Nat.reduceAdd, sA, sB, sC] at hK ⊢; have HK := hid hK; clear hK hp; obtain ⟨p0, p1, -, -⟩ := bx2 ((hb.block _ z3).trans X3); refine ⟨?_⟩; go_simp; exact HK.out _ _ kk rfB
  · intro ts W hb hB hp; have h20 : ts 20 = _ := hp 20 (by kernel_rfl); refine Guarded.on h20 ?_; clear h20; intro K hK; simp only [fillT, Nat.zero_add, Nat.reduceAdd, sA, sB, sC] at hK ⊢; have HK := hid hK; clear hK hp; obtain ⟨p0, p1, -, -⟩ := bx2 ((hb.block _ z4).trans X4); refine ⟨?_⟩; go_simp; exact HK.out _ _ kk rfB
  · intro ts W hb hB hp; have h22 : ts 22 = _ := hp 22 (by kernel_rfl); have h23 : ts 23 = _ := hp 23 (by kernel_rfl); have h20 : ts 20 = _ := hp 20 (by kernel_rfl); refine Guarded.on h20 ?_; clear h20; intro K hK; simp only [fillT, Nat.zero_add, Nat.reduceAdd, sA, sB, sC, h22, h23] at hK ⊢; have HK := hid hK; clear hK hp; refine ⟨?_⟩; go_simp; refine (pair_any p q r s _).mono ?_; rintro e W9 ⟨rfl, hb9⟩; exact HK.out _ _ rfl hb9
  · intro ts W hb hB hp; have h21 : ts 21 = _ := hp 21 (by kernel_rfl); have h24 : ts 24 = _ := hp 24 (by kernel_rfl); have h20 : ts 20 = _ := hp 20 (by kernel_rfl); refine Guarded.on h20 ?_; clear h20; intro K hK; simp only [fillT, Nat.zero_add, Nat.reduceAdd, sA, sB, sC, h21, h24] at hK ⊢; have HK := hid hK; clear hK hp; refine ⟨?_⟩; go_simp; refine (HS.out _).mono ?_; rintro e W9 ⟨rfl, hb9⟩; exact HK.out _ _ rfl hb9
  · intro ts W hb hB hp; have h20 : ts 20 = _ := hp 20 (by kernel_rfl); have h25 : ts 25 = _ := hp 25 (by kernel_rfl); intro K hK; simp only [fillT, Nat.zero_add, Nat.reduceAdd, sA, sB, sC, h20, h25] at hK ⊢; have HK := hid hK; clear hK hp; refine ⟨?_⟩; go_simp; exact HK.out _ _ kk rfB
  · intro ts W hb hB hp; have h26 : ts 26 = _ := hp 26 (by kernel_rfl); intro K hK; simp only [fillT, Nat.zero_add, Nat.reduceAdd, sA, sB, sC, h26] at hK ⊢; have HK := hid hK; clear hK hp; refine ⟨?_⟩; go_simp; exact HK.out _ _ kk rfB
  intro ts W11 hb11 hh hap
  have e0 := held_is (hh 0 (by simp)) rfl
  have e1 := held_is (hh 1 (by simp)) rfl
  have e2 := held_is (hh 2 (by simp)) rfl
  have e3 := held_is (hh 3 (by simp)) rfl
  have e4 := held_is (hh 4 (by simp)) rfl
  have e5 := held_is (hh 5 (by simp)) rfl
  have e6 := held_is (hh 6 (by simp)) rfl
  have e7 := held_is (hh 7 (by simp)) rfl
  have e8 := held_is (hh 8 (by simp)) rfl
  have e9 := held_is (hh 9 (by simp)) rfl
  have e10 := held_is (hh 10 (by simp)) rfl
  have e11 := held_is (hh 11 (by simp)) rfl
  have e12 := held_is (hh 12 (by simp)) rfl
  have e13 := held_is (hh 13 (by simp)) rfl
  have e14 := held_is (hh 14 (by simp)) rfl
  have e15 := held_is (hh 15 (by simp)) rfl
  have e16 := held_is (hh 16 (by simp)) rfl
  have e17 := held_is (hh 17 (by simp)) rfl
  have e18 := held_is (hh 18 (by simp)) rfl
  have e19 := held_is (hh 19 (by simp)) rfl
  have e20 := held_is (hh 20 (by simp)) rfl
  have e21 := held_is (hh 21 (by simp)) rfl
  have e22 := held_is (hh 22 (by simp)) rfl
  have e23 := held_is (hh 23 (by simp)) rfl
  have e24 := held_is (hh 24 (by simp)) rfl
  have e25 := held_is (hh 25 (by simp)) rfl
  have e26 := held_is (hh 26 (by simp)) rfl
  have e27 := held_is (hh 27 (by simp)) rfl
  simp only [fillT, Nat.zero_add, Nat.reduceAdd, sA, sB, sC, e0, e1, e2, e3, e4, e5, e6, e7, e8, e9, e10, e11, e12, e13, e14, e15, e16, e17, e18, e19, e20, e21, e22, e23, e24, e25, e26, e27]
  clear hh hap e0 e1 e2 e3 e4 e5 e6 e7 e8 e9 e10 e11 e12 e13 e14 e15 e16 e17 e18 e19 e20 e21 e22 e23 e24 e25 e26 e27
  replace X0 := (hb11.block _ z0).trans X0
  replace z0 := Nat.lt_of_lt_of_le z0 hb11.size
  replace X1 := (hb11.block _ z1).trans X1
  replace z1 := Nat.lt_of_lt_of_le z1 hb11.size
  replace X2 := (hb11.block _ z2).trans X2
  replace z2 := Nat.lt_of_lt_of_le z2 hb11.size
  replace X3 := (hb11.block _ z3).trans X3
  replace z3 := Nat.lt_of_lt_of_le z3 hb11.size
  replace X4 := (hb11.block _ z4).trans X4
  replace z4 := Nat.lt_of_lt_of_le z4 hb11.size
  replace B := below_trans B hb11
  clear hb11
  clear f0_0 f0_1 f0_2 f0_3 y0_0 y0_1 y0_2 y0_3 f1_0 f1_1 f1_2 f1_3 y1_0 y1_1 y1_2 y1_3 f2_0 f2_1 f2_2 f2_3 y2_0 y2_1 y2_2 y2_3 f3_0 f3_1 y3_0 y3_1 f4_0 f4_1 y4_0 y4_1
  obtain ⟨f0_0, f0_1, f0_2, f0_3, y0_0, y0_1, y0_2, y0_3⟩ := bx4 X0
  obtain ⟨f1_0, f1_1, f1_2, f1_3, y1_0, y1_1, y1_2, y1_3⟩ := bx4 X1
  obtain ⟨f2_0, f2_1, f2_2, f2_3, y2_0, y2_1, y2_2, y2_3⟩ := bx4 X2
  obtain ⟨f3_0, f3_1, y3_0, y3_1⟩ := bx2 X3
  obtain ⟨f4_0, f4_1, y4_0, y4_1⟩ := bx2 X4
  go_wp2
  go_ret
  exact ⟨rfl, B⟩
theorem boxMakes_walk (w : World) (a b c d : Nat) (hT : Tab w) (hT6 : Tab64 w) : Calls Tryz.prog 9 #[.agg #[.int .u64 (a : Int), .int .u64 (b : Int), .int .u64 (c : Int), .int .u64 (d : Int)]] w fun e w' => e = .returned (.bool true) ∧ Below w.heap.size w w' :=
  boxMakes_core a b c d _ _ _ _ _ (hid fun W => makeB_any a b c d W) (hid fun W => rmakeB_any a b c d W) (hid fun W => same_box _ _ _ _ W (mk1_ok a b c d (msL_ok a c)) (mk1_ok a b c d (msH_ok a c)) (mk1_ok a b c d (msL_ok b d)) (mk1_ok a b c d (msH_ok b d))) w hT hT6
end Go.Proofs.YtphlmmjlpbledaaGreatDoor
