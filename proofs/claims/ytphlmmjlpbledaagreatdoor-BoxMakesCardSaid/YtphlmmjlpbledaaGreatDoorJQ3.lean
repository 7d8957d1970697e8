import Derived.Test.YtphlmmjlpbledaaGreatDoorJQ1
import Derived.Test.YtphlmmjlpbledaaGreatDoorK27
import Derived.Test.YtphlmmjlpbledaaGreatDoorK14
set_option linter.unusedSimpArgs false
set_option linter.unusedVariables false
namespace Go.Proofs.YtphlmmjlpbledaaGreatDoor
open Go.RowKit
set_option maxRecDepth 100000

theorem kk {P : Prop} (h : P := by first | rfl | (simp [kIs] <;> fail) | (unfold kIs; decide +kernel)) : P := h
theorem obq {P : Prop} (h : P := by (intro ts W hb hB hp; intro K hK; simp only [fillT, Nat.zero_add, Nat.reduceAdd, sA, sB, sC] at hK ⊢; have HK := hid hK; clear hK hp; refine ⟨?_⟩; go_simp; exact HK.out _ _ kk rfB)) : P := h
theorem fsub_run {A B R : Nat} (h : Ieee.double.sub A B = some R) (W : World) : (binOp BinOp.sub 49 (.float .f64 A) (.float .f64 B)).run Tryz.prog W = .ok (.float .f64 R) W := by
  have h' : FloatKind.f64.format.sub A B = some R := h
  simp [binOp, go_sem, Op.floatArith, h']
theorem fmul_run {A B R : Nat} (h : Ieee.double.mul A B = some R) (W : World) : (binOp BinOp.mul 49 (.float .f64 A) (.float .f64 B)).run Tryz.prog W = .ok (.float .f64 R) W := by
  have h' : FloatKind.f64.format.mul A B = some R := h
  simp [binOp, go_sem, Op.floatArith, h']
theorem f2u_run {A : Nat} {n : Int} (h : (Ieee.double.read A).toInt .zero = some n) (h2 : 0 ≤ n ∧ n ≤ 18446744073709551615) (W : World) : (convert 49 47 (.float .f64 A)).run Tryz.prog W = .ok (.int .u64 n) W := by
  have h' : (FloatKind.f64.decode A).toInt .zero = some n := h
  have e1 : IntKind.u64.min = 0 := by decide
  have e2 : IntKind.u64.max = 18446744073709551615 := by decide
  simp [convert, go_sem, Conv.floatToInt, h', e1, e2, h2]
theorem u2f_run {R : Nat} {n : Int} (h : FloatKind.f64.nearest n = R) (W : World) : (convert 47 49 (.int .u64 n)).run Tryz.prog W = .ok (.float .f64 R) W := by
  simp [convert, go_sem, Conv.intToFloat, h]
/-- Cells of boxes; boxes behind a store. -/
theorem bx4 {W : World} {g : Nat} {T : TypeId} {v0 v1 v2 v3 : Value} (h : W.heap[g]? = some (.cells #[v0, v1, v2, v3] T (0, 0))) :
    W.cell? ⟨g, 0, none⟩ = some v0 ∧ W.cell? ⟨g, 1, none⟩ = some v1 ∧ W.cell? ⟨g, 2, none⟩ = some v2 ∧ W.cell? ⟨g, 3, none⟩ = some v3 ∧
    W.frozen? ⟨g, 0, none⟩ = false ∧ W.frozen? ⟨g, 1, none⟩ = false ∧ W.frozen? ⟨g, 2, none⟩ = false ∧ W.frozen? ⟨g, 3, none⟩ = false := by
  simp [World.cell?, World.frozen?, h]
theorem bx8 {W : World} {g : Nat} {T : TypeId} {v0 v1 v2 v3 v4 v5 v6 v7 : Value} (h : W.heap[g]? = some (.cells #[v0, v1, v2, v3, v4, v5, v6, v7] T (0, 0))) :
    W.cell? ⟨g, 0, none⟩ = some v0 ∧ W.cell? ⟨g, 1, none⟩ = some v1 ∧ W.cell? ⟨g, 2, none⟩ = some v2 ∧ W.cell? ⟨g, 3, none⟩ = some v3 ∧ W.cell? ⟨g, 4, none⟩ = some v4 ∧ W.cell? ⟨g, 5, none⟩ = some v5 ∧ W.cell? ⟨g, 6, none⟩ = some v6 ∧ W.cell? ⟨g, 7, none⟩ = some v7 ∧
    W.frozen? ⟨g, 0, none⟩ = false ∧ W.frozen? ⟨g, 1, none⟩ = false ∧ W.frozen? ⟨g, 2, none⟩ = false ∧ W.frozen? ⟨g, 3, none⟩ = false ∧ W.frozen? ⟨g, 4, none⟩ = false ∧ W.frozen? ⟨g, 5, none⟩ = false ∧ W.frozen? ⟨g, 6, none⟩ = false ∧ W.frozen? ⟨g, 7, none⟩ = false := by
  simp [World.cell?, World.frozen?, h]
theorem alloc_at {W : World} {a : Obj} {k : Nat} (h : k = W.heap.size) : (W.alloc a).heap[k]? = some a := by subst h; exact heap_alloc_new _ _
theorem set_same {W : World} {g o : Nat} {T : TypeId} {cs : Array Value} (h : W.heap[g]? = some (.cells cs T (0, 0))) (v : Value) : (W.setCell ⟨g, o, none⟩ v).heap[g]? = some (.cells (cs.setIfInBounds o v) T (0, 0)) := by
  simp [World.setCell, Array.getElem?_modify, h]
theorem set_other {W : World} {g g' o : Nat} {x : Obj} (h : W.heap[g]? = some x) (hn : g' ≠ g) (v : Value) : (W.setCell ⟨g', o, none⟩ v).heap[g]? = some x := by
  simp [World.setCell, Array.getElem?_modify, h, hn]
theorem mant_1 (w : World) : Calls Tryz.prog 194 #[.float .f64 4607182418800017408] w fun e w' => e = .returned (.tuple #[.int .u64 9223372036854775808, .int .i64 (-63)]) ∧ w = w' := by
  have hfb := floatbits_run
  have k0 : bits BinOp.andNot IntKind.u64 4607182418800017408 9223372036854775808 = 4607182418800017408 := by decide +kernel
  have k1 : ∀ W, (callFunc 20 #[.int .u64 4607182418800017408]).run Tryz.prog W = .ok (.value (.float .f64 4607182418800017408)) W := fun W => frombits_run W 4607182418800017408
  have k2 : (FloatKind.f64.format.order 4607182418800017408 9218868437227405311 == some Ordering.gt) = false := by decide +kernel
  have k3 : (FloatKind.f64.format.order 4607182418800017408 0 == some Ordering.eq) = false := by decide +kernel
  have k4 : (FloatKind.f64.format.order 4607182418800017408 4607182418800017408 != some Ordering.eq) = false := by decide +kernel
  have k5 : (FloatKind.f64.format.order 4607182418800017408 4503599627370496 == some Ordering.lt) = false := by decide +kernel
  have k6 : bits BinOp.and IntKind.u64 1023 2047 = 1023 := by decide +kernel
  have k7 : bits BinOp.andNot IntKind.u64 4607182418800017408 9218868437227405312 = 0 := by decide +kernel
  have k8 : bits BinOp.or IntKind.u64 0 4602678819172646912 = 4602678819172646912 := by decide +kernel
  have k9 : ∀ W, (callFunc 20 #[.int .u64 4602678819172646912]).run Tryz.prog W = .ok (.value (.float .f64 4602678819172646912)) W := fun W => frombits_run W 4602678819172646912
  have k10 : (FloatKind.f64.format.order 4602678819172646912 0 == some Ordering.eq) = false := by decide +kernel
  have k11 : bits BinOp.andNot IntKind.u64 4602678819172646912 9223372036854775808 = 4602678819172646912 := by decide +kernel
  have k12 : (FloatKind.f64.format.order 4602678819172646912 9218868437227405311 == some Ordering.gt) = false := by decide +kernel
  have k13 : (FloatKind.f64.format.order 4602678819172646912 4602678819172646912 != some Ordering.eq) = false := by decide +kernel
  have k14 : (FloatKind.f64.format.order 4602678819172646912 4503599627370496 == some Ordering.lt) = false := by decide +kernel
  have k15 : bits BinOp.and IntKind.i64 1022 2047 = 1022 := by decide +kernel
  have k16 : bits BinOp.andNot IntKind.u64 4602678819172646912 9218868437227405312 = 0 := by decide +kernel
  have k17 : bits BinOp.or IntKind.u64 0 4890909195324358656 = 4890909195324358656 := by decide +kernel
  have k18 : ∀ W, (callFunc 20 #[.int .u64 4890909195324358656]).run Tryz.prog W = .ok (.value (.float .f64 4890909195324358656)) W := fun W => frombits_run W 4890909195324358656
  have k19 : ∀ W, (binOp BinOp.mul 49 (.float .f64 4607182418800017408) (.float .f64 4890909195324358656)).run Tryz.prog W = .ok (.float .f64 4890909195324358656) W := fun W => fmul_run (by decide +kernel) W
  have k20 : ∀ W, (convert 49 47 (.float .f64 4890909195324358656)).run Tryz.prog W = .ok (.int .u64 9223372036854775808) W := f2u_run (by decide +kernel) (by decide +kernel)
  go_enter Tryz.func194, Tryz.ntmps194
  go_wp2
  refine bodyPost_ret (v := .tuple #[.int .u64 9223372036854775808, .int .i64 (-63)]) (by simp [results, Tryz.results194]) rfl ?_
  exact ⟨rfl, rfl⟩
theorem mant_2 (w : World) : Calls Tryz.prog 194 #[.float .f64 4611686018427387904] w fun e w' => e = .returned (.tuple #[.int .u64 9223372036854775808, .int .i64 (-62)]) ∧ w = w' := by
  have hfb := floatbits_run
  have k0 : bits BinOp.andNot IntKind.u64 4611686018427387904 9223372036854775808 = 4611686018427387904 := by decide +kernel
  have k1 : ∀ W, (callFunc 20 #[.int .u64 4611686018427387904]).run Tryz.prog W = .ok (.value (.float .f64 4611686018427387904)) W := fun W => frombits_run W 4611686018427387904
  have k2 : (FloatKind.f64.format.order 4611686018427387904 9218868437227405311 == some Ordering.gt) = false := by decide +kernel
  have k3 : (FloatKind.f64.format.order 4611686018427387904 0 == some Ordering.eq) = false := by decide +kernel
  have k4 : (FloatKind.f64.format.order 4611686018427387904 4611686018427387904 != some Ordering.eq) = false := by decide +kernel
  have k5 : (FloatKind.f64.format.order 4611686018427387904 4503599627370496 == some Ordering.lt) = false := by decide +kernel
  have k6 : bits BinOp.and IntKind.u64 1024 2047 = 1024 := by decide +kernel
  have k7 : bits BinOp.andNot IntKind.u64 4611686018427387904 9218868437227405312 = 0 := by decide +kernel
  have k8 : bits BinOp.or IntKind.u64 0 4602678819172646912 = 4602678819172646912 := by decide +kernel
  have k9 : ∀ W, (callFunc 20 #[.int .u64 4602678819172646912]).run Tryz.prog W = .ok (.value (.float .f64 4602678819172646912)) W := fun W => frombits_run W 4602678819172646912
  have k10 : (FloatKind.f64.format.order 4602678819172646912 0 == some Ordering.eq) = false := by decide +kernel
  have k11 : bits BinOp.andNot IntKind.u64 4602678819172646912 9223372036854775808 = 4602678819172646912 := by decide +kernel
  have k12 : (FloatKind.f64.format.order 4602678819172646912 9218868437227405311 == some Ordering.gt) = false := by decide +kernel
  have k13 : (FloatKind.f64.format.order 4602678819172646912 4602678819172646912 != some Ordering.eq) = false := by decide +kernel
  have k14 : (FloatKind.f64.format.order 4602678819172646912 4503599627370496 == some Ordering.lt) = false := by decide +kernel
  have k15 : bits BinOp.and IntKind.i64 1022 2047 = 1022 := by decide +kernel
  have k16 : bits BinOp.andNot IntKind.u64 4602678819172646912 9218868437227405312 = 0 := by decide +kernel
  have k17 : bits BinOp.or IntKind.u64 0 4890909195324358656 = 4890909195324358656 := by decide +kernel
  have k18 : ∀ W, (callFunc 20 #[.int .u64 4890909195324358656]).run Tryz.prog W = .ok (.value (.float .f64 4890909195324358656)) W := fun W => frombits_run W 4890909195324358656
  have k19 : ∀ W, (binOp BinOp.mul 49 (.float .f64 4607182418800017408) (.float .f64 4890909195324358656)).run Tryz.prog W = .ok (.float .f64 4890909195324358656) W := fun W => fmul_run (by decide +kernel) W
  have k20 : ∀ W, (convert 49 47 (.float .f64 4890909195324358656)).run Tryz.prog W = .ok (.int .u64 9223372036854775808) W := f2u_run (by decide +kernel) (by decide +kernel)
  go_enter Tryz.func194, Tryz.ntmps194
  go_wp2
  refine bodyPost_ret (v := .tuple #[.int .u64 9223372036854775808, .int .i64 (-62)]) (by simp [results, Tryz.results194]) rfl ?_
  exact ⟨rfl, rfl⟩
theorem mant_0 (w : World) : Calls Tryz.prog 194 #[.float .f64 0] w fun e w' => e = .returned (.tuple #[.int .u64 0, .int .i64 (-64)]) ∧ w = w' := by
  have hfb := floatbits_run
  have k0 : bits BinOp.andNot IntKind.u64 0 9223372036854775808 = 0 := by decide +kernel
  have k1 : ∀ W, (callFunc 20 #[.int .u64 0]).run Tryz.prog W = .ok (.value (.float .f64 0)) W := fun W => frombits_run W 0
  have k2 : (FloatKind.f64.format.order 0 9218868437227405311 == some Ordering.gt) = false := by decide +kernel
  have k3 : (FloatKind.f64.format.order 0 0 == some Ordering.eq) = true := by decide +kernel
  have k4 : ∀ W, (convert 49 47 (.float .f64 0)).run Tryz.prog W = .ok (.int .u64 0) W := f2u_run (by decide +kernel) (by decide +kernel)
  go_enter Tryz.func194, Tryz.ntmps194
  go_wp2
  refine bodyPost_ret (v := .tuple #[.int .u64 0, .int .i64 (-64)]) (by simp [results, Tryz.results194]) rfl ?_
  exact ⟨rfl, rfl⟩
end Go.Proofs.YtphlmmjlpbledaaGreatDoor
namespace Go.Proofs.YtphlmmjlpbledaaGreatDoor
open Go.RowKit
set_option maxRecDepth 100000

theorem lz_run (x n : Nat) (w : World) (hx : x < 18446744073709551616) (hn : Lib.bitLen x = n) (hle : n ≤ 64) : Calls Tryz.prog 214 #[.int .u64 (x : Int)] w fun e w' => e = .returned (.int .i64 ((64 - n : Nat) : Int)) ∧ w = w' :=
  (Tryz.bits_LeadingZeros64 (x : Int) w (by omega) (by omega)).mono fun e w' ⟨h1, h2⟩ => ⟨by rw [h1, Int.toNat_natCast, hn]; congr 2; omega, h2.symm⟩
theorem mul_run (x y h l : Nat) (w : World) (hx : x < 18446744073709551616) (hy : y < 18446744073709551616) (hh : x * y / 18446744073709551616 = h) (hl : x * y % 18446744073709551616 = l) : Calls Tryz.prog 195 #[.int .u64 (x : Int), .int .u64 (y : Int)] w fun e w' => e = .returned (.tuple #[.int .u64 (h : Int), .int .u64 (l : Int)]) ∧ w = w' :=
  (Tryz.bits_Mul64 x y hx hy w).mono fun e w' ⟨h1, h2⟩ => ⟨by rw [h1, hh, hl], h2.symm⟩
theorem mul_9223372036854775808_9223372036854775808 (w : World) : Calls Tryz.prog 195 #[.int .u64 9223372036854775808, .int .u64 9223372036854775808] w fun e w' => e = .returned (.tuple #[.int .u64 4611686018427387904, .int .u64 0]) ∧ w = w' := mul_run 9223372036854775808 9223372036854775808 4611686018427387904 0 w (by omega) (by omega) (by decide +kernel) (by decide +kernel)
theorem mul_9223372036854775808_0 (w : World) : Calls Tryz.prog 195 #[.int .u64 9223372036854775808, .int .u64 0] w fun e w' => e = .returned (.tuple #[.int .u64 0, .int .u64 0]) ∧ w = w' := mul_run 9223372036854775808 0 0 0 w (by omega) (by omega) (by decide +kernel) (by decide +kernel)
theorem mul_0_9223372036854775808 (w : World) : Calls Tryz.prog 195 #[.int .u64 0, .int .u64 9223372036854775808] w fun e w' => e = .returned (.tuple #[.int .u64 0, .int .u64 0]) ∧ w = w' := mul_run 0 9223372036854775808 0 0 w (by omega) (by omega) (by decide +kernel) (by decide +kernel)
theorem mul_0_0 (w : World) : Calls Tryz.prog 195 #[.int .u64 0, .int .u64 0] w fun e w' => e = .returned (.tuple #[.int .u64 0, .int .u64 0]) ∧ w = w' := mul_run 0 0 0 0 w (by omega) (by omega) (by decide +kernel) (by decide +kernel)
theorem sb_4607182418800017408 (w : World) : Calls Tryz.prog 24 #[.float .f64 4607182418800017408] w fun e w' => e = .returned (.bool false) ∧ w = w' := signbit_any 4607182418800017408 w (by omega)
theorem sb_4611686018427387904 (w : World) : Calls Tryz.prog 24 #[.float .f64 4611686018427387904] w fun e w' => e = .returned (.bool false) ∧ w = w' := signbit_any 4611686018427387904 w (by omega)
theorem sb_0 (w : World) : Calls Tryz.prog 24 #[.float .f64 0] w fun e w' => e = .returned (.bool false) ∧ w = w' := signbit_any 0 w (by omega)
theorem lz_4611686018427387904 (w : World) : Calls Tryz.prog 214 #[.int .u64 4611686018427387904] w fun e w' => e = .returned (.int .i64 1) ∧ w = w' := lz_run 4611686018427387904 63 w (by omega) (by decide +kernel) (by omega)
set_option maxHeartbeats 2000000 in
theorem norm_126 (w : World) : Calls Tryz.prog 196 #[.agg #[.bool false, .int .i64 (-126), .int .u64 4611686018427387904, .int .u64 0]] w fun e w' => e = .returned (.agg #[.bool false, .int .i64 (-127), .int .u64 9223372036854775808, .int .u64 0]) ∧ Below w.heap.size w w' := by
  have hfb := floatbits_run
  have k0 : bits BinOp.or IntKind.u64 9223372036854775808 0 = 9223372036854775808 := by decide +kernel
  go_enter Tryz.func196, Tryz.ntmps196
  go_wp2_with fail
  refine (lz_4611686018427387904 _).mono ?_
  rintro e w9 ⟨rfl, rfl⟩
  go_upto_region 7 with fail
  obtain ⟨W1, hW1⟩ : ∃ W : World, W = (w.alloc (.cells #[.bool false, .int .i64 (-126), .int .u64 4611686018427387904, .int .u64 0] 196)).alloc (.cells #[.bool false, .int .i64 0, .int .u64 0, .int .u64 0] 196) := ⟨_, rfl⟩
  rw [← hW1]
  have X0 : W1.heap[w.heap.size]? = some (.cells #[.bool false, .int .i64 (-126), .int .u64 4611686018427387904, .int .u64 0] 196 (0, 0)) := by rw [hW1]; exact ((heap_alloc_old _ _ (by first | omega | (simp <;> omega))).trans (alloc_at (by simp)))
  have X1 : W1.heap[w.heap.size + 1]? = some (.cells #[.bool false, .int .i64 0, .int .u64 0, .int .u64 0] 196 (0, 0)) := by rw [hW1]; exact (alloc_at (by simp))
  have z0 : w.heap.size < W1.heap.size := by rw [hW1]; simp <;> omega
  have z1 : w.heap.size + 1 < W1.heap.size := by rw [hW1]; simp <;> omega
  have B : Below w.heap.size w W1 := by rw [hW1]; exact (below_trans (below_trans (Below.refl w.heap.size w) (below_alloc _ _)) (below_alloc _ _))
  clear hW1
  obtain ⟨f0_0, f0_1, f0_2, f0_3, y0_0, y0_1, y0_2, y0_3⟩ := bx4 X0
  obtain ⟨f1_0, f1_1, f1_2, f1_3, y1_0, y1_1, y1_2, y1_3⟩ := bx4 X1
  refine region_last [.val (kIs (.pointer (some ⟨w.heap.size, 2, none⟩))), .val (kIs (.int .u64 4611686018427387904)), .val (kIs (.int .i64 1)), .val (kIs (.int .u64 9223372036854775808)), .val (kIs (.pointer (some ⟨w.heap.size, 3, none⟩))), .val (kIs (.int .u64 0)), .val (kIs (.int .i64 1)), .val (kIs (.int .i64 63)), .val (kIs (.int .u64 0)), .val (kIs (.int .u64 9223372036854775808)), .val (kIs (.pointer (some ⟨w.heap.size, 2, none⟩)))]
    (by kernel_rfl) (by kernel_rfl) (by kernel_rfl) (by kernel_rfl) (by kernel_rfl) ⟨Stab.b (stab_is _), Stab.b (stab_is _), Stab.b (stab_is _), Stab.b (stab_is _), Stab.b (stab_is _), Stab.b (stab_is _), Stab.b (stab_is _), Stab.b (stab_is _), Stab.b (stab_is _), Stab.b (stab_is _), Stab.b (stab_is _), trivial⟩ (by simp) (ol := _) rfl (by kernel_rfl) ⟨?_, ?_, ?_, ?_, ?_, ?_, ?_, ?_, ?_, ?_, ?_, trivial⟩ ?_
  · exact obq
  · intro ts W hb hB hp; have h0 : ts 0 = _ := hp 0 (by kernel_rfl); intro K hK; simp only [fillT, Nat.zero_add, Nat.reduceAdd, sA, sB, sC, h0] at hK ⊢; have HK := hid hK; clear hK hp; obtain ⟨p0, p1, p2, p3, -, -, -, -⟩ := bx4 ((hb.block _ z0).trans X0); refine ⟨?_⟩; go_simp; exact HK.out _ _ kk rfB
  · exact obq
  · intro ts W hb hB hp; have h1 : ts 1 = _ := hp 1 (by kernel_rfl); have h2 : ts 2 = _ := hp 2 (by kernel_rfl); intro K hK; simp only [fillT, Nat.zero_add, Nat.reduceAdd, sA, sB, sC, h1, h2] at hK ⊢; have HK := hid hK; clear hK hp; refine ⟨?_⟩; go_simp; exact HK.out _ _ kk rfB
  · exact obq
  · intro ts W hb hB hp; have h4 : ts 4 = _ := hp 4 (by kernel_rfl); intro K hK; simp only [fillT, Nat.zero_add, Nat.reduceAdd, sA, sB, sC, h4] at hK ⊢; have HK := hid hK; clear hK hp; obtain ⟨p0, p1, p2, p3, -, -, -, -⟩ := bx4 ((hb.block _ z0).trans X0); refine ⟨?_⟩; go_simp; exact HK.out _ _ kk rfB
  · exact obq
  · intro ts W hb hB hp; have h6 : ts 6 = _ := hp 6 (by kernel_rfl); intro K hK; simp only [fillT, Nat.zero_add, Nat.reduceAdd, sA, sB, sC, h6] at hK ⊢; have HK := hid hK; clear hK hp; refine ⟨?_⟩; go_simp; exact HK.out _ _ kk rfB
  · intro ts W hb hB hp; have h5 : ts 5 = _ := hp 5 (by kernel_rfl); have h7 : ts 7 = _ := hp 7 (by kernel_rfl); intro K hK; simp only [fillT, Nat.zero_add, Nat.reduceAdd, sA, sB, sC, h5, h7] at hK ⊢; have HK := hid hK; clear hK hp; refine ⟨?_⟩; go_simp; exact HK.out _ _ kk rfB
  · intro ts W hb hB hp; have h3 : ts 3 = _ := hp 3 (by kernel_rfl); have h8 : ts 8 = _ := hp 8 (by kernel_rfl); intro K hK; simp only [fillT, Nat.zero_add, Nat.reduceAdd, sA, sB, sC, h3, h8] at hK ⊢; have HK := hid hK; clear hK hp; refine ⟨?_⟩; go_simp; exact HK.out _ _ kk rfB
  · exact obq
  intro ts W2 hb2 hh hap K hK
  have e0 := held_is (hh 0 (by simp)) rfl
  have e1 := held_is (hh 1 (by simp)) rfl
  have e2 := held_is (hh 2 (by simp)) rfl
  have e3 := held_is (hh 3 (by simp)) rfl
  have e4 := held_is (hh 4 (by simp)) rfl
  have e5 := held_is (hh 5 (by simp)) rfl
  have e6 := held_is (hh 6 (by simp)) rfl
  have e7 := held_is (hh 7 (by simp)) rfl
  have e8 := held_is (hh 8 (by simp)) rfl
  have e9 := held_is (hh 9 (by simp)) rfl
  have e10 := held_is (hh 10 (by simp)) rfl
  have HK := hid hK
  clear hK
  simp only [fillT, Nat.zero_add, Nat.reduceAdd, sA, sB, sC, e0, e1, e2, e3, e4, e5, e6, e7, e8, e9, e10]
  clear hh hap e0 e1 e2 e3 e4 e5 e6 e7 e8 e9 e10
  replace X0 := (hb2.block _ z0).trans X0
  replace z0 := Nat.lt_of_lt_of_le z0 hb2.size
  replace X1 := (hb2.block _ z1).trans X1
  replace z1 := Nat.lt_of_lt_of_le z1 hb2.size
  replace B := below_trans B hb2
  clear hb2
  clear f0_0 f0_1 f0_2 f0_3 y0_0 y0_1 y0_2 y0_3 f1_0 f1_1 f1_2 f1_3 y1_0 y1_1 y1_2 y1_3
  obtain ⟨f0_0, f0_1, f0_2, f0_3, y0_0, y0_1, y0_2, y0_3⟩ := bx4 X0
  obtain ⟨f1_0, f1_1, f1_2, f1_3, y1_0, y1_1, y1_2, y1_3⟩ := bx4 X1
  refine ⟨?_⟩
  go_simp
  refine HK.out _ _ ?_
  clear HK
  go_upto_region 10 with fail
  obtain ⟨W3, hW3⟩ : ∃ W : World, W = ((W2.setCell ⟨w.heap.size, 2, none⟩ (.int .u64 9223372036854775808)).setCell ⟨w.heap.size, 3, none⟩ (.int .u64 0)).setCell ⟨w.heap.size, 1, none⟩ (.int .i64 (-127)) := ⟨_, rfl⟩
  rw [← hW3]
  replace X0 : W3.heap[w.heap.size]? = some (.cells #[.bool false, .int .i64 (-127), .int .u64 9223372036854775808, .int .u64 0] 196 (0, 0)) := by rw [hW3]; exact (set_same (set_same (set_same X0 _) _) _)
  replace X1 : W3.heap[w.heap.size + 1]? = some (.cells #[.bool false, .int .i64 0, .int .u64 0, .int .u64 0] 196 (0, 0)) := by rw [hW3]; exact (set_other (set_other (set_other X1 (by omega) _) (by omega) _) (by omega) _)
  replace z0 : w.heap.size < W3.heap.size := by rw [hW3]; simp <;> omega
  replace z1 : w.heap.size + 1 < W3.heap.size := by rw [hW3]; simp <;> omega
  replace B : Below w.heap.size w W3 := by rw [hW3]; exact (Below.setCell (p := ⟨w.heap.size, 1, none⟩) (Below.setCell (p := ⟨w.heap.size, 3, none⟩) (Below.setCell (p := ⟨w.heap.size, 2, none⟩) B (show w.heap.size ≤ w.heap.size by omega) _) (show w.heap.size ≤ w.heap.size by omega) _) (show w.heap.size ≤ w.heap.size by omega) _)
  clear hW3
  clear f0_0 f0_1 f0_2 f0_3 y0_0 y0_1 y0_2 y0_3 f1_0 f1_1 f1_2 f1_3 y1_0 y1_1 y1_2 y1_3
  obtain ⟨f0_0, f0_1, f0_2, f0_3, y0_0, y0_1, y0_2, y0_3⟩ := bx4 X0
  obtain ⟨f1_0, f1_1, f1_2, f1_3, y1_0, y1_1, y1_2, y1_3⟩ := bx4 X1
  go_wp2
  refine bodyPost_ret (v := .agg #[.bool false, .int .i64 (-127), .int .u64 9223372036854775808, .int .u64 0]) (by simp [results, Tryz.results196, go_sem, f0_0, f0_1, f0_2, f0_3, y0_0, y0_1, y0_2, y0_3, f1_0, f1_1, f1_2, f1_3, y1_0, y1_1, y1_2, y1_3]) rfl ?_
  exact ⟨rfl, (Below.setCell (p := ⟨w.heap.size + 1, 3, none⟩) (Below.setCell (p := ⟨w.heap.size + 1, 2, none⟩) (Below.setCell (p := ⟨w.heap.size + 1, 1, none⟩) (Below.setCell (p := ⟨w.heap.size + 1, 0, none⟩) B (show w.heap.size ≤ w.heap.size + 1 by omega) _) (show w.heap.size ≤ w.heap.size + 1 by omega) _) (show w.heap.size ≤ w.heap.size + 1 by omega) _) (show w.heap.size ≤ w.heap.size + 1 by omega) _)⟩
set_option maxHeartbeats 2000000 in
theorem norm_125 (w : World) : Calls Tryz.prog 196 #[.agg #[.bool false, .int .i64 (-125), .int .u64 4611686018427387904, .int .u64 0]] w fun e w' => e = .returned (.agg #[.bool false, .int .i64 (-126), .int .u64 9223372036854775808, .int .u64 0]) ∧ Below w.heap.size w w' := by
  have hfb := floatbits_run
  have k0 : bits BinOp.or IntKind.u64 9223372036854775808 0 = 9223372036854775808 := by decide +kernel
  go_enter Tryz.func196, Tryz.ntmps196
  go_wp2_with fail
  refine (lz_4611686018427387904 _).mono ?_
  rintro e w9 ⟨rfl, rfl⟩
  go_upto_region 7 with fail
  obtain ⟨W1, hW1⟩ : ∃ W : World, W = (w.alloc (.cells #[.bool false, .int .i64 (-125), .int .u64 4611686018427387904, .int .u64 0] 196)).alloc (.cells #[.bool false, .int .i64 0, .int .u64 0, .int .u64 0] 196) := ⟨_, rfl⟩
  rw [← hW1]
  have X0 : W1.heap[w.heap.size]? = some (.cells #[.bool false, .int .i64 (-125), .int .u64 4611686018427387904, .int .u64 0] 196 (0, 0)) := by rw [hW1]; exact ((heap_alloc_old _ _ (by first | omega | (simp <;> omega))).trans (alloc_at (by simp)))
  have X1 : W1.heap[w.heap.size + 1]? = some (.cells #[.bool false, .int .i64 0, .int .u64 0, .int .u64 0] 196 (0, 0)) := by rw [hW1]; exact (alloc_at (by simp))
  have z0 : w.heap.size < W1.heap.size := by rw [hW1]; simp <;> omega
  have z1 : w.heap.size + 1 < W1.heap.size := by rw [hW1]; simp <;> omega
  have B : Below w.heap.size w W1 := by rw [hW1]; exact (below_trans (below_trans (Below.refl w.heap.size w) (below_alloc _ _)) (below_alloc _ _))
  clear hW1
  obtain ⟨f0_0, f0_1, f0_2, f0_3, y0_0, y0_1, y0_2, y0_3⟩ := bx4 X0
  obtain ⟨f1_0, f1_1, f1_2, f1_3, y1_0, y1_1, y1_2, y1_3⟩ := bx4 X1
  refine region_last [.val (kIs (.pointer (some ⟨w.heap.size, 2, none⟩))), .val (kIs (.int .u64 4611686018427387904)), .val (kIs (.int .i64 1)), .val (kIs (.int .u64 9223372036854775808)), .val (kIs (.pointer (some ⟨w.heap.size, 3, none⟩))), .val (kIs (.int .u64 0)), .val (kIs (.int .i64 1)), .val (kIs (.int .i64 63)), .val (kIs (.int .u64 0)), .val (kIs (.int .u64 9223372036854775808)), .val (kIs (.pointer (some ⟨w.heap.size, 2, none⟩)))]
    (by kernel_rfl) (by kernel_rfl) (by kernel_rfl) (by kernel_rfl) (by kernel_rfl) ⟨Stab.b (stab_is _), Stab.b (stab_is _), Stab.b (stab_is _), Stab.b (stab_is _), Stab.b (stab_is _), Stab.b (stab_is _), Stab.b (stab_is _), Stab.b (stab_is _), Stab.b (stab_is _), Stab.b (stab_is _), Stab.b (stab_is _), trivial⟩ (by simp) (ol := _) rfl (by kernel_rfl) ⟨?_, ?_, ?_, ?_, ?_, ?_, ?_, ?_, ?_, ?_, ?_, trivial⟩ ?_
  · exact obq
  · intro ts W hb hB hp; have h0 : ts 0 = _ := hp 0 (by kernel_rfl); intro K hK; simp only [fillT, Nat.zero_add, Nat.reduceAdd, sA, sB, sC, h0] at hK ⊢; have HK := hid hK; clear hK hp; obtain ⟨p0, p1, p2, p3, -, -, -, -⟩ := bx4 ((hb.block _ z0).trans X0); refine ⟨?_⟩; go_simp; exact HK.out _ _ kk rfB
  · exact obq
  · intro ts W hb hB hp; have h1 : ts 1 = _ := hp 1 (by kernel_rfl); have h2 : ts 2 = _ := hp 2 (by kernel_rfl); intro K hK; simp only [fillT, Nat.zero_add, Nat.reduceAdd, sA, sB, sC, h1, h2] at hK ⊢; have HK := hid hK; clear hK hp; refine ⟨?_⟩; go_simp; exact HK.out _ _ kk rfB
  · exact obq
  · intro ts W hb hB hp; have h4 : ts 4 = _ := hp 4 (by kernel_rfl); intro K hK; simp only [fillT, Nat.zero_add, Nat.reduceAdd, sA, sB, sC, h4] at hK ⊢; have HK := hid hK; clear hK hp; obtain ⟨p0, p1, p2, p3, -, -, -, -⟩ := bx4 ((hb.block _ z0).trans X0); refine ⟨?_⟩; go_simp; exact HK.out _ _ kk rfB
  · exact obq
  · intro ts W hb hB hp; have h6 : ts 6 = _ := hp 6 (by kernel_rfl); intro K hK; simp only [fillT, Nat.zero_add, Nat.reduceAdd, sA, sB, sC, h6] at hK ⊢; have HK := hid hK; clear hK hp; refine ⟨?_⟩; go_simp; exact HK.out _ _ kk rfB
  · intro ts W hb hB hp; have h5 : ts 5 = _ := hp 5 (by kernel_rfl); have h7 : ts 7 = _ := hp 7 (by kernel_rfl); intro K hK; simp only [fillT, Nat.zero_add, Nat.reduceAdd, sA, sB, sC, h5, h7] at hK ⊢; have HK := hid hK; clear hK hp; refine ⟨?_⟩; go_simp; exact HK.out _ _ kk rfB
  · intro ts W hb hB hp; have h3 : ts 3 = _ := hp 3 (by kernel_rfl); have h8 : ts 8 = _ := hp 8 (by kernel_rfl); intro K hK; simp only [fillT, Nat.zero_add, Nat.reduceAdd, sA, sB, sC, h3, h8] at hK ⊢; have HK := hid hK; clear hK hp; refine ⟨?_⟩; go_simp; exact HK.out _ _ kk rfB
  · exact obq
  intro ts W2 hb2 hh hap K hK
  have e0 := held_is (hh 0 (by simp)) rfl
  have e1 := held_is (hh 1 (by simp)) rfl
  have e2 := held_is (hh 2 (by simp)) rfl
  have e3 := held_is (hh 3 (by simp)) rfl
  have e4 := held_is (hh 4 (by simp)) rfl
  have e5 := held_is (hh 5 (by simp)) rfl
  have e6 := held_is (hh 6 (by simp)) rfl
  have e7 := held_is (hh 7 (by simp)) rfl
  have e8 := held_is (hh 8 (by simp)) rfl
  have e9 := held_is (hh 9 (by simp)) rfl
  have e10 := held_is (hh 10 (by simp)) rfl
  have HK := hid hK
  clear hK
  simp only [fillT, Nat.zero_add, Nat.reduceAdd, sA, sB, sC, e0, e1, e2, e3, e4, e5, e6, e7, e8, e9, e10]
  clear hh hap e0 e1 e2 e3 e4 e5 e6 e7 e8 e9 e10
  replace X0 := (hb2.block _ z0).trans X0
  replace z0 := Nat.lt_of_lt_of_le z0 hb2.size
  replace X1 := (hb2.block _ z1).trans X1
  replace z1 := Nat.lt_of_lt_of_le z1 hb2.size
  replace B := below_trans B hb2
  clear hb2
  clear f0_0 f0_1 f0_2 f0_3 y0_0 y0_1 y0_2 y0_3 f1_0 f1_1 f1_2 f1_3 y1_0 y1_1 y1_2 y1_3
  obtain ⟨f0_0, f0_1, f0_2, f0_3, y0_0, y0_1, y0_2, y0_3⟩ := bx4 X0
  obtain ⟨f1_0, f1_1, f1_2, f1_3, y1_0, y1_1, y1_2, y1_3⟩ := bx4 X1
  refine ⟨?_⟩
  go_simp
  refine HK.out _ _ ?_
  clear HK
  go_upto_region 10 with fail
  obtain ⟨W3, hW3⟩ : ∃ W : World, W = ((W2.setCell ⟨w.heap.size, 2, none⟩ (.int .u64 9223372036854775808)).setCell ⟨w.heap.size, 3, none⟩ (.int .u64 0)).setCell ⟨w.heap.size, 1, none⟩ (.int .i64 (-126)) := ⟨_, rfl⟩
  rw [← hW3]
  replace X0 : W3.heap[w.heap.size]? = some (.cells #[.bool false, .int .i64 (-126), .int .u64 9223372036854775808, .int .u64 0] 196 (0, 0)) := by rw [hW3]; exact (set_same (set_same (set_same X0 _) _) _)
  replace X1 : W3.heap[w.heap.size + 1]? = some (.cells #[.bool false, .int .i64 0, .int .u64 0, .int .u64 0] 196 (0, 0)) := by rw [hW3]; exact (set_other (set_other (set_other X1 (by omega) _) (by omega) _) (by omega) _)
  replace z0 : w.heap.size < W3.heap.size := by rw [hW3]; simp <;> omega
  replace z1 : w.heap.size + 1 < W3.heap.size := by rw [hW3]; simp <;> omega
  replace B : Below w.heap.size w W3 := by rw [hW3]; exact (Below.setCell (p := ⟨w.heap.size, 1, none⟩) (Below.setCell (p := ⟨w.heap.size, 3, none⟩) (Below.setCell (p := ⟨w.heap.size, 2, none⟩) B (show w.heap.size ≤ w.heap.size by omega) _) (show w.heap.size ≤ w.heap.size by omega) _) (show w.heap.size ≤ w.heap.size by omega) _)
  clear hW3
  clear f0_0 f0_1 f0_2 f0_3 y0_0 y0_1 y0_2 y0_3 f1_0 f1_1 f1_2 f1_3 y1_0 y1_1 y1_2 y1_3
  obtain ⟨f0_0, f0_1, f0_2, f0_3, y0_0, y0_1, y0_2, y0_3⟩ := bx4 X0
  obtain ⟨f1_0, f1_1, f1_2, f1_3, y1_0, y1_1, y1_2, y1_3⟩ := bx4 X1
  go_wp2
  refine bodyPost_ret (v := .agg #[.bool false, .int .i64 (-126), .int .u64 9223372036854775808, .int .u64 0]) (by simp [results, Tryz.results196, go_sem, f0_0, f0_1, f0_2, f0_3, y0_0, y0_1, y0_2, y0_3, f1_0, f1_1, f1_2, f1_3, y1_0, y1_1, y1_2, y1_3]) rfl ?_
  exact ⟨rfl, (Below.setCell (p := ⟨w.heap.size + 1, 3, none⟩) (Below.setCell (p := ⟨w.heap.size + 1, 2, none⟩) (Below.setCell (p := ⟨w.heap.size + 1, 1, none⟩) (Below.setCell (p := ⟨w.heap.size + 1, 0, none⟩) B (show w.heap.size ≤ w.heap.size + 1 by omega) _) (show w.heap.size ≤ w.heap.size + 1 by omega) _) (show w.heap.size ≤ w.heap.size + 1 by omega) _) (show w.heap.size ≤ w.heap.size + 1 by omega) _)⟩
set_option maxHeartbeats 2000000 in
theorem norm_124 (w : World) : Calls Tryz.prog 196 #[.agg #[.bool false, .int .i64 (-124), .int .u64 4611686018427387904, .int .u64 0]] w fun e w' => e = .returned (.agg #[.bool false, .int .i64 (-125), .int .u64 9223372036854775808, .int .u64 0]) ∧ Below w.heap.size w w' := by
  have hfb := floatbits_run
  have k0 : bits BinOp.or IntKind.u64 9223372036854775808 0 = 9223372036854775808 := by decide +kernel
  go_enter Tryz.func196, Tryz.ntmps196
  go_wp2_with fail
  refine (lz_4611686018427387904 _).mono ?_
  rintro e w9 ⟨rfl, rfl⟩
  go_upto_region 7 with fail
  obtain ⟨W1, hW1⟩ : ∃ W : World, W = (w.alloc (.cells #[.bool false, .int .i64 (-124), .int .u64 4611686018427387904, .int .u64 0] 196)).alloc (.cells #[.bool false, .int .i64 0, .int .u64 0, .int .u64 0] 196) := ⟨_, rfl⟩
  rw [← hW1]
  have X0 : W1.heap[w.heap.size]? = some (.cells #[.bool false, .int .i64 (-124), .int .u64 4611686018427387904, .int .u64 0] 196 (0, 0)) := by rw [hW1]; exact ((heap_alloc_old _ _ (by first | omega | (simp <;> omega))).trans (alloc_at (by simp)))
  have X1 : W1.heap[w.heap.size + 1]? = some (.cells #[.bool false, .int .i64 0, .int .u64 0, .int .u64 0] 196 (0, 0)) := by rw [hW1]; exact (alloc_at (by simp))
  have z0 : w.heap.size < W1.heap.size := by rw [hW1]; simp <;> omega
  have z1 : w.heap.size + 1 < W1.heap.size := by rw [hW1]; simp <;> omega
  have B : Below w.heap.size w W1 := by rw [hW1]; exact (below_trans (below_trans (Below.refl w.heap.size w) (below_alloc _ _)) (below_alloc _ _))
  clear hW1
  obtain ⟨f0_0, f0_1, f0_2, f0_3, y0_0, y0_1, y0_2, y0_3⟩ := bx4 X0
  obtain ⟨f1_0, f1_1, f1_2, f1_3, y1_0, y1_1, y1_2, y1_3⟩ := bx4 X1
  refine region_last [.val (kIs (.pointer (some ⟨w.heap.size, 2, none⟩))), .val (kIs (.int .u64 4611686018427387904)), .val (kIs (.int .i64 1)), .val (kIs (.int .u64 9223372036854775808)), .val (kIs (.pointer (some ⟨w.heap.size, 3, none⟩))), .val (kIs (.int .u64 0)), .val (kIs (.int .i64 1)), .val (kIs (.int .i64 63)), .val (kIs (.int .u64 0)), .val (kIs (.int .u64 9223372036854775808)), .val (kIs (.pointer (some ⟨w.heap.size, 2, none⟩)))]
    (by kernel_rfl) (by kernel_rfl) (by kernel_rfl) (by kernel_rfl) (by kernel_rfl) ⟨Stab.b (stab_is _), Stab.b (stab_is _), Stab.b (stab_is _), Stab.b (stab_is _), Stab.b (stab_is _), Stab.b (stab_is _), Stab.b (stab_is _), Stab.b (stab_is _), Stab.b (stab_is _), Stab.b (stab_is _), Stab.b (stab_is _), trivial⟩ (by simp) (ol := _) rfl (by kernel_rfl) ⟨?_, ?_, ?_, ?_, ?_, ?_, ?_, ?_, ?_, ?_, ?_, trivial⟩ ?_
  · exact obq
  · intro ts W hb hB hp; have h0 : ts 0 = _ := hp 0 (by kernel_rfl); intro K hK; simp only [fillT, Nat.zero_add, Nat.reduceAdd, sA, sB, sC, h0] at hK ⊢; have HK := hid hK; clear hK hp; obtain ⟨p0, p1, p2, p3, -, -, -, -⟩ := bx4 ((hb.block _ z0).trans X0); refine ⟨?_⟩; go_simp; exact HK.out _ _ kk rfB
  · exact obq
  · intro ts W hb hB hp; have h1 : ts 1 = _ := hp 1 (by kernel_rfl); have h2 : ts 2 = _ := hp 2 (by kernel_rfl); intro K hK; simp only [fillT, Nat.zero_add, Nat.reduceAdd, sA, sB, sC, h1, h2] at hK ⊢; have HK := hid hK; clear hK hp; refine ⟨?_⟩; go_simp; exact HK.out _ _ kk rfB
  · exact obq
  · intro ts W hb hB hp; have h4 : ts 4 = _ := hp 4 (by kernel_rfl); intro K hK; simp only [fillT, Nat.zero_add, Nat.reduceAdd, sA, sB, sC, h4] at hK ⊢; have HK := hid hK; clear hK hp; obtain ⟨p0, p1, p2, p3, -, -, -, -⟩ := bx4 ((hb.block _ z0).trans X0); refine ⟨?_⟩; go_simp; exact HK.out _ _ kk rfB
  · exact obq
  · intro ts W hb hB hp; have h6 : ts 6 = _ := hp 6 (by kernel_rfl); intro K hK; simp only [fillT, Nat.zero_add, Nat.reduceAdd, sA, sB, sC, h6] at hK ⊢; have HK := hid hK; clear hK hp; refine ⟨?_⟩; go_simp; exact HK.out _ _ kk rfB
  · intro ts W hb hB hp; have h5 : ts 5 = _ := hp 5 (by kernel_rfl); have h7 : ts 7 = _ := hp 7 (by kernel_rfl); intro K hK; simp only [fillT, Nat.zero_add, Nat.reduceAdd, sA, sB, sC, h5, h7] at hK ⊢; have HK := hid hK; clear hK hp; refine ⟨?_⟩; go_simp; exact HK.out _ _ kk rfB
  · intro ts W hb hB hp; have h3 : ts 3 = _ := hp 3 (by kernel_rfl); have h8 : ts 8 = _ := hp 8 (by kernel_rfl); intro K hK; simp only [fillT, Nat.zero_add, Nat.reduceAdd, sA, sB, sC, h3, h8] at hK ⊢; have HK := hid hK; clear hK hp; refine ⟨?_⟩; go_simp; exact HK.out _ _ kk rfB
  · exact obq
  intro ts W2 hb2 hh hap K hK
  have e0 := held_is (hh 0 (by simp)) rfl
  have e1 := held_is (hh 1 (by simp)) rfl
  have e2 := held_is (hh 2 (by simp)) rfl
  have e3 := held_is (hh 3 (by simp)) rfl
  have e4 := held_is (hh 4 (by simp)) rfl
  have e5 := held_is (hh 5 (by simp)) rfl
  have e6 := held_is (hh 6 (by simp)) rfl
  have e7 := held_is (hh 7 (by simp)) rfl
  have e8 := held_is (hh 8 (by simp)) rfl
  have e9 := held_is (hh 9 (by simp)) rfl
  have e10 := held_is (hh 10 (by simp)) rfl
  have HK := hid hK
  clear hK
  simp only [fillT, Nat.zero_add, Nat.reduceAdd, sA, sB, sC, e0, e1, e2, e3, e4, e5, e6, e7, e8, e9, e10]
  clear hh hap e0 e1 e2 e3 e4 e5 e6 e7 e8 e9 e10
  replace X0 := (hb2.block _ z0).trans X0
  replace z0 := Nat.lt_of_lt_of_le z0 hb2.size
  replace X1 := (hb2.block _ z1).trans X1
  replace z1 := Nat.lt_of_lt_of_le z1 hb2.size
  replace B := below_trans B hb2
  clear hb2
  clear f0_0 f0_1 f0_2 f0_3 y0_0 y0_1 y0_2 y0_3 f1_0 f1_1 f1_2 f1_3 y1_0 y1_1 y1_2 y1_3
  obtain ⟨f0_0, f0_1, f0_2, f0_3, y0_0, y0_1, y0_2, y0_3⟩ := bx4 X0
  obtain ⟨f1_0, f1_1, f1_2, f1_3, y1_0, y1_1, y1_2, y1_3⟩ := bx4 X1
  refine ⟨?_⟩
  go_simp
  refine HK.out _ _ ?_
  clear HK
  go_upto_region 10 with fail
  obtain ⟨W3, hW3⟩ : ∃ W : World, W = ((W2.setCell ⟨w.heap.size, 2, none⟩ (.int .u64 9223372036854775808)).setCell ⟨w.heap.size, 3, none⟩ (.int .u64 0)).setCell ⟨w.heap.size, 1, none⟩ (.int .i64 (-125)) := ⟨_, rfl⟩
  rw [← hW3]
  replace X0 : W3.heap[w.heap.size]? = some (.cells #[.bool false, .int .i64 (-125), .int .u64 9223372036854775808, .int .u64 0] 196 (0, 0)) := by rw [hW3]; exact (set_same (set_same (set_same X0 _) _) _)
  replace X1 : W3.heap[w.heap.size + 1]? = some (.cells #[.bool false, .int .i64 0, .int .u64 0, .int .u64 0] 196 (0, 0)) := by rw [hW3]; exact (set_other (set_other (set_other X1 (by omega) _) (by omega) _) (by omega) _)
  replace z0 : w.heap.size < W3.heap.size := by rw [hW3]; simp <;> omega
  replace z1 : w.heap.size + 1 < W3.heap.size := by rw [hW3]; simp <;> omega
  replace B : Below w.heap.size w W3 := by rw [hW3]; exact (Below.setCell (p := ⟨w.heap.size, 1, none⟩) (Below.setCell (p := ⟨w.heap.size, 3, none⟩) (Below.setCell (p := ⟨w.heap.size, 2, none⟩) B (show w.heap.size ≤ w.heap.size by omega) _) (show w.heap.size ≤ w.heap.size by omega) _) (show w.heap.size ≤ w.heap.size by omega) _)
  clear hW3
  clear f0_0 f0_1 f0_2 f0_3 y0_0 y0_1 y0_2 y0_3 f1_0 f1_1 f1_2 f1_3 y1_0 y1_1 y1_2 y1_3
  obtain ⟨f0_0, f0_1, f0_2, f0_3, y0_0, y0_1, y0_2, y0_3⟩ := bx4 X0
  obtain ⟨f1_0, f1_1, f1_2, f1_3, y1_0, y1_1, y1_2, y1_3⟩ := bx4 X1
  go_wp2
  refine bodyPost_ret (v := .agg #[.bool false, .int .i64 (-125), .int .u64 9223372036854775808, .int .u64 0]) (by simp [results, Tryz.results196, go_sem, f0_0, f0_1, f0_2, f0_3, y0_0, y0_1, y0_2, y0_3, f1_0, f1_1, f1_2, f1_3, y1_0, y1_1, y1_2, y1_3]) rfl ?_
  exact ⟨rfl, (Below.setCell (p := ⟨w.heap.size + 1, 3, none⟩) (Below.setCell (p := ⟨w.heap.size + 1, 2, none⟩) (Below.setCell (p := ⟨w.heap.size + 1, 1, none⟩) (Below.setCell (p := ⟨w.heap.size + 1, 0, none⟩) B (show w.heap.size ≤ w.heap.size + 1 by omega) _) (show w.heap.size ≤ w.heap.size + 1 by omega) _) (show w.heap.size ≤ w.heap.size + 1 by omega) _) (show w.heap.size ≤ w.heap.size + 1 by omega) _)⟩
set_option maxHeartbeats 2000000 in
theorem norm0_127 (w : World) : Calls Tryz.prog 196 #[.agg #[.bool false, .int .i64 (-127), .int .u64 0, .int .u64 0]] w fun e w' => e = .returned (.agg #[.bool false, .int .i64 (-4194304), .int .u64 0, .int .u64 0]) ∧ Below w.heap.size w w' := by
  have hfb := floatbits_run
  go_enter Tryz.func196, Tryz.ntmps196
  go_upto_region 2 with fail
  obtain ⟨W1, hW1⟩ : ∃ W : World, W = (w.alloc (.cells #[.bool false, .int .i64 (-127), .int .u64 0, .int .u64 0] 196)).alloc (.cells #[.bool false, .int .i64 0, .int .u64 0, .int .u64 0] 196) := ⟨_, rfl⟩
  rw [← hW1]
  have X0 : W1.heap[w.heap.size]? = some (.cells #[.bool false, .int .i64 (-127), .int .u64 0, .int .u64 0] 196 (0, 0)) := by rw [hW1]; exact ((heap_alloc_old _ _ (by first | omega | (simp <;> omega))).trans (alloc_at (by simp)))
  have X1 : W1.heap[w.heap.size + 1]? = some (.cells #[.bool false, .int .i64 0, .int .u64 0, .int .u64 0] 196 (0, 0)) := by rw [hW1]; exact (alloc_at (by simp))
  have z0 : w.heap.size < W1.heap.size := by rw [hW1]; simp <;> omega
  have z1 : w.heap.size + 1 < W1.heap.size := by rw [hW1]; simp <;> omega
  have B : Below w.heap.size w W1 := by rw [hW1]; exact (below_trans (below_trans (Below.refl w.heap.size w) (below_alloc _ _)) (below_alloc _ _))
  clear hW1
  obtain ⟨f0_0, f0_1, f0_2, f0_3, y0_0, y0_1, y0_2, y0_3⟩ := bx4 X0
  obtain ⟨f1_0, f1_1, f1_2, f1_3, y1_0, y1_1, y1_2, y1_3⟩ := bx4 X1
  go_upto_region 5 with fail
  obtain ⟨W2, hW2⟩ : ∃ W : World, W = ((W1.setCell ⟨w.heap.size, 2, none⟩ (.int .u64 0)).setCell ⟨w.heap.size, 3, none⟩ (.int .u64 0)).setCell ⟨w.heap.size, 1, none⟩ (.int .i64 (-191)) := ⟨_, rfl⟩
  rw [← hW2]
  replace X0 : W2.heap[w.heap.size]? = some (.cells #[.bool false, .int .i64 (-191), .int .u64 0, .int .u64 0] 196 (0, 0)) := by rw [hW2]; exact (set_same (set_same (set_same X0 _) _) _)
  replace X1 : W2.heap[w.heap.size + 1]? = some (.cells #[.bool false, .int .i64 0, .int .u64 0, .int .u64 0] 196 (0, 0)) := by rw [hW2]; exact (set_other (set_other (set_other X1 (by omega) _) (by omega) _) (by omega) _)
  replace z0 : w.heap.size < W2.heap.size := by rw [hW2]; simp <;> omega
  replace z1 : w.heap.size + 1 < W2.heap.size := by rw [hW2]; simp <;> omega
  replace B : Below w.heap.size w W2 := by rw [hW2]; exact (Below.setCell (p := ⟨w.heap.size, 1, none⟩) (Below.setCell (p := ⟨w.heap.size, 3, none⟩) (Below.setCell (p := ⟨w.heap.size, 2, none⟩) B (show w.heap.size ≤ w.heap.size by omega) _) (show w.heap.size ≤ w.heap.size by omega) _) (show w.heap.size ≤ w.heap.size by omega) _)
  clear hW2
  clear f0_0 f0_1 f0_2 f0_3 y0_0 y0_1 y0_2 y0_3 f1_0 f1_1 f1_2 f1_3 y1_0 y1_1 y1_2 y1_3
  obtain ⟨f0_0, f0_1, f0_2, f0_3, y0_0, y0_1, y0_2, y0_3⟩ := bx4 X0
  obtain ⟨f1_0, f1_1, f1_2, f1_3, y1_0, y1_1, y1_2, y1_3⟩ := bx4 X1
  go_wp2
  refine bodyPost_ret (v := .agg #[.bool false, .int .i64 (-4194304), .int .u64 0, .int .u64 0]) (by simp [results, Tryz.results196, go_sem, f0_0, f0_1, f0_2, f0_3, y0_0, y0_1, y0_2, y0_3, f1_0, f1_1, f1_2, f1_3, y1_0, y1_1, y1_2, y1_3]) rfl ?_
  exact ⟨rfl, (Below.setCell (p := ⟨w.heap.size + 1, 3, none⟩) (Below.setCell (p := ⟨w.heap.size + 1, 2, none⟩) (Below.setCell (p := ⟨w.heap.size + 1, 1, none⟩) (Below.setCell (p := ⟨w.heap.size + 1, 0, none⟩) B (show w.heap.size ≤ w.heap.size + 1 by omega) _) (show w.heap.size ≤ w.heap.size + 1 by omega) _) (show w.heap.size ≤ w.heap.size + 1 by omega) _) (show w.heap.size ≤ w.heap.size + 1 by omega) _)⟩
set_option maxHeartbeats 2000000 in
theorem norm0_126 (w : World) : Calls Tryz.prog 196 #[.agg #[.bool false, .int .i64 (-126), .int .u64 0, .int .u64 0]] w fun e w' => e = .returned (.agg #[.bool false, .int .i64 (-4194304), .int .u64 0, .int .u64 0]) ∧ Below w.heap.size w w' := by
  have hfb := floatbits_run
  go_enter Tryz.func196, Tryz.ntmps196
  go_upto_region 2 with fail
  obtain ⟨W1, hW1⟩ : ∃ W : World, W = (w.alloc (.cells #[.bool false, .int .i64 (-126), .int .u64 0, .int .u64 0] 196)).alloc (.cells #[.bool false, .int .i64 0, .int .u64 0, .int .u64 0] 196) := ⟨_, rfl⟩
  rw [← hW1]
  have X0 : W1.heap[w.heap.size]? = some (.cells #[.bool false, .int .i64 (-126), .int .u64 0, .int .u64 0] 196 (0, 0)) := by rw [hW1]; exact ((heap_alloc_old _ _ (by first | omega | (simp <;> omega))).trans (alloc_at (by simp)))
  have X1 : W1.heap[w.heap.size + 1]? = some (.cells #[.bool false, .int .i64 0, .int .u64 0, .int .u64 0] 196 (0, 0)) := by rw [hW1]; exact (alloc_at (by simp))
  have z0 : w.heap.size < W1.heap.size := by rw [hW1]; simp <;> omega
  have z1 : w.heap.size + 1 < W1.heap.size := by rw [hW1]; simp <;> omega
  have B : Below w.heap.size w W1 := by rw [hW1]; exact (below_trans (below_trans (Below.refl w.heap.size w) (below_alloc _ _)) (below_alloc _ _))
  clear hW1
  obtain ⟨f0_0, f0_1, f0_2, f0_3, y0_0, y0_1, y0_2, y0_3⟩ := bx4 X0
  obtain ⟨f1_0, f1_1, f1_2, f1_3, y1_0, y1_1, y1_2, y1_3⟩ := bx4 X1
  go_upto_region 5 with fail
  obtain ⟨W2, hW2⟩ : ∃ W : World, W = ((W1.setCell ⟨w.heap.size, 2, none⟩ (.int .u64 0)).setCell ⟨w.heap.size, 3, none⟩ (.int .u64 0)).setCell ⟨w.heap.size, 1, none⟩ (.int .i64 (-190)) := ⟨_, rfl⟩
  rw [← hW2]
  replace X0 : W2.heap[w.heap.size]? = some (.cells #[.bool false, .int .i64 (-190), .int .u64 0, .int .u64 0] 196 (0, 0)) := by rw [hW2]; exact (set_same (set_same (set_same X0 _) _) _)
  replace X1 : W2.heap[w.heap.size + 1]? = some (.cells #[.bool false, .int .i64 0, .int .u64 0, .int .u64 0] 196 (0, 0)) := by rw [hW2]; exact (set_other (set_other (set_other X1 (by omega) _) (by omega) _) (by omega) _)
  replace z0 : w.heap.size < W2.heap.size := by rw [hW2]; simp <;> omega
  replace z1 : w.heap.size + 1 < W2.heap.size := by rw [hW2]; simp <;> omega
  replace B : Below w.heap.size w W2 := by rw [hW2]; exact (Below.setCell (p := ⟨w.heap.size, 1, none⟩) (Below.setCell (p := ⟨w.heap.size, 3, none⟩) (Below.setCell (p := ⟨w.heap.size, 2, none⟩) B (show w.heap.size ≤ w.heap.size by omega) _) (show w.heap.size ≤ w.heap.size by omega) _) (show w.heap.size ≤ w.heap.size by omega) _)
  clear hW2
  clear f0_0 f0_1 f0_2 f0_3 y0_0 y0_1 y0_2 y0_3 f1_0 f1_1 f1_2 f1_3 y1_0 y1_1 y1_2 y1_3
  obtain ⟨f0_0, f0_1, f0_2, f0_3, y0_0, y0_1, y0_2, y0_3⟩ := bx4 X0
  obtain ⟨f1_0, f1_1, f1_2, f1_3, y1_0, y1_1, y1_2, y1_3⟩ := bx4 X1
  go_wp2
  refine bodyPost_ret (v := .agg #[.bool false, .int .i64 (-4194304), .int .u64 0, .int .u64 0]) (by simp [results, Tryz.results196, go_sem, f0_0, f0_1, f0_2, f0_3, y0_0, y0_1, y0_2, y0_3, f1_0, f1_1, f1_2, f1_3, y1_0, y1_1, y1_2, y1_3]) rfl ?_
  exact ⟨rfl, (Below.setCell (p := ⟨w.heap.size + 1, 3, none⟩) (Below.setCell (p := ⟨w.heap.size + 1, 2, none⟩) (Below.setCell (p := ⟨w.heap.size + 1, 1, none⟩) (Below.setCell (p := ⟨w.heap.size + 1, 0, none⟩) B (show w.heap.size ≤ w.heap.size + 1 by omega) _) (show w.heap.size ≤ w.heap.size + 1 by omega) _) (show w.heap.size ≤ w.heap.size + 1 by omega) _) (show w.heap.size ≤ w.heap.size + 1 by omega) _)⟩
set_option maxHeartbeats 2000000 in
theorem norm0_128 (w : World) : Calls Tryz.prog 196 #[.agg #[.bool false, .int .i64 (-128), .int .u64 0, .int .u64 0]] w fun e w' => e = .returned (.agg #[.bool false, .int .i64 (-4194304), .int .u64 0, .int .u64 0]) ∧ Below w.heap.size w w' := by
  have hfb := floatbits_run
  go_enter Tryz.func196, Tryz.ntmps196
  go_upto_region 2 with fail
  obtain ⟨W1, hW1⟩ : ∃ W : World, W = (w.alloc (.cells #[.bool false, .int .i64 (-128), .int .u64 0, .int .u64 0] 196)).alloc (.cells #[.bool false, .int .i64 0, .int .u64 0, .int .u64 0] 196) := ⟨_, rfl⟩
  rw [← hW1]
  have X0 : W1.heap[w.heap.size]? = some (.cells #[.bool false, .int .i64 (-128), .int .u64 0, .int .u64 0] 196 (0, 0)) := by rw [hW1]; exact ((heap_alloc_old _ _ (by first | omega | (simp <;> omega))).trans (alloc_at (by simp)))
  have X1 : W1.heap[w.heap.size + 1]? = some (.cells #[.bool false, .int .i64 0, .int .u64 0, .int .u64 0] 196 (0, 0)) := by rw [hW1]; exact (alloc_at (by simp))
  have z0 : w.heap.size < W1.heap.size := by rw [hW1]; simp <;> omega
  have z1 : w.heap.size + 1 < W1.heap.size := by rw [hW1]; simp <;> omega
  have B : Below w.heap.size w W1 := by rw [hW1]; exact (below_trans (below_trans (Below.refl w.heap.size w) (below_alloc _ _)) (below_alloc _ _))
  clear hW1
  obtain ⟨f0_0, f0_1, f0_2, f0_3, y0_0, y0_1, y0_2, y0_3⟩ := bx4 X0
  obtain ⟨f1_0, f1_1, f1_2, f1_3, y1_0, y1_1, y1_2, y1_3⟩ := bx4 X1
  go_upto_region 5 with fail
  obtain ⟨W2, hW2⟩ : ∃ W : World, W = ((W1.setCell ⟨w.heap.size, 2, none⟩ (.int .u64 0)).setCell ⟨w.heap.size, 3, none⟩ (.int .u64 0)).setCell ⟨w.heap.size, 1, none⟩ (.int .i64 (-192)) := ⟨_, rfl⟩
  rw [← hW2]
  replace X0 : W2.heap[w.heap.size]? = some (.cells #[.bool false, .int .i64 (-192), .int .u64 0, .int .u64 0] 196 (0, 0)) := by rw [hW2]; exact (set_same (set_same (set_same X0 _) _) _)
  replace X1 : W2.heap[w.heap.size + 1]? = some (.cells #[.bool false, .int .i64 0, .int .u64 0, .int .u64 0] 196 (0, 0)) := by rw [hW2]; exact (set_other (set_other (set_other X1 (by omega) _) (by omega) _) (by omega) _)
  replace z0 : w.heap.size < W2.heap.size := by rw [hW2]; simp <;> omega
  replace z1 : w.heap.size + 1 < W2.heap.size := by rw [hW2]; simp <;> omega
  replace B : Below w.heap.size w W2 := by rw [hW2]; exact (Below.setCell (p := ⟨w.heap.size, 1, none⟩) (Below.setCell (p := ⟨w.heap.size, 3, none⟩) (Below.setCell (p := ⟨w.heap.size, 2, none⟩) B (show w.heap.size ≤ w.heap.size by omega) _) (show w.heap.size ≤ w.heap.size by omega) _) (show w.heap.size ≤ w.heap.size by omega) _)
  clear hW2
  clear f0_0 f0_1 f0_2 f0_3 y0_0 y0_1 y0_2 y0_3 f1_0 f1_1 f1_2 f1_3 y1_0 y1_1 y1_2 y1_3
  obtain ⟨f0_0, f0_1, f0_2, f0_3, y0_0, y0_1, y0_2, y0_3⟩ := bx4 X0
  obtain ⟨f1_0, f1_1, f1_2, f1_3, y1_0, y1_1, y1_2, y1_3⟩ := bx4 X1
  go_wp2
  refine bodyPost_ret (v := .agg #[.bool false, .int .i64 (-4194304), .int .u64 0, .int .u64 0]) (by simp [results, Tryz.results196, go_sem, f0_0, f0_1, f0_2, f0_3, y0_0, y0_1, y0_2, y0_3, f1_0, f1_1, f1_2, f1_3, y1_0, y1_1, y1_2, y1_3]) rfl ?_
  exact ⟨rfl, (Below.setCell (p := ⟨w.heap.size + 1, 3, none⟩) (Below.setCell (p := ⟨w.heap.size + 1, 2, none⟩) (Below.setCell (p := ⟨w.heap.size + 1, 1, none⟩) (Below.setCell (p := ⟨w.heap.size + 1, 0, none⟩) B (show w.heap.size ≤ w.heap.size + 1 by omega) _) (show w.heap.size ≤ w.heap.size + 1 by omega) _) (show w.heap.size ≤ w.heap.size + 1 by omega) _) (show w.heap.size ≤ w.heap.size + 1 by omega) _)⟩
set_option maxHeartbeats 2000000 in
theorem times_11 (w : World) : Calls Tryz.prog 158 #[.float .f64 4607182418800017408, .float .f64 4607182418800017408] w fun e w' => e = .returned (.agg #[.bool false, .int .i64 (-127), .int .u64 9223372036854775808, .int .u64 0]) ∧ Below w.heap.size w w' := by
  have hfb := floatbits_run
  go_enter Tryz.func158, Tryz.ntmps158
  go_wp2_with fail
  refine (mant_1 _).mono ?_
  rintro e w9 ⟨rfl, rfl⟩
  go_wp2_with fail
  refine (mant_1 _).mono ?_
  rintro e w9 ⟨rfl, rfl⟩
  go_wp2_with fail
  refine (mul_9223372036854775808_9223372036854775808 _).mono ?_
  rintro e w9 ⟨rfl, rfl⟩
  go_wp2_with fail
  refine (sb_4607182418800017408 _).mono ?_
  rintro e w9 ⟨rfl, rfl⟩
  go_wp2_with fail
  refine (sb_4607182418800017408 _).mono ?_
  rintro e w9 ⟨rfl, rfl⟩
  go_wp2_with fail
  obtain ⟨W1, hW1⟩ : ∃ W : World, W = w.alloc (.cells #[.bool false, .int .i64 0, .int .u64 0, .int .u64 0] 196) := ⟨_, rfl⟩
  rw [← hW1]
  have X0 : W1.heap[w.heap.size]? = some (.cells #[.bool false, .int .i64 0, .int .u64 0, .int .u64 0] 196 (0, 0)) := by rw [hW1]; exact (alloc_at (by simp))
  have z0 : w.heap.size < W1.heap.size := by rw [hW1]; simp <;> omega
  have B : Below w.heap.size w W1 := by rw [hW1]; exact (below_trans (Below.refl w.heap.size w) (below_alloc _ _))
  clear hW1
  refine (norm_126 _).mono ?_
  rintro e W2 ⟨rfl, hb2⟩
  replace X0 := (hb2.block _ z0).trans X0
  replace z0 := Nat.lt_of_lt_of_le z0 hb2.size
  replace B := below_trans B hb2
  clear hb2
  obtain ⟨f0_0, f0_1, f0_2, f0_3, y0_0, y0_1, y0_2, y0_3⟩ := bx4 X0
  go_wp2
  refine bodyPost_ret (v := .agg #[.bool false, .int .i64 (-127), .int .u64 9223372036854775808, .int .u64 0]) (by simp [results, Tryz.results158, go_sem, f0_0, f0_1, f0_2, f0_3, y0_0, y0_1, y0_2, y0_3]) rfl ?_
  exact ⟨rfl, (Below.setCell (p := ⟨w.heap.size, 3, none⟩) (Below.setCell (p := ⟨w.heap.size, 2, none⟩) (Below.setCell (p := ⟨w.heap.size, 1, none⟩) (Below.setCell (p := ⟨w.heap.size, 0, none⟩) B (show w.heap.size ≤ w.heap.size by omega) _) (show w.heap.size ≤ w.heap.size by omega) _) (show w.heap.size ≤ w.heap.size by omega) _) (show w.heap.size ≤ w.heap.size by omega) _)⟩
set_option maxHeartbeats 2000000 in
theorem times_12 (w : World) : Calls Tryz.prog 158 #[.float .f64 4607182418800017408, .float .f64 4611686018427387904] w fun e w' => e = .returned (.agg #[.bool false, .int .i64 (-126), .int .u64 9223372036854775808, .int .u64 0]) ∧ Below w.heap.size w w' := by
  have hfb := floatbits_run
  go_enter Tryz.func158, Tryz.ntmps158
  go_wp2_with fail
  refine (mant_1 _).mono ?_
  rintro e w9 ⟨rfl, rfl⟩
  go_wp2_with fail
  refine (mant_2 _).mono ?_
  rintro e w9 ⟨rfl, rfl⟩
  go_wp2_with fail
  refine (mul_9223372036854775808_9223372036854775808 _).mono ?_
  rintro e w9 ⟨rfl, rfl⟩
  go_wp2_with fail
  refine (sb_4607182418800017408 _).mono ?_
  rintro e w9 ⟨rfl, rfl⟩
  go_wp2_with fail
  refine (sb_4611686018427387904 _).mono ?_
  rintro e w9 ⟨rfl, rfl⟩
  go_wp2_with fail
  obtain ⟨W1, hW1⟩ : ∃ W : World, W = w.alloc (.cells #[.bool false, .int .i64 0, .int .u64 0, .int .u64 0] 196) := ⟨_, rfl⟩
  rw [← hW1]
  have X0 : W1.heap[w.heap.size]? = some (.cells #[.bool false, .int .i64 0, .int .u64 0, .int .u64 0] 196 (0, 0)) := by rw [hW1]; exact (alloc_at (by simp))
  have z0 : w.heap.size < W1.heap.size := by rw [hW1]; simp <;> omega
  have B : Below w.heap.size w W1 := by rw [hW1]; exact (below_trans (Below.refl w.heap.size w) (below_alloc _ _))
  clear hW1
  refine (norm_125 _).mono ?_
  rintro e W2 ⟨rfl, hb2⟩
  replace X0 := (hb2.block _ z0).trans X0
  replace z0 := Nat.lt_of_lt_of_le z0 hb2.size
  replace B := below_trans B hb2
  clear hb2
  obtain ⟨f0_0, f0_1, f0_2, f0_3, y0_0, y0_1, y0_2, y0_3⟩ := bx4 X0
  go_wp2
  refine bodyPost_ret (v := .agg #[.bool false, .int .i64 (-126), .int .u64 9223372036854775808, .int .u64 0]) (by simp [results, Tryz.results158, go_sem, f0_0, f0_1, f0_2, f0_3, y0_0, y0_1, y0_2, y0_3]) rfl ?_
  exact ⟨rfl, (Below.setCell (p := ⟨w.heap.size, 3, none⟩) (Below.setCell (p := ⟨w.heap.size, 2, none⟩) (Below.setCell (p := ⟨w.heap.size, 1, none⟩) (Below.setCell (p := ⟨w.heap.size, 0, none⟩) B (show w.heap.size ≤ w.heap.size by omega) _) (show w.heap.size ≤ w.heap.size by omega) _) (show w.heap.size ≤ w.heap.size by omega) _) (show w.heap.size ≤ w.heap.size by omega) _)⟩
set_option maxHeartbeats 2000000 in
theorem times_10 (w : World) : Calls Tryz.prog 158 #[.float .f64 4607182418800017408, .float .f64 0] w fun e w' => e = .returned (.agg #[.bool false, .int .i64 (-4194304), .int .u64 0, .int .u64 0]) ∧ Below w.heap.size w w' := by
  have hfb := floatbits_run
  go_enter Tryz.func158, Tryz.ntmps158
  go_wp2_with fail
  refine (mant_1 _).mono ?_
  rintro e w9 ⟨rfl, rfl⟩
  go_wp2_with fail
  refine (mant_0 _).mono ?_
  rintro e w9 ⟨rfl, rfl⟩
  go_wp2_with fail
  refine (mul_9223372036854775808_0 _).mono ?_
  rintro e w9 ⟨rfl, rfl⟩
  go_wp2_with fail
  refine (sb_4607182418800017408 _).mono ?_
  rintro e w9 ⟨rfl, rfl⟩
  go_wp2_with fail
  refine (sb_0 _).mono ?_
  rintro e w9 ⟨rfl, rfl⟩
  go_wp2_with fail
  obtain ⟨W1, hW1⟩ : ∃ W : World, W = w.alloc (.cells #[.bool false, .int .i64 0, .int .u64 0, .int .u64 0] 196) := ⟨_, rfl⟩
  rw [← hW1]
  have X0 : W1.heap[w.heap.size]? = some (.cells #[.bool false, .int .i64 0, .int .u64 0, .int .u64 0] 196 (0, 0)) := by rw [hW1]; exact (alloc_at (by simp))
  have z0 : w.heap.size < W1.heap.size := by rw [hW1]; simp <;> omega
  have B : Below w.heap.size w W1 := by rw [hW1]; exact (below_trans (Below.refl w.heap.size w) (below_alloc _ _))
  clear hW1
  refine (norm0_127 _).mono ?_
  rintro e W2 ⟨rfl, hb2⟩
  replace X0 := (hb2.block _ z0).trans X0
  replace z0 := Nat.lt_of_lt_of_le z0 hb2.size
  replace B := below_trans B hb2
  clear hb2
  obtain ⟨f0_0, f0_1, f0_2, f0_3, y0_0, y0_1, y0_2, y0_3⟩ := bx4 X0
  go_wp2
  refine bodyPost_ret (v := .agg #[.bool false, .int .i64 (-4194304), .int .u64 0, .int .u64 0]) (by simp [results, Tryz.results158, go_sem, f0_0, f0_1, f0_2, f0_3, y0_0, y0_1, y0_2, y0_3]) rfl ?_
  exact ⟨rfl, (Below.setCell (p := ⟨w.heap.size, 3, none⟩) (Below.setCell (p := ⟨w.heap.size, 2, none⟩) (Below.setCell (p := ⟨w.heap.size, 1, none⟩) (Below.setCell (p := ⟨w.heap.size, 0, none⟩) B (show w.heap.size ≤ w.heap.size by omega) _) (show w.heap.size ≤ w.heap.size by omega) _) (show w.heap.size ≤ w.heap.size by omega) _) (show w.heap.size ≤ w.heap.size by omega) _)⟩
set_option maxHeartbeats 2000000 in
theorem times_21 (w : World) : Calls Tryz.prog 158 #[.float .f64 4611686018427387904, .float .f64 4607182418800017408] w fun e w' => e = .returned (.agg #[.bool false, .int .i64 (-126), .int .u64 9223372036854775808, .int .u64 0]) ∧ Below w.heap.size w w' := by
  have hfb := floatbits_run
  go_enter Tryz.func158, Tryz.ntmps158
  go_wp2_with fail
  refine (mant_2 _).mono ?_
  rintro e w9 ⟨rfl, rfl⟩
  go_wp2_with fail
  refine (mant_1 _).mono ?_
  rintro e w9 ⟨rfl, rfl⟩
  go_wp2_with fail
  refine (mul_9223372036854775808_9223372036854775808 _).mono ?_
  rintro e w9 ⟨rfl, rfl⟩
  go_wp2_with fail
  refine (sb_4611686018427387904 _).mono ?_
  rintro e w9 ⟨rfl, rfl⟩
  go_wp2_with fail
  refine (sb_4607182418800017408 _).mono ?_
  rintro e w9 ⟨rfl, rfl⟩
  go_wp2_with fail
  obtain ⟨W1, hW1⟩ : ∃ W : World, W = w.alloc (.cells #[.bool false, .int .i64 0, .int .u64 0, .int .u64 0] 196) := ⟨_, rfl⟩
  rw [← hW1]
  have X0 : W1.heap[w.heap.size]? = some (.cells #[.bool false, .int .i64 0, .int .u64 0, .int .u64 0] 196 (0, 0)) := by rw [hW1]; exact (alloc_at (by simp))
  have z0 : w.heap.size < W1.heap.size := by rw [hW1]; simp <;> omega
  have B : Below w.heap.size w W1 := by rw [hW1]; exact (below_trans (Below.refl w.heap.size w) (below_alloc _ _))
  clear hW1
  refine (norm_125 _).mono ?_
  rintro e W2 ⟨rfl, hb2⟩
  replace X0 := (hb2.block _ z0).trans X0
  replace z0 := Nat.lt_of_lt_of_le z0 hb2.size
  replace B := below_trans B hb2
  clear hb2
  obtain ⟨f0_0, f0_1, f0_2, f0_3, y0_0, y0_1, y0_2, y0_3⟩ := bx4 X0
  go_wp2
  refine bodyPost_ret (v := .agg #[.bool false, .int .i64 (-126), .int .u64 9223372036854775808, .int .u64 0]) (by simp [results, Tryz.results158, go_sem, f0_0, f0_1, f0_2, f0_3, y0_0, y0_1, y0_2, y0_3]) rfl ?_
  exact ⟨rfl, (Below.setCell (p := ⟨w.heap.size, 3, none⟩) (Below.setCell (p := ⟨w.heap.size, 2, none⟩) (Below.setCell (p := ⟨w.heap.size, 1, none⟩) (Below.setCell (p := ⟨w.heap.size, 0, none⟩) B (show w.heap.size ≤ w.heap.size by omega) _) (show w.heap.size ≤ w.heap.size by omega) _) (show w.heap.size ≤ w.heap.size by omega) _) (show w.heap.size ≤ w.heap.size by omega) _)⟩
set_option maxHeartbeats 2000000 in
theorem times_22 (w : World) : Calls Tryz.prog 158 #[.float .f64 4611686018427387904, .float .f64 4611686018427387904] w fun e w' => e = .returned (.agg #[.bool false, .int .i64 (-125), .int .u64 9223372036854775808, .int .u64 0]) ∧ Below w.heap.size w w' := by
  have hfb := floatbits_run
  go_enter Tryz.func158, Tryz.ntmps158
  go_wp2_with fail
  refine (mant_2 _).mono ?_
  rintro e w9 ⟨rfl, rfl⟩
  go_wp2_with fail
  refine (mant_2 _).mono ?_
  rintro e w9 ⟨rfl, rfl⟩
  go_wp2_with fail
  refine (mul_9223372036854775808_9223372036854775808 _).mono ?_
  rintro e w9 ⟨rfl, rfl⟩
  go_wp2_with fail
  refine (sb_4611686018427387904 _).mono ?_
  rintro e w9 ⟨rfl, rfl⟩
  go_wp2_with fail
  refine (sb_4611686018427387904 _).mono ?_
  rintro e w9 ⟨rfl, rfl⟩
  go_wp2_with fail
  obtain ⟨W1, hW1⟩ : ∃ W : World, W = w.alloc (.cells #[.bool false, .int .i64 0, .int .u64 0, .int .u64 0] 196) := ⟨_, rfl⟩
  rw [← hW1]
  have X0 : W1.heap[w.heap.size]? = some (.cells #[.bool false, .int .i64 0, .int .u64 0, .int .u64 0] 196 (0, 0)) := by rw [hW1]; exact (alloc_at (by simp))
  have z0 : w.heap.size < W1.heap.size := by rw [hW1]; simp <;> omega
  have B : Below w.heap.size w W1 := by rw [hW1]; exact (below_trans (Below.refl w.heap.size w) (below_alloc _ _))
  clear hW1
  refine (norm_124 _).mono ?_
  rintro e W2 ⟨rfl, hb2⟩
  replace X0 := (hb2.block _ z0).trans X0
  replace z0 := Nat.lt_of_lt_of_le z0 hb2.size
  replace B := below_trans B hb2
  clear hb2
  obtain ⟨f0_0, f0_1, f0_2, f0_3, y0_0, y0_1, y0_2, y0_3⟩ := bx4 X0
  go_wp2
  refine bodyPost_ret (v := .agg #[.bool false, .int .i64 (-125), .int .u64 9223372036854775808, .int .u64 0]) (by simp [results, Tryz.results158, go_sem, f0_0, f0_1, f0_2, f0_3, y0_0, y0_1, y0_2, y0_3]) rfl ?_
  exact ⟨rfl, (Below.setCell (p := ⟨w.heap.size, 3, none⟩) (Below.setCell (p := ⟨w.heap.size, 2, none⟩) (Below.setCell (p := ⟨w.heap.size, 1, none⟩) (Below.setCell (p := ⟨w.heap.size, 0, none⟩) B (show w.heap.size ≤ w.heap.size by omega) _) (show w.heap.size ≤ w.heap.size by omega) _) (show w.heap.size ≤ w.heap.size by omega) _) (show w.heap.size ≤ w.heap.size by omega) _)⟩
set_option maxHeartbeats 2000000 in
theorem times_20 (w : World) : Calls Tryz.prog 158 #[.float .f64 4611686018427387904, .float .f64 0] w fun e w' => e = .returned (.agg #[.bool false, .int .i64 (-4194304), .int .u64 0, .int .u64 0]) ∧ Below w.heap.size w w' := by
  have hfb := floatbits_run
  go_enter Tryz.func158, Tryz.ntmps158
  go_wp2_with fail
  refine (mant_2 _).mono ?_
  rintro e w9 ⟨rfl, rfl⟩
  go_wp2_with fail
  refine (mant_0 _).mono ?_
  rintro e w9 ⟨rfl, rfl⟩
  go_wp2_with fail
  refine (mul_9223372036854775808_0 _).mono ?_
  rintro e w9 ⟨rfl, rfl⟩
  go_wp2_with fail
  refine (sb_4611686018427387904 _).mono ?_
  rintro e w9 ⟨rfl, rfl⟩
  go_wp2_with fail
  refine (sb_0 _).mono ?_
  rintro e w9 ⟨rfl, rfl⟩
  go_wp2_with fail
  obtain ⟨W1, hW1⟩ : ∃ W : World, W = w.alloc (.cells #[.bool false, .int .i64 0, .int .u64 0, .int .u64 0] 196) := ⟨_, rfl⟩
  rw [← hW1]
  have X0 : W1.heap[w.heap.size]? = some (.cells #[.bool false, .int .i64 0, .int .u64 0, .int .u64 0] 196 (0, 0)) := by rw [hW1]; exact (alloc_at (by simp))
  have z0 : w.heap.size < W1.heap.size := by rw [hW1]; simp <;> omega
  have B : Below w.heap.size w W1 := by rw [hW1]; exact (below_trans (Below.refl w.heap.size w) (below_alloc _ _))
  clear hW1
  refine (norm0_126 _).mono ?_
  rintro e W2 ⟨rfl, hb2⟩
  replace X0 := (hb2.block _ z0).trans X0
  replace z0 := Nat.lt_of_lt_of_le z0 hb2.size
  replace B := below_trans B hb2
  clear hb2
  obtain ⟨f0_0, f0_1, f0_2, f0_3, y0_0, y0_1, y0_2, y0_3⟩ := bx4 X0
  go_wp2
  refine bodyPost_ret (v := .agg #[.bool false, .int .i64 (-4194304), .int .u64 0, .int .u64 0]) (by simp [results, Tryz.results158, go_sem, f0_0, f0_1, f0_2, f0_3, y0_0, y0_1, y0_2, y0_3]) rfl ?_
  exact ⟨rfl, (Below.setCell (p := ⟨w.heap.size, 3, none⟩) (Below.setCell (p := ⟨w.heap.size, 2, none⟩) (Below.setCell (p := ⟨w.heap.size, 1, none⟩) (Below.setCell (p := ⟨w.heap.size, 0, none⟩) B (show w.heap.size ≤ w.heap.size by omega) _) (show w.heap.size ≤ w.heap.size by omega) _) (show w.heap.size ≤ w.heap.size by omega) _) (show w.heap.size ≤ w.heap.size by omega) _)⟩
set_option maxHeartbeats 2000000 in
theorem times_01 (w : World) : Calls Tryz.prog 158 #[.float .f64 0, .float .f64 4607182418800017408] w fun e w' => e = .returned (.agg #[.bool false, .int .i64 (-4194304), .int .u64 0, .int .u64 0]) ∧ Below w.heap.size w w' := by
  have hfb := floatbits_run
  go_enter Tryz.func158, Tryz.ntmps158
  go_wp2_with fail
  refine (mant_0 _).mono ?_
  rintro e w9 ⟨rfl, rfl⟩
  go_wp2_with fail
  refine (mant_1 _).mono ?_
  rintro e w9 ⟨rfl, rfl⟩
  go_wp2_with fail
  refine (mul_0_9223372036854775808 _).mono ?_
  rintro e w9 ⟨rfl, rfl⟩
  go_wp2_with fail
  refine (sb_0 _).mono ?_
  rintro e w9 ⟨rfl, rfl⟩
  go_wp2_with fail
  refine (sb_4607182418800017408 _).mono ?_
  rintro e w9 ⟨rfl, rfl⟩
  go_wp2_with fail
  obtain ⟨W1, hW1⟩ : ∃ W : World, W = w.alloc (.cells #[.bool false, .int .i64 0, .int .u64 0, .int .u64 0] 196) := ⟨_, rfl⟩
  rw [← hW1]
  have X0 : W1.heap[w.heap.size]? = some (.cells #[.bool false, .int .i64 0, .int .u64 0, .int .u64 0] 196 (0, 0)) := by rw [hW1]; exact (alloc_at (by simp))
  have z0 : w.heap.size < W1.heap.size := by rw [hW1]; simp <;> omega
  have B : Below w.heap.size w W1 := by rw [hW1]; exact (below_trans (Below.refl w.heap.size w) (below_alloc _ _))
  clear hW1
  refine (norm0_127 _).mono ?_
  rintro e W2 ⟨rfl, hb2⟩
  replace X0 := (hb2.block _ z0).trans X0
  replace z0 := Nat.lt_of_lt_of_le z0 hb2.size
  replace B := below_trans B hb2
  clear hb2
  obtain ⟨f0_0, f0_1, f0_2, f0_3, y0_0, y0_1, y0_2, y0_3⟩ := bx4 X0
  go_wp2
  refine bodyPost_ret (v := .agg #[.bool false, .int .i64 (-4194304), .int .u64 0, .int .u64 0]) (by simp [results, Tryz.results158, go_sem, f0_0, f0_1, f0_2, f0_3, y0_0, y0_1, y0_2, y0_3]) rfl ?_
  exact ⟨rfl, (Below.setCell (p := ⟨w.heap.size, 3, none⟩) (Below.setCell (p := ⟨w.heap.size, 2, none⟩) (Below.setCell (p := ⟨w.heap.size, 1, none⟩) (Below.setCell (p := ⟨w.heap.size, 0, none⟩) B (show w.heap.size ≤ w.heap.size by omega) _) (show w.heap.size ≤ w.heap.size by omega) _) (show w.heap.size ≤ w.heap.size by omega) _) (show w.heap.size ≤ w.heap.size by omega) _)⟩
set_option maxHeartbeats 2000000 in
theorem times_02 (w : World) : Calls Tryz.prog 158 #[.float .f64 0, .float .f64 4611686018427387904] w fun e w' => e = .returned (.agg #[.bool false, .int .i64 (-4194304), .int .u64 0, .int .u64 0]) ∧ Below w.heap.size w w' := by
  have hfb := floatbits_run
  go_enter Tryz.func158, Tryz.ntmps158
  go_wp2_with fail
  refine (mant_0 _).mono ?_
  rintro e w9 ⟨rfl, rfl⟩
  go_wp2_with fail
  refine (mant_2 _).mono ?_
  rintro e w9 ⟨rfl, rfl⟩
  go_wp2_with fail
  refine (mul_0_9223372036854775808 _).mono ?_
  rintro e w9 ⟨rfl, rfl⟩
  go_wp2_with fail
  refine (sb_0 _).mono ?_
  rintro e w9 ⟨rfl, rfl⟩
  go_wp2_with fail
  refine (sb_4611686018427387904 _).mono ?_
  rintro e w9 ⟨rfl, rfl⟩
  go_wp2_with fail
  obtain ⟨W1, hW1⟩ : ∃ W : World, W = w.alloc (.cells #[.bool false, .int .i64 0, .int .u64 0, .int .u64 0] 196) := ⟨_, rfl⟩
  rw [← hW1]
  have X0 : W1.heap[w.heap.size]? = some (.cells #[.bool false, .int .i64 0, .int .u64 0, .int .u64 0] 196 (0, 0)) := by rw [hW1]; exact (alloc_at (by simp))
  have z0 : w.heap.size < W1.heap.size := by rw [hW1]; simp <;> omega
  have B : Below w.heap.size w W1 := by rw [hW1]; exact (below_trans (Below.refl w.heap.size w) (below_alloc _ _))
  clear hW1
  refine (norm0_126 _).mono ?_
  rintro e W2 ⟨rfl, hb2⟩
  replace X0 := (hb2.block _ z0).trans X0
  replace z0 := Nat.lt_of_lt_of_le z0 hb2.size
  replace B := below_trans B hb2
  clear hb2
  obtain ⟨f0_0, f0_1, f0_2, f0_3, y0_0, y0_1, y0_2, y0_3⟩ := bx4 X0
  go_wp2
  refine bodyPost_ret (v := .agg #[.bool false, .int .i64 (-4194304), .int .u64 0, .int .u64 0]) (by simp [results, Tryz.results158, go_sem, f0_0, f0_1, f0_2, f0_3, y0_0, y0_1, y0_2, y0_3]) rfl ?_
  exact ⟨rfl, (Below.setCell (p := ⟨w.heap.size, 3, none⟩) (Below.setCell (p := ⟨w.heap.size, 2, none⟩) (Below.setCell (p := ⟨w.heap.size, 1, none⟩) (Below.setCell (p := ⟨w.heap.size, 0, none⟩) B (show w.heap.size ≤ w.heap.size by omega) _) (show w.heap.size ≤ w.heap.size by omega) _) (show w.heap.size ≤ w.heap.size by omega) _) (show w.heap.size ≤ w.heap.size by omega) _)⟩
set_option maxHeartbeats 2000000 in
theorem times_00 (w : World) : Calls Tryz.prog 158 #[.float .f64 0, .float .f64 0] w fun e w' => e = .returned (.agg #[.bool false, .int .i64 (-4194304), .int .u64 0, .int .u64 0]) ∧ Below w.heap.size w w' := by
  have hfb := floatbits_run
  go_enter Tryz.func158, Tryz.ntmps158
  go_wp2_with fail
  refine (mant_0 _).mono ?_
  rintro e w9 ⟨rfl, rfl⟩
  go_wp2_with fail
  refine (mant_0 _).mono ?_
  rintro e w9 ⟨rfl, rfl⟩
  go_wp2_with fail
  refine (mul_0_0 _).mono ?_
  rintro e w9 ⟨rfl, rfl⟩
  go_wp2_with fail
  refine (sb_0 _).mono ?_
  rintro e w9 ⟨rfl, rfl⟩
  go_wp2_with fail
  refine (sb_0 _).mono ?_
  rintro e w9 ⟨rfl, rfl⟩
  go_wp2_with fail
  obtain ⟨W1, hW1⟩ : ∃ W : World, W = w.alloc (.cells #[.bool false, .int .i64 0, .int .u64 0, .int .u64 0] 196) := ⟨_, rfl⟩
  rw [← hW1]
  have X0 : W1.heap[w.heap.size]? = some (.cells #[.bool false, .int .i64 0, .int .u64 0, .int .u64 0] 196 (0, 0)) := by rw [hW1]; exact (alloc_at (by simp))
  have z0 : w.heap.size < W1.heap.size := by rw [hW1]; simp <;> omega
  have B : Below w.heap.size w W1 := by rw [hW1]; exact (below_trans (Below.refl w.heap.size w) (below_alloc _ _))
  clear hW1
  refine (norm0_128 _).mono ?_
  rintro e W2 ⟨rfl, hb2⟩
  replace X0 := (hb2.block _ z0).trans X0
  replace z0 := Nat.lt_of_lt_of_le z0 hb2.size
  replace B := below_trans B hb2
  clear hb2
  obtain ⟨f0_0, f0_1, f0_2, f0_3, y0_0, y0_1, y0_2, y0_3⟩ := bx4 X0
  go_wp2
  refine bodyPost_ret (v := .agg #[.bool false, .int .i64 (-4194304), .int .u64 0, .int .u64 0]) (by simp [results, Tryz.results158, go_sem, f0_0, f0_1, f0_2, f0_3, y0_0, y0_1, y0_2, y0_3]) rfl ?_
  exact ⟨rfl, (Below.setCell (p := ⟨w.heap.size, 3, none⟩) (Below.setCell (p := ⟨w.heap.size, 2, none⟩) (Below.setCell (p := ⟨w.heap.size, 1, none⟩) (Below.setCell (p := ⟨w.heap.size, 0, none⟩) B (show w.heap.size ≤ w.heap.size by omega) _) (show w.heap.size ≤ w.heap.size by omega) _) (show w.heap.size ≤ w.heap.size by omega) _) (show w.heap.size ≤ w.heap.size by omega) _)⟩
end Go.Proofs.YtphlmmjlpbledaaGreatDoor
