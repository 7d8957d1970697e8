import Derived.Test.YtccldiokpgjocaaGreatDoorP16
import Derived.Test.YtccldiokpgjocaaGreatDoorP42
import Derived.Test.YtccldiokpgjocaaGreatDoorP50
set_option linter.unusedSimpArgs false
set_option linter.unusedVariables false
namespace Go.Proofs.YtccldiokpgjocaaGreatDoor
open Go.RowKit
set_option maxRecDepth 100000
theorem cmpI_eq (x : Int) : compare x x = Ordering.eq := by show compareOfLessAndEq _ _ = _; simp [compareOfLessAndEq]
theorem ord_self {b : Nat} (hb : b < 18446744073709551616) (h : fx b ≠ 2047) : FloatKind.f64.format.order b b = some Ordering.eq := by
  show Ieee.double.order b b = _
  rw [order_fI hb hb h h, cmpI_eq]
theorem read_pinf : Ieee.double.read 9218868437227405312 = .infinity false := by decide +kernel
theorem ord_inf {b : Nat} (hb : b < 18446744073709551616) (h : fx b ≠ 2047) : FloatKind.f64.format.order b 9218868437227405312 = some Ordering.lt ∧ FloatKind.f64.format.order 9218868437227405312 b = some Ordering.gt := by
  constructor
  · show Ieee.double.order b 9218868437227405312 = _
    unfold Ieee.Format.order
    rw [read_fin hb h, read_pinf]
    rfl
  · show Ieee.double.order 9218868437227405312 b = _
    unfold Ieee.Format.order
    rw [read_fin hb h, read_pinf]
    rfl
theorem ord_zero {b : Nat} (hb : b < 18446744073709551616) (h : fx b ≠ 2047) : FloatKind.f64.format.order b 0 = some (compare (fI b) 0) := by
  show Ieee.double.order b 0 = _
  rw [order_fI hb (by omega) h (by decide), fI_zero]
theorem fI_gt {n : Nat} (h : n < 9218868437227405312) (h0 : n ≠ 0) : 0 < fI n := by
  rw [fI_pos (by omega)]
  have hm : fmag n ≠ 0 := by
    unfold fmag fm fx
    split <;> omega
  have := fmag_pos hm
  omega
theorem fI_lt {n : Nat} (h : n < 9218868437227405312) (h0 : n ≠ 0) : fI (n + 9223372036854775808) < 0 := by
  rw [fI_neg' (by omega)]
  have hm : fmag n ≠ 0 := by
    unfold fmag fm fx
    split <;> omega
  have := fmag_pos hm
  omega
theorem neg_run (b : Nat) (W : World) : (Op.unary UnOp.neg (.float .f64 b)).run Tryz.prog W = .ok (.float .f64 (Op.negFloat .f64 b)) W := by
  simp [Op.unary]
theorem neg_ninf : Op.negFloat .f64 18442240474082181120 = 9218868437227405312 := by decide +kernel
theorem andNot_1 : bits BinOp.andNot IntKind.u64 1 9223372036854775808 = 1 := by decide +kernel
theorem and_inf : bits BinOp.and IntKind.u64 9218868437227405312 9223372036854775808 = 0 := by decide +kernel
theorem or_10 : bits BinOp.or IntKind.u64 1 0 = 1 := by decide +kernel
theorem nextafter_zero (w : World) :
    Calls Tryz.prog 24 #[.float .f64 0, .float .f64 9218868437227405312] w fun e w' => e = .returned (.float .f64 1) ∧ w = w' := by
  have o1 : FloatKind.f64.format.order 0 0 = some Ordering.eq := by decide +kernel
  have o2 : FloatKind.f64.format.order 9218868437227405312 9218868437227405312 = some Ordering.eq := by decide +kernel
  have o3 : FloatKind.f64.format.order 0 9218868437227405312 = some Ordering.lt := by decide +kernel
  have f1 : ∀ W, (callFunc 66 #[.int .u64 1]).run Tryz.prog W = .ok (.value (.float .f64 1)) W := fun W => frombits_run W 1
  have f2 : ∀ W, (callFunc 48 #[.float .f64 1]).run Tryz.prog W = .ok (.value (.int .u64 1)) W := fun W => floatbits_run W 1
  have f3 : ∀ W, (callFunc 48 #[.float .f64 9218868437227405312]).run Tryz.prog W = .ok (.value (.int .u64 9218868437227405312)) W := fun W => floatbits_run W 9218868437227405312
  have e1 := andNot_1
  have e2 := and_inf
  have e3 := or_10
  go_enter Tryz.func24, Tryz.ntmps24
  go_wp2
  go_ret
  exact ⟨rfl, rfl⟩
theorem nextafter_pos (L : Nat) (w : World) (h : L < 9218868437227405312) (h0 : L ≠ 0) :
    Calls Tryz.prog 24 #[.float .f64 L, .float .f64 9218868437227405312] w fun e w' => e = .returned (.float .f64 (L + 1)) ∧ w = w' := by
  have hx := fx_fin h
  have o1 := ord_self (b := L) (by omega) hx
  have o2 : FloatKind.f64.format.order 9218868437227405312 9218868437227405312 = some Ordering.eq := by decide +kernel
  obtain ⟨o3, o4⟩ := ord_inf (b := L) (by omega) hx
  have o5 : FloatKind.f64.format.order L 0 = some Ordering.gt := by rw [ord_zero (by omega) hx, Int.compare_eq_gt.2 (fI_gt h h0)]
  obtain ⟨M, hM⟩ : ∃ M, L + 1 = M := ⟨_, rfl⟩
  rw [hM]
  have f1 := (frombits_run · M)
  have f2 := (floatbits_run · L)
  have e1 : IntKind.u64.wrap ((L : Int) + 1) = (M : Int) := by simp [IntKind.wrap, IntKind.bits, IntKind.signed]; omega
  clear hM
  clear hx h h0
  go_enter Tryz.func24, Tryz.ntmps24
  go_wp2
  go_ret
  exact ⟨rfl, rfl⟩
theorem nextafter_neg (L : Nat) (w : World) (h : L < 9218868437227405312) (h0 : L ≠ 0) :
    Calls Tryz.prog 24 #[.float .f64 (L + 9223372036854775808), .float .f64 9218868437227405312] w fun e w' => e = .returned (.float .f64 (L + 9223372036854775808 - 1)) ∧ w = w' := by
  have hx := fx_fin' h
  have o5 : FloatKind.f64.format.order (L + 9223372036854775808) 0 = some Ordering.lt := by rw [ord_zero (by omega) hx, Int.compare_eq_lt.2 (fI_lt h h0)]
  obtain ⟨M, hM⟩ : ∃ M, L + 9223372036854775808 = M := ⟨_, rfl⟩
  have hM0 : 0 < M := by omega
  have hM1 : M < 18446744073709551616 := by omega
  rw [hM] at hx o5 ⊢
  have o1 := ord_self (b := M) hM1 hx
  have o2 : FloatKind.f64.format.order 9218868437227405312 9218868437227405312 = some Ordering.eq := by decide +kernel
  obtain ⟨o3, o4⟩ := ord_inf (b := M) hM1 hx
  obtain ⟨m, hm⟩ : ∃ m, M - 1 = m := ⟨_, rfl⟩
  rw [hm]
  have f1 := (frombits_run · m)
  have f2 := (floatbits_run · M)
  have e1 : IntKind.u64.wrap ((M : Int) - 1) = (m : Int) := by simp [IntKind.wrap, IntKind.bits, IntKind.signed]; omega
  clear hm hM
  clear hx h h0 hM1 hM0
  go_enter Tryz.func24, Tryz.ntmps24
  go_wp2
  go_ret
  exact ⟨rfl, rfl⟩
theorem nextafter_ninf (w : World) :
    Calls Tryz.prog 24 #[.float .f64 18442240474082181120, .float .f64 9218868437227405312] w fun e w' => e = .returned (.float .f64 18442240474082181119) ∧ w = w' := by
  have o1 : FloatKind.f64.format.order 18442240474082181120 18442240474082181120 = some Ordering.eq := by decide +kernel
  have o2 : FloatKind.f64.format.order 9218868437227405312 9218868437227405312 = some Ordering.eq := by decide +kernel
  have o3 : FloatKind.f64.format.order 18442240474082181120 9218868437227405312 = some Ordering.lt := by decide +kernel
  have o4 : FloatKind.f64.format.order 9218868437227405312 18442240474082181120 = some Ordering.gt := by decide +kernel
  have o5 : FloatKind.f64.format.order 18442240474082181120 0 = some Ordering.lt := by decide +kernel
  have f1 : ∀ W, (callFunc 66 #[.int .u64 18442240474082181119]).run Tryz.prog W = .ok (.value (.float .f64 18442240474082181119)) W := fun W => frombits_run W 18442240474082181119
  have f2 : ∀ W, (callFunc 48 #[.float .f64 18442240474082181120]).run Tryz.prog W = .ok (.value (.int .u64 18442240474082181120)) W := fun W => floatbits_run W 18442240474082181120
  go_enter Tryz.func24, Tryz.ntmps24
  go_wp2
  go_ret
  exact ⟨rfl, rfl⟩
theorem inf_one (w : World) :
    Calls Tryz.prog 25 #[.int .i64 1] w fun e w' => e = .returned (.float .f64 9218868437227405312) ∧ w = w' := by
  have f1 : ∀ W, (callFunc 66 #[.int .u64 9218868437227405312]).run Tryz.prog W = .ok (.value (.float .f64 9218868437227405312)) W := fun W => frombits_run W 9218868437227405312
  go_enter Tryz.func25, Tryz.ntmps25
  go_wp2
  go_ret
  exact ⟨rfl, rfl⟩
theorem isInf_neg (w : World) :
    Calls Tryz.prog 22 #[.float .f64 18442240474082181120, .int .i64 (-1)] w fun e w' => e = .returned (.bool true) ∧ w = w' := by
  have o1 : FloatKind.f64.format.order 9218868437227405312 9218868437227405311 = some Ordering.gt := by decide +kernel
  have n1 := neg_run 18442240474082181120
  rw [neg_ninf] at n1
  go_enter Tryz.func22, Tryz.ntmps22
  go_wp2
  go_ret
  exact ⟨rfl, rfl⟩
theorem isInf_pos (w : World) :
    Calls Tryz.prog 22 #[.float .f64 9218868437227405312, .int .i64 1] w fun e w' => e = .returned (.bool true) ∧ w = w' := by
  have o1 : FloatKind.f64.format.order 9218868437227405312 9218868437227405311 = some Ordering.gt := by decide +kernel
  go_enter Tryz.func22, Tryz.ntmps22
  go_wp2
  go_ret
  exact ⟨rfl, rfl⟩
theorem mag_step {n : Nat} (h : n + 1 < 9218868437227405312) : fmag n * 2 ^ fup n < fmag (n + 1) * 2 ^ fup (n + 1) := by
  have h1 : fx n = n / 4503599627370496 := by unfold fx; omega
  have h2 : fx (n + 1) = (n + 1) / 4503599627370496 := by unfold fx; omega
  rcases (show (n + 1) / 4503599627370496 = n / 4503599627370496 ∨ (n + 1) / 4503599627370496 = n / 4503599627370496 + 1 by omega) with e | e
  · have e1 : fx (n + 1) = fx n := by rw [h1, h2, e]
    have e2 : fm (n + 1) = fm n + 1 := by unfold fm; omega
    have e3 : fmag (n + 1) = fmag n + 1 := by unfold fmag; rw [e1, e2]; split <;> omega
    have e4 : fup (n + 1) = fup n := by unfold fup; rw [e1]
    rw [e3, e4, Nat.add_mul]
    have := Nat.pow_pos (a := 2) (n := fup n) (by omega)
    omega
  · have e1 : fx (n + 1) = fx n + 1 := by rw [h1, h2, e]
    have e2 : fm (n + 1) = 0 := by unfold fm; omega
    have e3 : fmag (n + 1) = 4503599627370496 := by unfold fmag; rw [e1, e2, if_neg (by omega)]
    have e4 : fup (n + 1) = fx n := by unfold fup; rw [e1]; omega
    rw [e3, e4]
    rcases Nat.eq_zero_or_pos (fx n) with e0 | e0
    · have : fmag n = fm n := by unfold fmag; rw [if_pos e0]
      have := fm_lt n
      have e5 : fup n = 0 := by unfold fup; omega
      rw [e5, e0]
      omega
    · obtain ⟨k, hk⟩ : ∃ k, fx n = k + 1 := ⟨fx n - 1, by omega⟩
      have e5 : fup n = k := by unfold fup; omega
      rw [e5, hk, Nat.pow_succ]
      have := fmag_lt n
      have hp := Nat.pow_pos (a := 2) (n := k) (by omega)
      have h9 : fmag n * 2 ^ k < 9007199254740992 * 2 ^ k := Nat.mul_lt_mul_of_pos_right this hp
      generalize 2 ^ k = x at *
      omega
theorem fI_step {n : Nat} (h : n + 1 < 9218868437227405312) : fI n < fI (n + 1) := by
  rw [fI_pos (by omega), fI_pos (by omega)]
  exact Int.ofNat_lt.2 (mag_step h)
theorem fI_step' {n : Nat} (h : n + 1 < 9218868437227405312) : fI (n + 1 + 9223372036854775808) < fI (n + 9223372036854775808) := by
  rw [fI_neg' (by omega), fI_neg' (by omega)]
  have := Int.ofNat_lt.2 (mag_step h)
  omega
theorem nextafter_any {L H : Nat} (h : (L < 9218868437227405312 ∧ H = L + 1) ∨ ∃ n, n < 9218868437227405312 ∧ L = n + 1 + 9223372036854775808 ∧ H = if n = 0 then 0 else n + 9223372036854775808) :
    (FloatKind.f64.format.order L H == some Ordering.eq) = false ∧ ∃ N, (FloatKind.f64.format.order N H == some Ordering.eq) = true ∧
      ∀ W, Calls Tryz.prog 24 #[.float .f64 L, .float .f64 9218868437227405312] W fun e w' => e = .returned (.float .f64 N) ∧ W = w' := by
  rcases h with ⟨h, rfl⟩ | ⟨n, h, rfl, rfl⟩
  · have hx := fx_fin h
    rcases Nat.eq_zero_or_pos L with rfl | h0
    · exact ⟨by decide +kernel, 1, by decide +kernel, nextafter_zero⟩
    · rcases Nat.lt_or_ge (L + 1) 9218868437227405312 with h1 | h1
      · refine ⟨?_, _, ?_, fun W => nextafter_pos L W h (by omega)⟩
        · show (Ieee.double.order L (L + 1) == some Ordering.eq) = false
          rw [order_fI (by omega) (by omega) hx (fx_fin h1), Int.compare_eq_lt.2 (fI_step h1)]
          rfl
        · rw [ord_self (by omega) (fx_fin h1)]; rfl
      · obtain rfl : L = 9218868437227405311 := by omega
        exact ⟨by decide +kernel, _, by decide +kernel, fun W => nextafter_pos _ W h (by omega)⟩
  · have hx := fx_fin' h
    rcases Nat.eq_zero_or_pos n with rfl | h0
    · exact ⟨by decide +kernel, 9223372036854775808, by decide +kernel, fun W => nextafter_neg 1 W (by omega) (by omega)⟩
    · rw [if_neg (by omega)]
      rcases Nat.lt_or_ge (n + 1) 9218868437227405312 with h1 | h1
      · refine ⟨?_, n + 9223372036854775808, ?_, fun W => ?_⟩
        · show (Ieee.double.order (n + 1 + 9223372036854775808) (n + 9223372036854775808) == some Ordering.eq) = false
          rw [order_fI (by omega) (by omega) (fx_fin' h1) hx, Int.compare_eq_lt.2 (fI_step' h1)]
          rfl
        · rw [ord_self (by omega) hx]; rfl
        · have := nextafter_neg (n + 1) W h1 (by omega)
          rw [show n + 1 + 9223372036854775808 - 1 = n + 9223372036854775808 by omega] at this
          exact this
      · obtain rfl : n = 9218868437227405311 := by omega
        exact ⟨by decide +kernel, _, by decide +kernel, nextafter_ninf⟩
end Go.Proofs.YtccldiokpgjocaaGreatDoor
set_option linter.unusedSimpArgs false
set_option linter.unusedVariables false
namespace Go.Proofs.YtccldiokpgjocaaGreatDoor
open Go.RowKit
theorem cf_im (L : Nat) : (cf L 0).im = 0 := by
  show (fI 0 : Rat) / (two74 : Rat) = 0
  rw [fI_zero, Rat.div_def]
  exact Rat.zero_mul _
theorem cmpC_cf {x : Cx} {a b : Int} {d : Nat} (L : Nat) (hl : Low x a b d) : cmpC (cf L 0) x.real = cmpI (fI L * (d : Int)) (a * (two74 : Int)) := by
  have h1 : sgnR ((cf L 0).re - x.real.re) = cmpI (fI L * (d : Int)) (a * (two74 : Int)) := sub_sgn two74_pos hl.pos (div_two74 _) hl.2.2.1
  have h2 : sgnR ((cf L 0).im - x.real.im) = 0 := by
    rw [cf_im, show x.real.im = 0 from rfl]
    decide +kernel
  unfold cmpC
  rw [h1, h2]
  split
  · rfl
  · rename_i h
    exact (Classical.not_not.1 h).symm
theorem dir_low {x : Cx} {a b : Int} {d L : Nat} (hl : Low x a b d) (h : fI L * (d : Int) ≤ a * (two74 : Int)) : ¬ (0 < cmpC (cf L 0) x.real) := by
  rw [cmpC_cf L hl]
  unfold cmpI
  split
  · omega
  · split <;> omega
theorem dir_high {x : Cx} {a b : Int} {d H : Nat} (hl : Low x a b d) (h : a * (two74 : Int) ≤ fI H * (d : Int)) : ¬ (cmpC (cf H 0) x.real < 0) := by
  rw [cmpC_cf H hl]
  unfold cmpI
  split
  · omega
  · split <;> omega
theorem dir_same {x : Cx} {a b : Int} {d L : Nat} (hl : Low x a b d) (h : IsF L a d) : cf L 0 = x.real := by
  refine Cx.ext ?_ (cf_im L)
  have hd := natCast_ne hl.pos
  have ht := natCast_ne two74_pos
  have h1 : (cf L 0).re * (two74 : Rat) = (fI L : Rat) := div_two74 _
  have h2 : x.re * (d : Rat) = (a : Rat) := hl.2.2.1
  have h3 : (a : Rat) * (two74 : Rat) = (fI L : Rat) * (d : Rat) := by
    have := congrArg (fun z : Int => (z : Rat)) h
    simp only [Rat.intCast_mul, Rat.intCast_natCast] at this
    exact this
  show (cf L 0).re = x.re
  grind
end Go.Proofs.YtccldiokpgjocaaGreatDoor
