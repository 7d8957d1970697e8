/- Complex64: walks. -/
import Derived.Test.YtphlmmjlpbledaaGreatDoorK27
import Derived.Test.YtphlmmjlpbledaaGreatDoorFQ1
import Derived.Test.YtphlmmjlpbledaaGreatDoorK28
import Derived.Test.YtphlmmjlpbledaaGreatDoorK35
import Derived.Test.YtphlmmjlpbledaaGreatDoorK37
import Derived.Test.YtphlmmjlpbledaaGreatDoorFQ2
import Derived.Test.YtphlmmjlpbledaaGreatDoorFQ3
set_option linter.unusedSimpArgs false
set_option linter.unusedVariables false
namespace Go.Proofs.YtphlmmjlpbledaaGreatDoor
open Go.RowKit
set_option maxRecDepth 100000

theorem fm_single : Fm 24 (-149) 104 := by unfold Fm; omega
theorem frombits32_run (w : World) (n : Nat) : (callFunc 25 #[.int .u32 (n : Int)]).run Tryz.prog w = .ok (.value (.float .f32 n)) w := by
  rw [run_callFunc_extern (f := 25) (fn := Tryz.f25) (e := Extern.MathFloatBits.float32frombits) (by kernel_rfl) (by kernel_rfl) (by kernel_rfl) (by kernel_rfl) (by kernel_rfl)]
  rfl
theorem u32_nat {m : Nat} (h : m < 4294967296) : (m : Int) % 4294967296 = (m : Int) := by omega
theorem toFloat32_any (m : Nat) (neg : Bool) (w : World) (hm : m < 2147483648) :
    Calls Tryz.prog 90 #[.int .u64 (m : Int), .bool neg] w fun e w' => e = .returned (.float .f32 (flt32 m neg)) ∧ w = w' := by
  have hfb := frombits32_run
  have hw := u32_nat (m := m) (by omega)
  cases neg
  · have hx : flt32 m false = m := by simp [flt32]
    rw [hx]
    clear hx
    go_enter Tryz.func90, Tryz.ntmps90
    go_wp2
    go_ret
    exact ⟨rfl, rfl⟩
  · by_cases h0 : m = 0
    · subst h0
      have hfb0 : ∀ w, (callFunc 25 #[.int .u32 0]).run Tryz.prog w = .ok (.value (.float .f32 0)) w := fun w => frombits32_run w 0
      have hx : flt32 0 true = 0 := by simp [flt32]
      rw [hx]
      clear hx
      go_enter Tryz.func90, Tryz.ntmps90
      go_wp2
      go_ret
      exact ⟨rfl, rfl⟩
    · have hx : flt32 m true = m ||| 2147483648 := by simp [flt32, h0]
      rw [hx]
      clear hx
      have b1 : ((m : Int) == 0) = false := by simp; omega
      have b2 : ((m : Int) != 0) = true := by simp; omega
      have hor : bits BinOp.or IntKind.u64 (m : Int) 2147483648 = ((m ||| 2147483648 : Nat) : Int) := u64_or_nat m 2147483648 (by omega) (by omega)
      have hk := or_31 hm
      generalize m ||| 2147483648 = k at *
      have hw2 := u32_nat (m := k) (by omega)
      clear hk
      go_enter Tryz.func90, Tryz.ntmps90
      go_wp2
      go_ret
      exact ⟨rfl, rfl⟩
theorem single_any (w : World) : Calls Tryz.prog 89 #[] w fun e w' => e = .returned (fmtV 24 (-149) 104) ∧ Below w.heap.size w w' := by
  go_enter Tryz.func89, Tryz.ntmps89
  go_wp2
  refine bodyPost_ret (v := fmtV 24 (-149) 104) (by simp [results, Tryz.results89, go_sem, fmtV]) rfl ?_
  exact ⟨rfl, below_alloc _ _⟩
set_option maxHeartbeats 1000000 in
theorem near64_any (v : Value) (x : Cx) (a b : Int) (d : Nat) (w : World) (h : IsNum w v x) (hx : Low x a b d) (sa : wl a.natAbs < 268435456) (sb : wl b.natAbs < 268435456) (sd : wl d < 268435456) (la : rdF 24 (-149) 104 a.natAbs d 2 < 2147483648) (lb : rdF 24 (-149) 104 b.natAbs d 2 < 2147483648) :
    Calls Tryz.prog 28 #[v] w fun e w' => e = .returned (.complex .f32 (nearB32 a d) (nearB32 b d)) ∧ Below w.heap.size w w' := by
  have HD := Lib.hid (fun W (hb : Below w.heap.size w W) => denominator_any _ _ W (h.below hb) a b d hx)
  obtain ⟨A1, n1, c1, p1, A2, n2, c2, p2, A3, n3, c3, a', b', d', rfl, hl, hr, hi, hs, -, hq1, hq2, hra, hib⟩ := h.parts
  obtain ⟨rfl, rfl, rfl⟩ := hx.uniq hl
  have hd := hl.pos
  have HDb := Lib.hid (fun W => single_any W)
  have hra' : ∀ W u (hb : Below w.heap.size w W) (hu : IsNat W u d), Calls Tryz.prog 87 #[fmtV 24 (-149) 104, .slice A1 n1 c1, u, .int .i64 2] W fun e w' => e = .returned (.int .u64 ((rdF 24 (-149) 104 a.natAbs d 2 : Nat) : Int)) ∧ Below W.heap.size W w' :=
    fun W u hb hu => round_any _ u _ _ 24 (-149) 104 2 W fm_single (hra.below hb) hu hd sa sd (by omega)
  have hib' : ∀ W u (hb : Below w.heap.size w W) (hu : IsNat W u d), Calls Tryz.prog 87 #[fmtV 24 (-149) 104, .slice A2 n2 c2, u, .int .i64 2] W fun e w' => e = .returned (.int .u64 ((rdF 24 (-149) 104 b.natAbs d 2 : Nat) : Int)) ∧ Below W.heap.size W w' :=
    fun W u hb hu => round_any _ u _ _ 24 (-149) 104 2 W fm_single (hib.below hb) hu hd sb sd (by omega)
  have HRa := Lib.hid hra'
  have HRb := Lib.hid hib'
  have HTa := Lib.hid (fun W => toFloat32_any (rdF 24 (-149) 104 a.natAbs d 2) p1 W la)
  have HTb := Lib.hid (fun W => toFloat32_any (rdF 24 (-149) 104 b.natAbs d 2) p2 W lb)
  have hna : nearB32 a d = flt32 (rdF 24 (-149) 104 a.natAbs d 2) p1 := by rw [hq1]; rfl
  have hnb : nearB32 b d = flt32 (rdF 24 (-149) 104 b.natAbs d 2) p2 := by rw [hq2]; rfl
  rw [hna, hnb]
  clear la lb hna hnb hra' hib' hd hq1 hq2 hra hib hl hr hi hs h hx sa sb sd
  generalize rdF 24 (-149) 104 a.natAbs d 2 = ma at *
  generalize rdF 24 (-149) 104 b.natAbs d 2 = mb at *
  go_enter Tryz.func28, Tryz.ntmps28
  go_upto_region 1 with fail
  obtain ⟨W1, hW1⟩ : ∃ W1 : World, W1 = (w.alloc (.cells #[.slice A1 n1 c1, .bool p1, .slice A2 n2 c2, .bool p2, .slice A3 n3 c3] 28)) := ⟨_, rfl⟩
  rw [← hW1]
  have B1 : Below w.heap.size w W1 := by rw [hW1]; exact (by (repeat (first | exact Below.refl _ _ | assumption | with_reducible refine Below.drew ?_ | with_reducible refine below_trans ?_ (below_alloc _ _) | with_reducible refine below_trans ?_ (below_drewN _ _) | with_reducible refine Below.setCell ?_ (by simp <;> omega) _ | refine below_trans ?_ (by assumption))))
  have hz1 : w.heap.size + 1 ≤ W1.heap.size := by rw [hW1]; simp
  obtain ⟨f0_0, f0_1, f0_2, f0_3, f0_4, yf0_0, yf0_1, yf0_2, yf0_3, yf0_4⟩ : Bx5 W1 (w.heap.size) (.slice A1 n1 c1) (.bool p1) (.slice A2 n2 c2) (.bool p2) (.slice A3 n3 c3) := by rw [hW1]; simp [Bx5, go_sem]
  clear hW1
  have lt0_0 : w.heap.size < W1.heap.size := (by omega)
  have ne0_0_0 : w.heap.size ≠ W1.heap.size := (by omega)
  have en0_0_0 : W1.heap.size ≠ w.heap.size := (by omega)
  go_region_held3 (fun w' => w'.cell? ⟨w.heap.size, 0, none⟩ = some (.slice A1 n1 c1) ∧ w'.cell? ⟨w.heap.size, 1, none⟩ = some (.bool p1) ∧ w'.cell? ⟨w.heap.size, 2, none⟩ = some (.slice A2 n2 c2) ∧ w'.cell? ⟨w.heap.size, 3, none⟩ = some (.bool p2) ∧ w'.cell? ⟨w.heap.size, 4, none⟩ = some (.slice A3 n3 c3)) (go_keep) (first | (go_at_call 89; (first | ((with_reducible refine (HDb.out _).mono ?_);  (rintro e W7 ⟨rfl, hb7⟩; have kb7 : Below W1.heap.size W1 W7 := (by (repeat (first | exact Below.refl _ _ | assumption | with_reducible refine Below.drew ?_ | with_reducible refine below_trans ?_ (below_alloc _ _) | with_reducible refine below_trans ?_ (below_drewN _ _) | with_reducible refine Below.setCell ?_ (by simp <;> omega) _ | refine below_trans ?_ (by assumption)))); clear hb7; obtain ⟨hc7, hf7, hz7⟩ := bcells kb7 (W1.heap.size) (by omega))))) | (go_at_call 66; (first | ((with_reducible refine (HD.out _ ?_).mono ?_); (exact (by (repeat (first | exact Below.refl _ _ | assumption | with_reducible refine Below.drew ?_ | with_reducible refine below_trans ?_ (below_alloc _ _) | with_reducible refine below_trans ?_ (below_drewN _ _) | with_reducible refine Below.setCell ?_ (by simp <;> omega) _ | refine below_trans ?_ (by assumption))))); (rintro e W8 ⟨r8, rfl, hr8, hb8⟩; obtain ⟨A8, n8, c8, rfl, hnn8⟩ := hr8.ex; clear hnn8; have kb8 : Below W7.heap.size W7 W8 := (by (repeat (first | exact Below.refl _ _ | assumption | with_reducible refine Below.drew ?_ | with_reducible refine below_trans ?_ (below_alloc _ _) | with_reducible refine below_trans ?_ (below_drewN _ _) | with_reducible refine Below.setCell ?_ (by simp <;> omega) _ | refine below_trans ?_ (by assumption)))); clear hb8; obtain ⟨hc8, hf8, hz8⟩ := bcells kb8 (W1.heap.size) (by omega))))) | (go_at_call 87; (first | ((with_reducible refine (HRa.out _ _ ?_ ?_).mono ?_); (exact (by (repeat (first | exact Below.refl _ _ | assumption | with_reducible refine Below.drew ?_ | with_reducible refine below_trans ?_ (below_alloc _ _) | with_reducible refine below_trans ?_ (below_drewN _ _) | with_reducible refine Below.setCell ?_ (by simp <;> omega) _ | refine below_trans ?_ (by assumption))))); (exact hr8.below (by (repeat (first | exact Below.refl _ _ | assumption | with_reducible refine Below.drew ?_ | with_reducible refine below_trans ?_ (below_alloc _ _) | with_reducible refine below_trans ?_ (below_drewN _ _) | with_reducible refine Below.setCell ?_ (by simp <;> omega) _ | refine below_trans ?_ (by assumption))))); (rintro e W9 ⟨rfl, hb9⟩; have kb9 : Below W8.heap.size W8 W9 := (by (repeat (first | exact Below.refl _ _ | assumption | with_reducible refine Below.drew ?_ | with_reducible refine below_trans ?_ (below_alloc _ _) | with_reducible refine below_trans ?_ (below_drewN _ _) | with_reducible refine Below.setCell ?_ (by simp <;> omega) _ | refine below_trans ?_ (by assumption)))); clear hb9; obtain ⟨hc9, hf9, hz9⟩ := bcells kb9 (W1.heap.size) (by omega))))))
  go_wp2_with fail
  have KB := below_trans (below_trans kb7 kb8) kb9
  have B9 := below_trans B1 KB
  have hK9 := (Kept.refl W1 (Nat.le_refl _)).below KB
  have hz9' : W1.heap.size ≤ W9.heap.size := hK9.2.2.1
  obtain ⟨g0_0, g0_1, g0_2, g0_3, g0_4, yg0_0, yg0_1, yg0_2, yg0_3, yg0_4⟩ := hK9.k5 (b := w.heap.size) (by omega) f0_0 f0_1 f0_2 f0_3 f0_4 yf0_0 yf0_1 yf0_2 yf0_3 yf0_4
  clear hK9 KB hc7 hf7 hc8 hf8 hc9 hf9 kb7 kb8 kb9 f0_0 yf0_0 f0_1 yf0_1 f0_2 yf0_2 f0_3 yf0_3 f0_4 yf0_4
  have lt9_0 : w.heap.size < W9.heap.size := (by omega)
  have ne9_0_0 : w.heap.size ≠ W9.heap.size := (by omega)
  have en9_0_0 : W9.heap.size ≠ w.heap.size := (by omega)
  go_region_held3 (fun w' => w'.cell? ⟨w.heap.size, 0, none⟩ = some (.slice A1 n1 c1) ∧ w'.cell? ⟨w.heap.size, 1, none⟩ = some (.bool p1) ∧ w'.cell? ⟨w.heap.size, 2, none⟩ = some (.slice A2 n2 c2) ∧ w'.cell? ⟨w.heap.size, 3, none⟩ = some (.bool p2) ∧ w'.cell? ⟨w.heap.size, 4, none⟩ = some (.slice A3 n3 c3)) (go_keep) (first | (go_at_call 89; (first | ((with_reducible refine (HDb.out _).mono ?_);  (rintro e W17 ⟨rfl, hb17⟩; have kb17 : Below W9.heap.size W9 W17 := (by (repeat (first | exact Below.refl _ _ | assumption | with_reducible refine Below.drew ?_ | with_reducible refine below_trans ?_ (below_alloc _ _) | with_reducible refine below_trans ?_ (below_drewN _ _) | with_reducible refine Below.setCell ?_ (by simp <;> omega) _ | refine below_trans ?_ (by assumption)))); clear hb17; obtain ⟨hc17, hf17, hz17⟩ := bcells kb17 (W9.heap.size) (by omega))))) | (go_at_call 66; (first | ((with_reducible refine (HD.out _ ?_).mono ?_); (exact (by (repeat (first | exact Below.refl _ _ | assumption | with_reducible refine Below.drew ?_ | with_reducible refine below_trans ?_ (below_alloc _ _) | with_reducible refine below_trans ?_ (below_drewN _ _) | with_reducible refine Below.setCell ?_ (by simp <;> omega) _ | refine below_trans ?_ (by assumption))))); (rintro e W18 ⟨r18, rfl, hr18, hb18⟩; obtain ⟨A18, n18, c18, rfl, hnn18⟩ := hr18.ex; clear hnn18; have kb18 : Below W17.heap.size W17 W18 := (by (repeat (first | exact Below.refl _ _ | assumption | with_reducible refine Below.drew ?_ | with_reducible refine below_trans ?_ (below_alloc _ _) | with_reducible refine below_trans ?_ (below_drewN _ _) | with_reducible refine Below.setCell ?_ (by simp <;> omega) _ | refine below_trans ?_ (by assumption)))); clear hb18; obtain ⟨hc18, hf18, hz18⟩ := bcells kb18 (W9.heap.size) (by omega))))) | (go_at_call 87; (first | ((with_reducible refine (HRb.out _ _ ?_ ?_).mono ?_); (exact (by (repeat (first | exact Below.refl _ _ | assumption | with_reducible refine Below.drew ?_ | with_reducible refine below_trans ?_ (below_alloc _ _) | with_reducible refine below_trans ?_ (below_drewN _ _) | with_reducible refine Below.setCell ?_ (by simp <;> omega) _ | refine below_trans ?_ (by assumption))))); (exact hr18.below (by (repeat (first | exact Below.refl _ _ | assumption | with_reducible refine Below.drew ?_ | with_reducible refine below_trans ?_ (below_alloc _ _) | with_reducible refine below_trans ?_ (below_drewN _ _) | with_reducible refine Below.setCell ?_ (by simp <;> omega) _ | refine below_trans ?_ (by assumption))))); (rintro e W19 ⟨rfl, hb19⟩; have kb19 : Below W18.heap.size W18 W19 := (by (repeat (first | exact Below.refl _ _ | assumption | with_reducible refine Below.drew ?_ | with_reducible refine below_trans ?_ (below_alloc _ _) | with_reducible refine below_trans ?_ (below_drewN _ _) | with_reducible refine Below.setCell ?_ (by simp <;> omega) _ | refine below_trans ?_ (by assumption)))); clear hb19; obtain ⟨hc19, hf19, hz19⟩ := bcells kb19 (W9.heap.size) (by omega))))))
  go_wp2_with fail
  have KB := below_trans (below_trans kb17 kb18) kb19
  have B19 := below_trans B9 KB
  have hK19 := (Kept.refl W9 (Nat.le_refl _)).below KB
  have hz19' : W9.heap.size ≤ W19.heap.size := hK19.2.2.1
  obtain ⟨j0_0, j0_1, j0_2, j0_3, j0_4, yj0_0, yj0_1, yj0_2, yj0_3, yj0_4⟩ := hK19.k5 (b := w.heap.size) (by omega) g0_0 g0_1 g0_2 g0_3 g0_4 yg0_0 yg0_1 yg0_2 yg0_3 yg0_4
  clear hK19 KB hc17 hf17 hc18 hf18 hc19 hf19 kb17 kb18 kb19 g0_0 yg0_0 g0_1 yg0_1 g0_2 yg0_2 g0_3 yg0_3 g0_4 yg0_4
  have lt19_0 : w.heap.size < W19.heap.size := (by omega)
  have ne19_0_0 : w.heap.size ≠ W19.heap.size := (by omega)
  have en19_0_0 : W19.heap.size ≠ w.heap.size := (by omega)
  go_region_held3 (fun w' => w'.cell? ⟨w.heap.size, 1, none⟩ = some (.bool p1) ∧ w'.cell? ⟨w.heap.size, 3, none⟩ = some (.bool p2)) (go_keep) (first | (go_at_call 90; (first | ((with_reducible refine (HTa.out _).mono ?_); (rintro e W20 ⟨rfl, rfl⟩)) | ((with_reducible refine (HTb.out _).mono ?_); (rintro e W21 ⟨rfl, rfl⟩)))))
  go_wp2
  go_ret
  exact ⟨rfl, (by (repeat (first | exact Below.refl _ _ | assumption | exact B19 | with_reducible refine Below.drew ?_ | with_reducible refine below_trans ?_ (below_alloc _ _) | with_reducible refine below_trans ?_ (below_drewN _ _) | with_reducible refine Below.setCell ?_ (by simp <;> omega) _ | refine below_trans ?_ (by assumption))))⟩
end Go.Proofs.YtphlmmjlpbledaaGreatDoor
set_option linter.unusedSimpArgs false
set_option linter.unusedVariables false
namespace Go.Proofs.YtphlmmjlpbledaaGreatDoor
open Go.RowKit
set_option maxRecDepth 100000

/-- What a single float becomes as a double. -/
structure Conv32 (P : Program) (W : World) (b B : Nat) (W' : World) : Prop where
  run : (Conv.floatToFloat .f32 b .f64).run P W = .ok (.float .f64 B) W'
  lt : B < 18446744073709551616
  fin : gx b ≠ 255 → B = cv b
  bad : gx b = 255 → fx B = 2047
  below : Below W.heap.size W W'
theorem nan_bits (t : Nat) : (t % 2) * 2 ^ 63 + 0x7ff0000000000000 + 1 + (t / 2) % (2 ^ 52 - 1) < 18446744073709551616 ∧ fx ((t % 2) * 2 ^ 63 + 0x7ff0000000000000 + 1 + (t / 2) % (2 ^ 52 - 1)) = 2047 := by
  have e1 : (2 : Nat) ^ 63 = 9223372036854775808 := by decide +kernel
  have e2 : (2 : Nat) ^ 52 - 1 = 4503599627370495 := by decide +kernel
  rw [e1, e2]
  have h : t / 2 % 4503599627370495 < 4503599627370495 := Nat.mod_lt _ (by omega)
  generalize t / 2 % 4503599627370495 = r at h
  have h2 : t % 2 = 0 ∨ t % 2 = 1 := by omega
  unfold fx
  rcases h2 with h2 | h2 <;> rw [h2] <;> omega
theorem conv32_ex (P : Program) (W : World) (b : Nat) (hb : b < 4294967296) : ∃ B W', Conv32 P W b B W' := by
  by_cases hx : gx b = 255
  · rcases read_bad32 hb hx with ⟨s, hs⟩ | ⟨s, f, hs⟩
    · refine ⟨Ieee.double.write (.infinity s), W, ?_, (cv_inf s).2, fun h => absurd hx h, fun _ => (cv_inf s).1, Below.refl _ _⟩
      unfold Conv.floatToFloat
      rw [if_neg (by decide), show FloatKind.f32.decode b = .infinity s from hs]
      rfl
    · obtain ⟨h1, h2⟩ := nan_bits (W.tape W.drawn (.nanConv .f64 b))
      refine ⟨_, W.drew, ?_, h1, fun h => absurd hx h, fun _ => h2, Below.drew (Below.refl _ _)⟩
      unfold Conv.floatToFloat
      rw [if_neg (by decide), show FloatKind.f32.decode b = .nan s f from hs]
      simp [go_sem, Question.forced, Question.cut]
  · obtain ⟨h1, h2, -⟩ := cv_spec hb hx
    refine ⟨cv b, W, ?_, h1, fun _ => rfl, fun h => absurd h hx, Below.refl _ _⟩
    have hr := read_fin32 hb hx
    unfold Conv.floatToFloat
    rw [if_neg (by decide), show FloatKind.f32.decode b = .number (gneg b) (gmag b) ((gup b : Nat) - 149 : Int) from hr]
    have hc : FloatKind.f64.encode (.number (gneg b) (gmag b) ((gup b : Nat) - 149 : Int)) = cv b := by unfold cv; rw [hr]; rfl
    simp only [hc]
    rw [show FloatKind.f64.decode (cv b) = .number (fneg (cv b)) (fmag (cv b)) ((fup (cv b) : Nat) - 1074 : Int) from read_fin h1 h2]
    rfl
theorem convF_run (b : Nat) (W : World) : (convert 58 49 (.float .f32 b)).run Tryz.prog W = (Conv.floatToFloat .f32 b .f64).run Tryz.prog W := by
  simp [convert, go_sem]
theorem convC_run {a b A B : Nat} {W W1 W2 : World} (h1 : Conv32 Tryz.prog W a A W1) (h2 : Conv32 Tryz.prog W1 b B W2) : (convert 57 48 (.complex .f32 a b)).run Tryz.prog W = .ok (.complex .f64 A B) W2 := by
  have e1 := h1.run
  have e2 := h2.run
  have : (convert 57 48 (.complex .f32 a b)).run Tryz.prog W = (Conv.complexToComplex .f32 a b .f64).run Tryz.prog W := by simp [convert, go_sem]
  rw [this]
  unfold Conv.complexToComplex
  simp [Sem.run_bind, e1, e2]
end Go.Proofs.YtphlmmjlpbledaaGreatDoor
set_option linter.unusedSimpArgs false
set_option linter.unusedVariables false
namespace Go.Proofs.YtphlmmjlpbledaaGreatDoor
open Go.RowKit
set_option maxRecDepth 100000

theorem complex64_walk (a b A B : Nat) (x : Cx) (k : Int) (w W1 W2 : World) (c1 : Conv32 Tryz.prog (w.alloc (.cells #[.slice none 0 0, .bool false, .slice none 0 0, .bool false, .slice none 0 0] 28)) a A W1) (c2 : Conv32 Tryz.prog W1 b B W2)
    (HC : Hid (∀ W, Below W2.heap.size W2 W → Calls Tryz.prog 21 #[.complex .f64 A B] W (RetNumE W x k))) :
    Calls Tryz.prog 26 #[.complex .f32 a b] w (RetNumE w x k) := by
  have hrun := convC_run c1 c2
  have hcb := Lib.hid (below_trans c1.below c2.below)
  clear c1 c2
  go_enter Tryz.func26, Tryz.ntmps26
  go_wp2_with fail
  refine (HC.out _ (Below.refl _ _)).mono ?_
  rintro e W3 ⟨v, rfl, hn3, hb3⟩
  obtain ⟨A1, n1, c1, p1, A2, n2, c2, p2, A3, n3, c3, a', b', d', rfl, -⟩ := hn3.parts
  have HN3 := Lib.hid hn3
  have BB := Lib.hid (below_trans hcb.out hb3)
  clear hn3 hb3 hrun hcb
  obtain ⟨hc, hf, hz⟩ := bcells BB.out (w.heap.size + 1) (by simp)
  have f0 : W3.cell? ⟨w.heap.size, 0, none⟩ = some (.slice none 0 0) := (hc _ 0 (by omega)).trans (by simp [go_sem])
  have y0 : W3.frozen? ⟨w.heap.size, 0, none⟩ = false := (hf _ 0 (by omega)).trans (by simp [go_sem])
  have f1 : W3.cell? ⟨w.heap.size, 1, none⟩ = some (.bool false) := (hc _ 1 (by omega)).trans (by simp [go_sem])
  have y1 : W3.frozen? ⟨w.heap.size, 1, none⟩ = false := (hf _ 1 (by omega)).trans (by simp [go_sem])
  have f2 : W3.cell? ⟨w.heap.size, 2, none⟩ = some (.slice none 0 0) := (hc _ 2 (by omega)).trans (by simp [go_sem])
  have y2 : W3.frozen? ⟨w.heap.size, 2, none⟩ = false := (hf _ 2 (by omega)).trans (by simp [go_sem])
  have f3 : W3.cell? ⟨w.heap.size, 3, none⟩ = some (.bool false) := (hc _ 3 (by omega)).trans (by simp [go_sem])
  have y3 : W3.frozen? ⟨w.heap.size, 3, none⟩ = false := (hf _ 3 (by omega)).trans (by simp [go_sem])
  have f4 : W3.cell? ⟨w.heap.size, 4, none⟩ = some (.slice none 0 0) := (hc _ 4 (by omega)).trans (by simp [go_sem])
  have y4 : W3.frozen? ⟨w.heap.size, 4, none⟩ = false := (hf _ 4 (by omega)).trans (by simp [go_sem])
  clear hc hf hz
  have NB := NumBox.nil f0 f1 f2 f3 f4
  go_wp2
  refine bodyPost_ret (v := .tuple #[.agg #[.slice A1 n1 c1, .bool p1, .slice A2 n2 c2, .bool p2, .slice A3 n3 c3], .int .i64 k]) (by simp [results, Tryz.results26]; exact run_load5e NB _ _ _ _ _ _) rfl ?_
  exact RetNumE.box (below_trans (below_alloc _ _) BB.out) (Nat.le_refl _) NB HN3.out _ _ _ _ _
theorem rcomplex64_walk (a b A B : Nat) (x : Cx) (k : Int) (w W1 W2 : World) (c1 : Conv32 Tryz.prog (w.alloc (.cells #[.bool false, .slice none 0 0, .bool false, .slice none 0 0, .slice none 0 0] 35)) a A W1) (c2 : Conv32 Tryz.prog W1 b B W2)
    (HC : Hid (∀ W, Calls Tryz.prog 22 #[.complex .f64 A B] W (RetQE W x k))) :
    Calls Tryz.prog 27 #[.complex .f32 a b] w (RetQE w x k) := by
  have hrun1 := (convF_run a _).trans c1.run
  have hrun2 := (convF_run b _).trans c2.run
  have hcb := Lib.hid (below_trans c1.below c2.below)
  clear c1 c2
  go_enter Tryz.func27, Tryz.ntmps27
  go_wp2_with fail
  refine (HC.out _).mono ?_
  rintro e W3 ⟨v, rfl, hn3, hb3⟩
  obtain ⟨A1, n1, c1, p1, A2, n2, c2, p2, A3, n3, c3, a', b', d', rfl, -⟩ := hn3.parts
  have HN3 := Lib.hid hn3
  have BB := Lib.hid (below_trans hcb.out hb3)
  clear hn3 hb3 hrun1 hrun2 hcb
  obtain ⟨hc, hf, hz⟩ := bcells BB.out (w.heap.size + 1) (by simp)
  have f0 : W3.cell? ⟨w.heap.size, 0, none⟩ = some (.bool false) := (hc _ 0 (by omega)).trans (by simp [go_sem])
  have y0 : W3.frozen? ⟨w.heap.size, 0, none⟩ = false := (hf _ 0 (by omega)).trans (by simp [go_sem])
  have f1 : W3.cell? ⟨w.heap.size, 1, none⟩ = some (.slice none 0 0) := (hc _ 1 (by omega)).trans (by simp [go_sem])
  have y1 : W3.frozen? ⟨w.heap.size, 1, none⟩ = false := (hf _ 1 (by omega)).trans (by simp [go_sem])
  have f2 : W3.cell? ⟨w.heap.size, 2, none⟩ = some (.bool false) := (hc _ 2 (by omega)).trans (by simp [go_sem])
  have y2 : W3.frozen? ⟨w.heap.size, 2, none⟩ = false := (hf _ 2 (by omega)).trans (by simp [go_sem])
  have f3 : W3.cell? ⟨w.heap.size, 3, none⟩ = some (.slice none 0 0) := (hc _ 3 (by omega)).trans (by simp [go_sem])
  have y3 : W3.frozen? ⟨w.heap.size, 3, none⟩ = false := (hf _ 3 (by omega)).trans (by simp [go_sem])
  have f4 : W3.cell? ⟨w.heap.size, 4, none⟩ = some (.slice none 0 0) := (hc _ 4 (by omega)).trans (by simp [go_sem])
  have y4 : W3.frozen? ⟨w.heap.size, 4, none⟩ = false := (hf _ 4 (by omega)).trans (by simp [go_sem])
  clear hc hf hz
  have NB := NumBox.nilQ f0 f1 f2 f3 f4
  go_wp2
  refine bodyPost_ret (v := .tuple #[.agg #[.bool p1, .slice A1 n1 c1, .bool p2, .slice A2 n2 c2, .slice A3 n3 c3], .int .i64 k]) (by simp [results, Tryz.results27]; exact run_loadQe NB _ _ _ _ _ _) rfl ?_
  exact RetQE.box (below_trans (below_alloc _ _) BB.out) (Nat.le_refl _) NB HN3.out _ _ _ _ _
theorem complex64_good (a b : Nat) (w : World) (ha : a < 4294967296) (hb : b < 4294967296) (hT : Tab64 w) (xa : gx a ≠ 255) (xb : gx b ≠ 255) :
    Calls Tryz.prog 26 #[.complex .f32 a b] w (RetNumE w (cf (cv a) (cv b)) 0) := by
  obtain ⟨A, W1, c1⟩ := conv32_ex Tryz.prog (w.alloc (.cells #[.slice none 0 0, .bool false, .slice none 0 0, .bool false, .slice none 0 0] 28)) a ha
  obtain ⟨B, W2, c2⟩ := conv32_ex Tryz.prog W1 b hb
  obtain rfl := c1.fin xa
  obtain rfl := c2.fin xb
  have hbb := below_trans (below_alloc w _) (below_trans c1.below c2.below)
  exact complex64_walk a b _ _ _ _ w W1 W2 c1 c2 (Lib.hid fun W h => complex_good _ _ W c1.lt c2.lt (hT.below (below_trans hbb h)) (cv_spec ha xa).2.1 (cv_spec hb xb).2.1)
theorem complex64_bad (a b : Nat) (w : World) (ha : a < 4294967296) (hb : b < 4294967296) (hT : Tab64 w) (h : gx a = 255 ∨ gx b = 255) :
    Calls Tryz.prog 26 #[.complex .f32 a b] w (RetNumE w .zero 1) := by
  obtain ⟨A, W1, c1⟩ := conv32_ex Tryz.prog (w.alloc (.cells #[.slice none 0 0, .bool false, .slice none 0 0, .bool false, .slice none 0 0] 28)) a ha
  obtain ⟨B, W2, c2⟩ := conv32_ex Tryz.prog W1 b hb
  have hbb := below_trans (below_alloc w _) (below_trans c1.below c2.below)
  exact complex64_walk a b _ _ _ _ w W1 W2 c1 c2 (Lib.hid fun W h' => complex_bad _ _ W c1.lt c2.lt (hT.below (below_trans hbb h')) (h.imp c1.bad c2.bad))
theorem rcomplex64_good (a b : Nat) (w : World) (ha : a < 4294967296) (hb : b < 4294967296) (xa : gx a ≠ 255) (xb : gx b ≠ 255) :
    Calls Tryz.prog 27 #[.complex .f32 a b] w (RetQE w (cf (cv a) (cv b)) 0) := by
  obtain ⟨A, W1, c1⟩ := conv32_ex Tryz.prog (w.alloc (.cells #[.bool false, .slice none 0 0, .bool false, .slice none 0 0, .slice none 0 0] 35)) a ha
  obtain ⟨B, W2, c2⟩ := conv32_ex Tryz.prog W1 b hb
  obtain rfl := c1.fin xa
  obtain rfl := c2.fin xb
  exact rcomplex64_walk a b _ _ _ _ w W1 W2 c1 c2 (Lib.hid fun W => rcomplex_good _ _ W c1.lt c2.lt (cv_spec ha xa).2.1 (cv_spec hb xb).2.1)
theorem rcomplex64_bad (a b : Nat) (w : World) (ha : a < 4294967296) (hb : b < 4294967296) (h : gx a = 255 ∨ gx b = 255) :
    Calls Tryz.prog 27 #[.complex .f32 a b] w (RetQE w .zero 1) := by
  obtain ⟨A, W1, c1⟩ := conv32_ex Tryz.prog (w.alloc (.cells #[.bool false, .slice none 0 0, .bool false, .slice none 0 0, .slice none 0 0] 35)) a ha
  obtain ⟨B, W2, c2⟩ := conv32_ex Tryz.prog W1 b hb
  exact rcomplex64_walk a b _ _ _ _ w W1 W2 c1 c2 (Lib.hid fun W => rcomplex_bad _ _ W c1.lt c2.lt (h.imp c1.bad c2.bad))
theorem near64F_any (v : Value) (a b : Nat) (w : World) (ha : a < 4294967296) (hb : b < 4294967296) (xa : gx a ≠ 255) (xb : gx b ≠ 255) (h : IsNum w v (cf (cv a) (cv b))) :
    Calls Tryz.prog 28 #[v] w fun e w' => e = .returned (.complex .f32 (gz a) (gz b)) ∧ Below w.heap.size w w' := by
  obtain ⟨p, q, d, hl⟩ := Low.ex (cf (cv a) (cv b))
  obtain ⟨hd, h1, h2⟩ := cf_isF hl
  obtain ⟨s1, s2, s3⟩ := cf_sz (cv a) (cv b) _ _ _ hl
  have := near64_any v (cf (cv a) (cv b)) p q d w h hl (by omega) (by omega) (by omega) (rdF32_lt ha xa hd h1) (rdF32_lt hb xb hd h2)
  rw [nearB32_gz ha xa hd h1, nearB32_gz hb xb hd h2] at this
  exact this
set_option maxHeartbeats 1000000 in
theorem numFloats32_bad (w : World) (re im : Nat) (hr : re < 4294967296) (hi : im < 4294967296) (hx : gx re = 255 ∨ gx im = 255) (hT : Tab w) (hT6 : Tab64 w) :
    Calls Tryz.prog 6 #[.int .u32 (re : Int), .int .u32 (im : Int)] w fun e w' => e = .returned (.bool true) ∧ Below w.heap.size w w' := by
  have hfr := frombits32_run
  have HT := Lib.hid hT
  have HN := Lib.hid (show ∀ W, Below w.heap.size w W → Calls Tryz.prog 26 #[.complex .f32 re im] W (RetNumE W .zero 1) from fun W hb => complex64_bad re im W hr hi (hT6.below hb) hx)
  have HR := Lib.hid (fun W => rcomplex64_bad re im W hr hi hx)
  have HX := Lib.hid (Sz.low (n := 67) Low.zero (by simp [wl_zero]) (by simp [wl_zero]) (by rw [wl_one]; omega))
  clear hT hT6 hr hi hx
  go_enter Tryz.func6, Tryz.ntmps6
  go_wp2_with fail
  refine (HN.out _ (Below.refl _ _)).mono ?_
  rintro e W2 ⟨v, rfl, hn2, hb2⟩
  obtain ⟨A1, n1, c1, p1, A2, n2, c2, p2, A3, n3, c3, a, b, d, rfl, -⟩ := hn2.parts
  have HN2 := Lib.hid hn2
  clear hn2
  go_wp2_with fail
  refine (HR.out _).mono ?_
  rintro e W3 ⟨v, rfl, hq3, hb3⟩
  obtain ⟨hc3, hf3, hz3⟩ := bcells hb3 (W2.heap.size + 1) (by simp)
  obtain ⟨A4, n4, c4, p4, A5, n5, c5, p5, A6, n6, c6, a', b', d', rfl, -⟩ := hq3.parts
  have HQ3 := Lib.hid hq3
  clear hq3
  have B3 : Below w.heap.size w W3 := below_trans (below_trans hb2 (below_alloc _ _)) hb3
  have C3 := below_trans (below_alloc W2 _) hb3
  go_upto_region 4 with fail
  obtain ⟨W4, hW4⟩ : ∃ W4 : World, W4 = W3.alloc (.cells #[.bool p4, .slice A4 n4 c4, .bool p5, .slice A5 n5 c5, .slice A6 n6 c6] 35) := ⟨_, rfl⟩
  rw [← hW4]
  have D4 : Below W3.heap.size W3 W4 := by rw [hW4]; exact below_alloc _ _
  have q4 := bcells D4 W3.heap.size (Nat.le_refl _)
  have b0 : W4.cell? ⟨W2.heap.size, 0, none⟩ = some (.slice A1 n1 c1) := (q4.1 _ 0 (by omega)).trans ((hc3 _ 0 (by omega)).trans (by simp [go_sem]))
  have b1 : W4.cell? ⟨W2.heap.size, 1, none⟩ = some (.bool p1) := (q4.1 _ 1 (by omega)).trans ((hc3 _ 1 (by omega)).trans (by simp [go_sem]))
  have b2 : W4.cell? ⟨W2.heap.size, 2, none⟩ = some (.slice A2 n2 c2) := (q4.1 _ 2 (by omega)).trans ((hc3 _ 2 (by omega)).trans (by simp [go_sem]))
  have b3 : W4.cell? ⟨W2.heap.size, 3, none⟩ = some (.bool p2) := (q4.1 _ 3 (by omega)).trans ((hc3 _ 3 (by omega)).trans (by simp [go_sem]))
  have b4 : W4.cell? ⟨W2.heap.size, 4, none⟩ = some (.slice A3 n3 c3) := (q4.1 _ 4 (by omega)).trans ((hc3 _ 4 (by omega)).trans (by simp [go_sem]))
  have e0 : W4.cell? ⟨W3.heap.size, 0, none⟩ = some (.bool p4) := by rw [hW4]; simp [go_sem]
  have e1 : W4.cell? ⟨W3.heap.size, 1, none⟩ = some (.slice A4 n4 c4) := by rw [hW4]; simp [go_sem]
  have e2 : W4.cell? ⟨W3.heap.size, 2, none⟩ = some (.bool p5) := by rw [hW4]; simp [go_sem]
  have e3 : W4.cell? ⟨W3.heap.size, 3, none⟩ = some (.slice A5 n5 c5) := by rw [hW4]; simp [go_sem]
  have e4 : W4.cell? ⟨W3.heap.size, 4, none⟩ = some (.slice A6 n6 c6) := by rw [hW4]; simp [go_sem]
  have z42 : W2.heap.size < W4.heap.size := by rw [hW4]; simp; omega
  have B4 := below_trans B3 D4
  have HIs := Lib.hid (is_any _ _ .zero W4 ((HN2.out.below C3).below D4) (HQ3.out.below D4) (HT.out.below B4) 67 HX.out (by omega))
  clear hW4 q4 hc3 hf3 hz3 C3 D4 B3 hb2 hb3
  go_wp2_with fail
  refine HIs.out.mono ?_
  rintro e W5 ⟨rfl, hb5⟩
  have B5 := below_trans B4 hb5
  clear b0 b1 b2 b3 b4 e0 e1 e2 e3 e4 z42
  go_wp2_with fail
  refine (awake_any W5 (HT.out.below B5)).mono ?_
  rintro e W9 ⟨rfl, hb9⟩
  go_wp2
  go_ret
  exact ⟨rfl, below_trans B5 hb9⟩
set_option maxHeartbeats 1000000 in
theorem numFloats32_good (w : World) (re im : Nat) (hr : re < 4294967296) (hi : im < 4294967296) (xr : gx re ≠ 255) (xi : gx im ≠ 255) (hT : Tab w) (hT6 : Tab64 w) :
    Calls Tryz.prog 6 #[.int .u32 (re : Int), .int .u32 (im : Int)] w fun e w' => e = .returned (.bool true) ∧ Below w.heap.size w w' := by
  have hfr := frombits32_run
  have HT := Lib.hid hT
  have HN := Lib.hid (show ∀ W, Below w.heap.size w W → Calls Tryz.prog 26 #[.complex .f32 re im] W (RetNumE W (cf (cv re) (cv im)) 0) from fun W hb => complex64_good re im W hr hi (hT6.below hb) xr xi)
  have HR := Lib.hid (fun W => rcomplex64_good re im W hr hi xr xi)
  have HX := Lib.hid (cf_sz (cv re) (cv im))
  have HNr := Lib.hid (fun W v (h : IsNum W v (cf (cv re) (cv im))) => near64F_any v re im W hr hi xr xi h)
  have q1 : (FloatKind.f32.format.order (gz re) re == some Ordering.eq) = true := gz_same hr xr
  have q2 : (FloatKind.f32.format.order (gz im) im == some Ordering.eq) = true := gz_same hi xi
  generalize gz re = zr at *
  generalize gz im = zi at *
  clear hT hT6 hr hi xr xi
  go_enter Tryz.func6, Tryz.ntmps6
  go_wp2_with fail
  refine (HN.out _ (Below.refl _ _)).mono ?_
  rintro e W2 ⟨v, rfl, hn2, hb2⟩
  obtain ⟨A1, n1, c1, p1, A2, n2, c2, p2, A3, n3, c3, a, b, d, rfl, -⟩ := hn2.parts
  have HN2 := Lib.hid hn2
  clear hn2
  go_wp2_with fail
  refine (HR.out _).mono ?_
  rintro e W3 ⟨v, rfl, hq3, hb3⟩
  obtain ⟨hc3, hf3, hz3⟩ := bcells hb3 (W2.heap.size + 1) (by simp)
  obtain ⟨A4, n4, c4, p4, A5, n5, c5, p5, A6, n6, c6, a', b', d', rfl, -⟩ := hq3.parts
  have HQ3 := Lib.hid hq3
  clear hq3
  have B3 : Below w.heap.size w W3 := below_trans (below_trans hb2 (below_alloc _ _)) hb3
  have C3 := below_trans (below_alloc W2 _) hb3
  go_upto_region 4 with fail
  obtain ⟨W4, hW4⟩ : ∃ W4 : World, W4 = W3.alloc (.cells #[.bool p4, .slice A4 n4 c4, .bool p5, .slice A5 n5 c5, .slice A6 n6 c6] 35) := ⟨_, rfl⟩
  rw [← hW4]
  have D4 : Below W3.heap.size W3 W4 := by rw [hW4]; exact below_alloc _ _
  have q4 := bcells D4 W3.heap.size (Nat.le_refl _)
  have b0 : W4.cell? ⟨W2.heap.size, 0, none⟩ = some (.slice A1 n1 c1) := (q4.1 _ 0 (by omega)).trans ((hc3 _ 0 (by omega)).trans (by simp [go_sem]))
  have b1 : W4.cell? ⟨W2.heap.size, 1, none⟩ = some (.bool p1) := (q4.1 _ 1 (by omega)).trans ((hc3 _ 1 (by omega)).trans (by simp [go_sem]))
  have b2 : W4.cell? ⟨W2.heap.size, 2, none⟩ = some (.slice A2 n2 c2) := (q4.1 _ 2 (by omega)).trans ((hc3 _ 2 (by omega)).trans (by simp [go_sem]))
  have b3 : W4.cell? ⟨W2.heap.size, 3, none⟩ = some (.bool p2) := (q4.1 _ 3 (by omega)).trans ((hc3 _ 3 (by omega)).trans (by simp [go_sem]))
  have b4 : W4.cell? ⟨W2.heap.size, 4, none⟩ = some (.slice A3 n3 c3) := (q4.1 _ 4 (by omega)).trans ((hc3 _ 4 (by omega)).trans (by simp [go_sem]))
  have e0 : W4.cell? ⟨W3.heap.size, 0, none⟩ = some (.bool p4) := by rw [hW4]; simp [go_sem]
  have e1 : W4.cell? ⟨W3.heap.size, 1, none⟩ = some (.slice A4 n4 c4) := by rw [hW4]; simp [go_sem]
  have e2 : W4.cell? ⟨W3.heap.size, 2, none⟩ = some (.bool p5) := by rw [hW4]; simp [go_sem]
  have e3 : W4.cell? ⟨W3.heap.size, 3, none⟩ = some (.slice A5 n5 c5) := by rw [hW4]; simp [go_sem]
  have e4 : W4.cell? ⟨W3.heap.size, 4, none⟩ = some (.slice A6 n6 c6) := by rw [hW4]; simp [go_sem]
  have z42 : W2.heap.size < W4.heap.size := by rw [hW4]; simp; omega
  have B4 := below_trans B3 D4
  have HIs := Lib.hid (is_any _ _ (cf (cv re) (cv im)) W4 ((HN2.out.below C3).below D4) (HQ3.out.below D4) (HT.out.below B4) 67 HX.out (by omega))
  have HN4 := Lib.hid ((HN2.out.below C3).below D4)
  clear hW4 q4 hc3 hf3 hz3 C3 D4 B3 hb2 hb3
  go_wp2_with fail
  refine HIs.out.mono ?_
  rintro e W5 ⟨rfl, hb5⟩
  have B5 := below_trans B4 hb5
  have q5 := bcells hb5 (W2.heap.size + 1) (by omega)
  replace b0 := (q5.1 _ 0 (by omega)).trans b0
  replace b1 := (q5.1 _ 1 (by omega)).trans b1
  replace b2 := (q5.1 _ 2 (by omega)).trans b2
  replace b3 := (q5.1 _ 3 (by omega)).trans b3
  replace b4 := (q5.1 _ 4 (by omega)).trans b4
  have HN5 := Lib.hid (HN4.out.below hb5)
  clear e0 e1 e2 e3 e4 z42 q5 hb5
  go_wp2_with fail
  refine (HNr.out _ _ HN5.out).mono ?_
  rintro e W6 ⟨rfl, hb6⟩
  have B6 := Lib.hid (below_trans B5 hb6)
  clear b0 b1 b2 b3 b4 hb6 B5 B4
  go_wp2_with fail
  refine (awake_any W6 (HT.out.below B6.out)).mono ?_
  rintro e W9 ⟨rfl, hb9⟩
  go_wp2
  go_ret
  exact ⟨rfl, below_trans B6.out hb9⟩
theorem numFloats32_walk (w : World) (re im : Nat) (hr : re < 4294967296) (hi : im < 4294967296) (hT : Tab w) (hT6 : Tab64 w) :
    Calls Tryz.prog 6 #[.int .u32 (re : Int), .int .u32 (im : Int)] w fun e w' => e = .returned (.bool true) ∧ Below w.heap.size w w' := by
  by_cases xr : gx re = 255
  · exact numFloats32_bad w re im hr hi (.inl xr) hT hT6
  by_cases xi : gx im = 255
  · exact numFloats32_bad w re im hr hi (.inr xi) hT hT6
  exact numFloats32_good w re im hr hi xr xi hT hT6
end Go.Proofs.YtphlmmjlpbledaaGreatDoor
