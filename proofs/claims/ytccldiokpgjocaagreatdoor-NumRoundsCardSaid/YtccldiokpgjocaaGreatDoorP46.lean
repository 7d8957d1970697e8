import Derived.Test.YtccldiokpgjocaaGreatDoorP27
import Derived.Test.YtccldiokpgjocaaGreatDoorP42
set_option linter.unusedSimpArgs false
set_option linter.unusedVariables false
namespace Go.Proofs.YtccldiokpgjocaaGreatDoor
def gx (b : Nat) : Nat := b / 8388608 % 256
def gm (b : Nat) : Nat := b % 8388608
def gmag (b : Nat) : Nat := if gx b = 0 then gm b else gm b + 8388608
def gup (b : Nat) : Nat := gx b - 1
def gneg (b : Nat) : Bool := decide (2147483648 ≤ b)
theorem gm_lt (b : Nat) : gm b < 8388608 := Nat.mod_lt _ (by omega)
theorem read_fin32 {b : Nat} (hb : b < 4294967296) (h : gx b ≠ 255) : Ieee.single.read b = .number (gneg b) (gmag b) ((gup b : Nat) - 149 : Int) := by
  have e1 : Ieee.single.signWeight = 2147483648 := by decide
  have e2 : Ieee.single.binade = 8388608 := by decide
  have e3 : Ieee.single.infRung = 2139095040 := by decide +kernel
  have e4 : Ieee.single.leastPlace = -149 := by decide +kernel
  have hn : (b / 2147483648 % 2 == 1) = gneg b := by
    unfold gneg
    rw [Bool.eq_iff_iff]
    simp
    omega
  unfold Ieee.Format.read
  simp only [e1, e2, e3, e4, hn]
  unfold gx at h
  by_cases h0 : gx b = 0
  · have h1 := h0
    unfold gx at h1
    have h2 : b % 2147483648 = gm b := by unfold gm; omega
    rw [h2, if_pos (gm_lt b)]
    unfold gmag gup
    rw [if_pos h0, h0]
    rfl
  · have h1 := h0
    unfold gx at h1
    rw [if_neg (by omega), if_pos (by omega)]
    unfold gmag gup gm
    rw [if_neg h0]
    unfold gx
    congr 1
    · omega
    · omega
def cv (b : Nat) : Nat := Ieee.double.write (Ieee.single.read b)
def flt32 (m : Nat) (neg : Bool) : Nat := if neg && decide (m ≠ 0) then m ||| 2147483648 else m
def nearB32 (a : Int) (d : Nat) : Nat := flt32 (rdF 24 (-149) 104 a.natAbs d 2) (decide (a < 0))
theorem or_31 {m : Nat} (h : m < 2147483648) : m ||| 2147483648 = m + 2147483648 := by
  have := Nat.two_pow_add_eq_or_of_lt (i := 31) (b := m) (by simpa using h) 1
  rw [Nat.or_comm]
  simp at this
  omega
end Go.Proofs.YtccldiokpgjocaaGreatDoor
set_option linter.unusedSimpArgs false
set_option linter.unusedVariables false
namespace Go.Proofs.YtccldiokpgjocaaGreatDoor
open Go.RowKit
set_option maxRecDepth 100000
theorem fm_single : Fm 24 (-149) 104 := by unfold Fm; omega
theorem frombits32_run (w : World) (n : Nat) : (callFunc 111 #[.int .u32 (n : Int)]).run Tryz.prog w = .ok (.value (.float .f32 n)) w := by
  rw [run_callFunc_extern (f := 111) (fn := Tryz.f111) (e := Extern.MathFloatBits.float32frombits) (by kernel_rfl) (by kernel_rfl) (by kernel_rfl) (by kernel_rfl) (by kernel_rfl)]
  rfl
theorem u32_nat {m : Nat} (h : m < 4294967296) : (m : Int) % 4294967296 = (m : Int) := by omega
theorem toFloat32_any (m : Nat) (neg : Bool) (w : World) (hm : m < 2147483648) :
    Calls Tryz.prog 47 #[.int .u64 (m : Int), .bool neg] w fun e w' => e = .returned (.float .f32 (flt32 m neg)) ∧ w = w' := by
  have hfb := frombits32_run
  have hw := u32_nat (m := m) (by omega)
  cases neg
  · have hx : flt32 m false = m := by simp [flt32]
    rw [hx]
    clear hx
    go_enter Tryz.func47, Tryz.ntmps47
    go_wp2
    go_ret
    exact ⟨rfl, rfl⟩
  · by_cases h0 : m = 0
    · subst h0
      have hfb0 : ∀ w, (callFunc 111 #[.int .u32 0]).run Tryz.prog w = .ok (.value (.float .f32 0)) w := fun w => frombits32_run w 0
      have hx : flt32 0 true = 0 := by simp [flt32]
      rw [hx]
      clear hx
      go_enter Tryz.func47, Tryz.ntmps47
      go_wp2
      go_ret
      exact ⟨rfl, rfl⟩
    · have hx : flt32 m true = m ||| 2147483648 := by simp [flt32, h0]
      rw [hx]
      clear hx
      have b1 : ((m : Int) == 0) = false := by simp; omega
      have b2 : ((m : Int) != 0) = true := by simp; omega
      have hor : bits BinOp.or IntKind.u64 (m : Int) 2147483648 = ((m ||| 2147483648 : Nat) : Int) := u64_or_nat m 2147483648 (by omega) (by omega)
      have hk := or_31 hm
      generalize m ||| 2147483648 = k at *
      have hw2 := u32_nat (m := k) (by omega)
      clear hk
      go_enter Tryz.func47, Tryz.ntmps47
      go_wp2
      go_ret
      exact ⟨rfl, rfl⟩
theorem single_any (w : World) : Calls Tryz.prog 46 #[] w fun e w' => e = .returned (fmtV 24 (-149) 104) ∧ Below w.heap.size w w' := by
  go_enter Tryz.func46, Tryz.ntmps46
  go_wp2
  refine bodyPost_ret (v := fmtV 24 (-149) 104) (by simp [results, Tryz.results46, go_sem, fmtV]) rfl ?_
  exact ⟨rfl, below_alloc _ _⟩
set_option maxHeartbeats 1000000 in
theorem near64_any (v : Value) (x : Cx) (a b : Int) (d : Nat) (w : World) (h : IsNum w v x) (hx : Low x a b d) (sa : wl a.natAbs < 268435456) (sb : wl b.natAbs < 268435456) (sd : wl d < 268435456) (la : rdF 24 (-149) 104 a.natAbs d 2 < 2147483648) (lb : rdF 24 (-149) 104 b.natAbs d 2 < 2147483648) :
    Calls Tryz.prog 10 #[v] w fun e w' => e = .returned (.complex .f32 (nearB32 a d) (nearB32 b d)) ∧ Below w.heap.size w w' := by
  have HD := hid (fun W (hb : Below w.heap.size w W) => denominator_any _ _ W (h.below hb) a b d hx)
  obtain ⟨A1, n1, c1, p1, A2, n2, c2, p2, A3, n3, c3, a', b', d', rfl, hl, hr, hi, hs, -, hq1, hq2, hra, hib⟩ := h.parts
  obtain ⟨rfl, rfl, rfl⟩ := hx.uniq hl
  have hd := hl.pos
  have HDb := hid (fun W => single_any W)
  have hra' : ∀ W u (hb : Below w.heap.size w W) (hu : IsNat W u d), Calls Tryz.prog 42 #[fmtV 24 (-149) 104, .slice A1 n1 c1, u, .int .i64 2] W fun e w' => e = .returned (.int .u64 ((rdF 24 (-149) 104 a.natAbs d 2 : Nat) : Int)) ∧ Below W.heap.size W w' :=
    fun W u hb hu => round_any _ u _ _ 24 (-149) 104 2 W fm_single (hra.below hb) hu hd sa sd (by omega)
  have hib' : ∀ W u (hb : Below w.heap.size w W) (hu : IsNat W u d), Calls Tryz.prog 42 #[fmtV 24 (-149) 104, .slice A2 n2 c2, u, .int .i64 2] W fun e w' => e = .returned (.int .u64 ((rdF 24 (-149) 104 b.natAbs d 2 : Nat) : Int)) ∧ Below W.heap.size W w' :=
    fun W u hb hu => round_any _ u _ _ 24 (-149) 104 2 W fm_single (hib.below hb) hu hd sb sd (by omega)
  have HRa := hid hra'
  have HRb := hid hib'
  have HTa := hid (fun W => toFloat32_any (rdF 24 (-149) 104 a.natAbs d 2) p1 W la)
  have HTb := hid (fun W => toFloat32_any (rdF 24 (-149) 104 b.natAbs d 2) p2 W lb)
  have hna : nearB32 a d = flt32 (rdF 24 (-149) 104 a.natAbs d 2) p1 := by rw [hq1]; rfl
  have hnb : nearB32 b d = flt32 (rdF 24 (-149) 104 b.natAbs d 2) p2 := by rw [hq2]; rfl
  rw [hna, hnb]
  clear la lb hna hnb hra' hib' hd hq1 hq2 hra hib hl hr hi hs h hx sa sb sd
  generalize rdF 24 (-149) 104 a.natAbs d 2 = ma at *
  generalize rdF 24 (-149) 104 b.natAbs d 2 = mb at *
  go_enter Tryz.func10, Tryz.ntmps10
  go_upto_region 1 with fail
  obtain ⟨W1, hW1⟩ : ∃ W1 : World, W1 = (w.alloc (.cells #[.slice A1 n1 c1, .bool p1, .slice A2 n2 c2, .bool p2, .slice A3 n3 c3] 30)) := ⟨_, rfl⟩
  rw [← hW1]
  have B1 : Below w.heap.size w W1 := by rw [hW1]; exact bel
  have hz1 : w.heap.size + 1 ≤ W1.heap.size := by rw [hW1]; simp
  obtain ⟨f0_0, f0_1, f0_2, f0_3, f0_4, yf0_0, yf0_1, yf0_2, yf0_3, yf0_4⟩ : Bx5 W1 (w.heap.size) (.slice A1 n1 c1) (.bool p1) (.slice A2 n2 c2) (.bool p2) (.slice A3 n3 c3) := by rw [hW1]; simp [Bx5, go_sem]
  clear hW1
  have lt0_0 : w.heap.size < W1.heap.size := (by omega)
  have ne0_0_0 : w.heap.size ≠ W1.heap.size := (by omega)
  have en0_0_0 : W1.heap.size ≠ w.heap.size := (by omega)
  go_region_held3 (fun w' => w'.cell? ⟨w.heap.size, 0, none⟩ = some (.slice A1 n1 c1) ∧ w'.cell? ⟨w.heap.size, 1, none⟩ = some (.bool p1) ∧ w'.cell? ⟨w.heap.size, 2, none⟩ = some (.slice A2 n2 c2) ∧ w'.cell? ⟨w.heap.size, 3, none⟩ = some (.bool p2) ∧ w'.cell? ⟨w.heap.size, 4, none⟩ = some (.slice A3 n3 c3)) (go_keep) (first | (go_at_call 46; (first | ((with_reducible refine (HDb.out _).mono ?_);  (rintro e W7 ⟨rfl, hb7⟩; have kb7 : Below W1.heap.size W1 W7 := bel; clear hb7; obtain ⟨hc7, hf7, hz7⟩ := bcells kb7 (W1.heap.size) (by omega))))) | (go_at_call 43; (first | ((with_reducible refine (HD.out _ ?_).mono ?_); (exact bel); (rintro e W8 ⟨r8, rfl, hr8, hb8⟩; obtain ⟨A8, n8, c8, rfl, hnn8⟩ := hr8.ex; clear hnn8; have kb8 : Below W7.heap.size W7 W8 := bel; clear hb8; obtain ⟨hc8, hf8, hz8⟩ := bcells kb8 (W1.heap.size) (by omega))))) | (go_at_call 42; (first | ((with_reducible refine (HRa.out _ _ ?_ ?_).mono ?_); (exact bel); (exact hr8.below bel); (rintro e W9 ⟨rfl, hb9⟩; have kb9 : Below W8.heap.size W8 W9 := bel; clear hb9; obtain ⟨hc9, hf9, hz9⟩ := bcells kb9 (W1.heap.size) (by omega))))))
  go_wp2_with fail
  have KB := below_trans (below_trans kb7 kb8) kb9
  have B9 := below_trans B1 KB
  have hK9 := (Kept.refl W1 (Nat.le_refl _)).below KB
  have hz9' : W1.heap.size ≤ W9.heap.size := hK9.2.2.1
  obtain ⟨g0_0, g0_1, g0_2, g0_3, g0_4, yg0_0, yg0_1, yg0_2, yg0_3, yg0_4⟩ := hK9.k5 (b := w.heap.size) (by omega) f0_0 f0_1 f0_2 f0_3 f0_4 yf0_0 yf0_1 yf0_2 yf0_3 yf0_4
  clear hK9 KB hc7 hf7 hc8 hf8 hc9 hf9 kb7 kb8 kb9 f0_0 yf0_0 f0_1 yf0_1 f0_2 yf0_2 f0_3 yf0_3 f0_4 yf0_4
  have lt9_0 : w.heap.size < W9.heap.size := (by omega)
  have ne9_0_0 : w.heap.size ≠ W9.heap.size := (by omega)
  have en9_0_0 : W9.heap.size ≠ w.heap.size := (by omega)
  go_region_held3 (fun w' => w'.cell? ⟨w.heap.size, 0, none⟩ = some (.slice A1 n1 c1) ∧ w'.cell? ⟨w.heap.size, 1, none⟩ = some (.bool p1) ∧ w'.cell? ⟨w.heap.size, 2, none⟩ = some (.slice A2 n2 c2) ∧ w'.cell? ⟨w.heap.size, 3, none⟩ = some (.bool p2) ∧ w'.cell? ⟨w.heap.size, 4, none⟩ = some (.slice A3 n3 c3)) (go_keep) (first | (go_at_call 46; (first | ((with_reducible refine (HDb.out _).mono ?_);  (rintro e W17 ⟨rfl, hb17⟩; have kb17 : Below W9.heap.size W9 W17 := bel; clear hb17; obtain ⟨hc17, hf17, hz17⟩ := bcells kb17 (W9.heap.size) (by omega))))) | (go_at_call 43; (first | ((with_reducible refine (HD.out _ ?_).mono ?_); (exact bel); (rintro e W18 ⟨r18, rfl, hr18, hb18⟩; obtain ⟨A18, n18, c18, rfl, hnn18⟩ := hr18.ex; clear hnn18; have kb18 : Below W17.heap.size W17 W18 := bel; clear hb18; obtain ⟨hc18, hf18, hz18⟩ := bcells kb18 (W9.heap.size) (by omega))))) | (go_at_call 42; (first | ((with_reducible refine (HRb.out _ _ ?_ ?_).mono ?_); (exact bel); (exact hr18.below bel); (rintro e W19 ⟨rfl, hb19⟩; have kb19 : Below W18.heap.size W18 W19 := bel; clear hb19; obtain ⟨hc19, hf19, hz19⟩ := bcells kb19 (W9.heap.size) (by omega))))))
  go_wp2_with fail
  have KB := below_trans (below_trans kb17 kb18) kb19
  have B19 := below_trans B9 KB
  have hK19 := (Kept.refl W9 (Nat.le_refl _)).below KB
  have hz19' : W9.heap.size ≤ W19.heap.size := hK19.2.2.1
  obtain ⟨j0_0, j0_1, j0_2, j0_3, j0_4, yj0_0, yj0_1, yj0_2, yj0_3, yj0_4⟩ := hK19.k5 (b := w.heap.size) (by omega) g0_0 g0_1 g0_2 g0_3 g0_4 yg0_0 yg0_1 yg0_2 yg0_3 yg0_4
  clear hK19 KB hc17 hf17 hc18 hf18 hc19 hf19 kb17 kb18 kb19 g0_0 yg0_0 g0_1 yg0_1 g0_2 yg0_2 g0_3 yg0_3 g0_4 yg0_4
  have lt19_0 : w.heap.size < W19.heap.size := (by omega)
  have ne19_0_0 : w.heap.size ≠ W19.heap.size := (by omega)
  have en19_0_0 : W19.heap.size ≠ w.heap.size := (by omega)
  go_region_held3 (fun w' => w'.cell? ⟨w.heap.size, 1, none⟩ = some (.bool p1) ∧ w'.cell? ⟨w.heap.size, 3, none⟩ = some (.bool p2)) (go_keep) (first | (go_at_call 47; (first | ((with_reducible refine (HTa.out _).mono ?_); (rintro e W20 ⟨rfl, rfl⟩)) | ((with_reducible refine (HTb.out _).mono ?_); (rintro e W21 ⟨rfl, rfl⟩)))))
  go_wp2
  go_ret
  exact ⟨rfl, (by (repeat (first | exact Below.refl _ _ | assumption | exact B19 | with_reducible refine Below.drew ?_ | with_reducible refine below_trans ?_ (below_alloc _ _) | with_reducible refine below_trans ?_ (below_drewN _ _) | with_reducible refine Below.setCell ?_ (by simp <;> omega) _ | refine below_trans ?_ (by assumption))))⟩
end Go.Proofs.YtccldiokpgjocaaGreatDoor
