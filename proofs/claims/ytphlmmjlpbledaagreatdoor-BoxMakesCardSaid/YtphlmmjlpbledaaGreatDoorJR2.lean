import Derived.IntWalk
import Derived.Test.YtphlmmjlpbledaaGreatDoorJQ1
import Derived.Test.YtphlmmjlpbledaaGreatDoorK16
import Derived.Test.YtphlmmjlpbledaaGreatDoorK14
import Derived.Test.YtphlmmjlpbledaaGreatDoorK19
set_option linter.unusedSimpArgs false
set_option linter.unusedVariables false
namespace Go.Proofs.YtphlmmjlpbledaaGreatDoor
open Go.RowKit
set_option maxRecDepth 100000
theorem stabB_int (z : Int) : StabB (kInt z) := fun _ _ _ hb h => IsInt.below h hb
theorem stab_nat (x : Nat) : Stab (kNat x) := fun _ _ _ he h => IsNat.ext h he
theorem boxes1 (w : World) (a : Obj) : (w.alloc a).heap[w.heap.size]? = some a ∧ w.heap.size < (w.alloc a).heap.size := ⟨heap_alloc_new w a, by simp⟩
theorem upI_any (v : Value) (z : Int) (n : Nat) (w : World) (h : IsInt w v z) (hn : wl z.natAbs + n / 32 < 1099511627776) (hn2 : n < 1125899906842624) :
    Calls Tryz.prog 80 #[v, .int .i64 (n : Int)] w (RetInt w (z * 2 ^ n)) := by
  obtain ⟨s, rfl, hs⟩ := h
  obtain ⟨A, m, c, rfl, hnn⟩ := hs.ex
  clear hnn
  have HE := hid (fun W (hb : Below w.heap.size w W) => up_any _ _ _ W (hs.below hb) hn hn2)
  have hp : (0 : Int) < 2 ^ n := Int.pow_pos (by omega)
  have hq : decide (z * 2 ^ n < 0) = decide (z < 0) ∧ (z * 2 ^ n).natAbs = z.natAbs * 2 ^ n := by
    rw [Int.natAbs_mul, Int.natAbs_pow]
    refine ⟨?_, rfl⟩
    rw [Bool.eq_iff_iff]
    simp only [decide_eq_true_eq]
    constructor
    · intro h
      rcases Int.lt_or_le z 0 with h2 | h2
      · exact h2
      · have := Int.mul_nonneg h2 (Int.le_of_lt hp); omega
    · intro h; exact Int.mul_neg_of_neg_of_pos h hp
  have HQ := hid hq
  clear hs hq
  generalize decide (z < 0) = b at *
  go_enter Tryz.func80, Tryz.ntmps80
  go_wp2_with fail
  go_region_held3 (fun w' => w'.cell? ⟨w.heap.size, 0, none⟩ = some (.slice A m c) ∧ w'.cell? ⟨w.heap.size, 1, none⟩ = some (.bool b)) (go_keep) ((go_at_call 81; refine (HE.out _ ?_).mono ?_; (exact ((below_trans (below_alloc _ _) (below_alloc _ _)).drew)); rintro e W2 ⟨r, rfl, hr, hb2⟩; have k0 := (hb2.cell (p := ⟨w.heap.size, 0, none⟩) (by simp; omega)); have k1 := (hb2.cell (p := ⟨w.heap.size, 1, none⟩) (by simp; omega)); have k2 := (hb2.cell (p := ⟨w.heap.size + 1, 0, none⟩) (by simp)); have k3 := (hb2.cell (p := ⟨w.heap.size + 1, 1, none⟩) (by simp)); have k4 := (hb2.frozen (p := ⟨w.heap.size + 1, 0, none⟩) (by simp)); have k5 := (hb2.frozen (p := ⟨w.heap.size + 1, 1, none⟩) (by simp)); obtain ⟨A2, n2, c2, rfl, hnn2⟩ := hr.ex; subst hnn2))
  go_wp2
  have B0 : Below w.heap.size w W2 := (below_trans (below_alloc _ _) (below_alloc _ _)).drew.trans (hb2.mono (by simp; omega))
  refine bodyPost_ret (v := .agg #[.slice A2 _ c2, .bool b]) (by simp [results, Tryz.results80, go_sem, k2, k3]; rfl) rfl ?_
  exact RetInt.box (A := none) (n := 0) (c := 0) (q := false) B0 (by simp) (by rw [HQ.out.2]; exact hr) (HQ.out.1.symm) (k2.trans (by simp [go_sem])) (k3.trans (by simp [go_sem])) _ _

theorem IsInt.set_odd {w : World} {v : Value} {z : Int} {p : Addr} {u : Value} (h : IsInt w v z) (hp : w.cell? p = some u) (ho : Odd u) (u' : Value) : IsInt (w.setCell p u') v z := by
  obtain ⟨s, h1, h2⟩ := h
  exact ⟨s, h1, h2.set_odd hp ho u'⟩
theorem IsNum.set_odd {w : World} {v : Value} {x : Cx} {p : Addr} {u : Value} (h : IsNum w v x) (hp : w.cell? p = some u) (ho : Odd u) (u' : Value) : IsNum (w.setCell p u') v x := by
  obtain ⟨r, p, i, q, s, a, b, d, h1, h2, h3, h4, h5⟩ := h
  exact ⟨r, p, i, q, s, a, b, d, h1, h2, h3.set_odd hp ho u', h4.set_odd hp ho u', h5.set_odd hp ho u'⟩

end Go.Proofs.YtphlmmjlpbledaaGreatDoor
namespace Go.Proofs.YtphlmmjlpbledaaGreatDoor
open Go.RowKit
set_option maxRecDepth 100000

/-- What split leaves: an integer, its place, whether the float is finite. -/
def RetSplit (w : World) (b : Nat) (e : Ending) (w' : World) : Prop := ∃ v z n, e = .returned (.tuple #[v, .int .i64 n, .bool (decide (fx b ≠ 2047))]) ∧ IsInt w' v z ∧ Below w.heap.size w w' ∧ -1074 ≤ n ∧ n ≤ 1023 ∧ wl z.natAbs ≤ 2 ∧ (z = 0 ∧ n = 0 ∨ z % 2 ≠ 0) ∧ (fx b ≠ 2047 → z * 2 ^ (n + 1074).toNat = fI b)
theorem fx_bits (b : Nat) (hb : b < 18446744073709551616) : bits BinOp.and IntKind.u64 ((b : Int) / 4503599627370496) 2047 = (fx b : Int) := by
  have := u64_and_nat (b / 4503599627370496) 2047 (by omega) (by omega)
  have e : (b / 4503599627370496) &&& 2047 = fx b := by
    have := Nat.and_two_pow_sub_one_eq_mod (b / 4503599627370496) 11
    simpa [fx] using this
  rw [e] at this
  exact this
theorem fm_bits (b : Nat) (hb : b < 18446744073709551616) : bits BinOp.and IntKind.u64 (b : Int) 4503599627370495 = (fm b : Int) := by
  have := u64_and_nat b 4503599627370495 (by omega) (by omega)
  have e : b &&& 4503599627370495 = fm b := by
    have := Nat.and_two_pow_sub_one_eq_mod b 52
    simpa [fm] using this
  rw [e] at this
  exact this
theorem or_52 {m : Nat} (h : m < 4503599627370496) : bits BinOp.or IntKind.u64 (m : Int) 4503599627370496 = ((m + 4503599627370496 : Nat) : Int) := by
  have := u64_or_nat m 4503599627370496 (by omega) (by omega)
  have e : m ||| 4503599627370496 = m + 4503599627370496 := by
    have := Nat.two_pow_add_eq_or_of_lt (i := 52) (b := m) (by simpa using h) 1
    rw [Nat.or_comm]
    simp at this
    omega
  rw [e] at this
  exact this
theorem split_inf (b : Nat) (w : World) (hb : b < 18446744073709551616) (hx : fx b = 2047) : Calls Tryz.prog 79 #[.float .f64 b] w (RetSplit w b) := by
  have hfb := floatbits_run
  have h1 := fx_bits b hb
  rw [hx] at h1
  have h2 := fm_bits b hb
  have hm := fm_lt b
  have HX := hid hx
  generalize fm b = m at *
  clear hx hb
  go_enter Tryz.func79, Tryz.ntmps79
  go_wp2
  refine bodyPost_ret (v := .tuple #[.agg #[.slice none 0 0, .bool false], .int .i64 0, .bool false]) (by simp [results, Tryz.results79, go_sem]) rfl ?_
  exact ⟨_, 0, 0, by rw [HX.out]; rfl, .zero _ _ _, below_alloc _ _, by omega, by omega, by simp [wl_zero], .inl ⟨rfl, rfl⟩, fun h => absurd HX.out h⟩
theorem split_zero (b : Nat) (w : World) (hb : b < 18446744073709551616) (hx : fx b = 0) (h0 : fm b = 0) : Calls Tryz.prog 79 #[.float .f64 b] w (RetSplit w b) := by
  have hfb := floatbits_run
  have h1 := fx_bits b hb
  have h2 := fm_bits b hb
  rw [hx] at h1
  rw [h0] at h2
  have HX := hid hx
  have H0 := hid (show fI b = 0 by unfold fI fmag; rw [hx, h0]; simp)
  clear hx hb h0
  go_enter Tryz.func79, Tryz.ntmps79
  go_wp2
  refine bodyPost_ret (v := .tuple #[.agg #[.slice none 0 0, .bool false], .int .i64 0, .bool true]) (by simp [results, Tryz.results79, go_sem]) rfl ?_
  exact ⟨_, 0, 0, by rw [HX.out]; rfl, .zero _ _ _, below_alloc _ _, by omega, by omega, by simp [wl_zero], .inl ⟨rfl, rfl⟩, fun h => by rw [H0.out, Int.zero_mul]⟩
theorem lt_zero {b : Nat} (hb : b < 18446744073709551616) (h : fx b ≠ 2047) (h0 : fmag b ≠ 0) : (FloatKind.f64.format.order b 0 == some Ordering.lt) = fneg b := by
  have := order_zero hb h h0
  rw [show FloatKind.f64.format = Ieee.double from rfl, this]
  cases fneg b <;> rfl
theorem ctz_spec {m : Nat} (h0 : m ≠ 0) (hm : m < 9007199254740992) : Lib.ctz 64 m < 53 ∧ m / 2 ^ Lib.ctz 64 m * 2 ^ Lib.ctz 64 m = m ∧ m / 2 ^ Lib.ctz 64 m % 2 = 1 := by
  obtain ⟨j, h1, h2⟩ := Lib.ctzFrom_spec 64 m (by omega) (by omega)
  have h3 : Lib.ctz 64 m = Lib.ctzFrom 64 m := by unfold Lib.ctz; rw [if_neg h0]
  rw [← h3] at h1 h2
  generalize Lib.ctz 64 m = k at *
  have hp : 0 < 2 ^ k := Nat.pow_pos (by omega)
  have h4 : m / 2 ^ k = 2 * j + 1 := by rw [h1]; exact Nat.mul_div_cancel_left _ hp
  refine ⟨?_, by rw [h4, Nat.mul_comm]; exact h1.symm, by omega⟩
  refine (Nat.pow_lt_pow_iff_right (a := 2) (by omega)).1 (Nat.lt_of_le_of_lt ?_ (show m < 2 ^ 53 by omega))
  rw [h1]
  exact Nat.le_mul_of_pos_right _ (by omega)
theorem split_val {b q k : Nat} (h : q * 2 ^ k = fmag b) : (if fneg b then -(q : Int) else (q : Int)) * 2 ^ (fup b + k) = fI b := by
  unfold fI
  rw [← h]
  have e : (q * 2 ^ k * 2 ^ fup b : Nat) = q * 2 ^ (fup b + k) := by rw [Nat.mul_assoc, ← Nat.pow_add, Nat.add_comm]
  rw [e]
  split <;> simp [Int.neg_mul]
theorem split_sg {b q : Nat} (h : q ≠ 0) : (if fneg b then -(q : Int) else (q : Int)).natAbs = q ∧ decide ((if fneg b then -(q : Int) else (q : Int)) < 0) = fneg b := by
  cases fneg b
  · simp
  · simp; omega
theorem run_loadZe {w : World} {g : Nat} (h : IntBox w g) (v0 v1 r u : Value) :
    ((Sem.run Tryz.prog (asAddr (Value.pointer (some { block := g, off := 0 }))) ((w.setCell ⟨g, 0, none⟩ v0).setCell ⟨g, 1, none⟩ v1)).andThen
      fun a w' => (Sem.run Tryz.prog (loadVar 26 a) w').andThen fun a w' => Result.ok (Value.tuple #[a, r, u]) w') =
    Result.ok (Value.tuple #[Value.agg #[v0, v1], r, u]) ((w.setCell ⟨g, 0, none⟩ v0).setCell ⟨g, 1, none⟩ v1) := by
  obtain ⟨o0, o1, h0, h1, -⟩ := h
  simp [go_sem, h0, h1]
set_option maxHeartbeats 400000 in
theorem split_sub (b : Nat) (w : World) (hb : b < 18446744073709551616) (hx : fx b = 0) (h0 : fm b ≠ 0) (hT : Tab64 w) : Calls Tryz.prog 79 #[.float .f64 b] w (RetSplit w b) := by
  have hfb := floatbits_run
  have h1 := fx_bits b hb
  have h2 := fm_bits b hb
  have hf := fm_lt b
  have HM := hid (show fmag b = fm b by unfold fmag; rw [if_pos hx])
  have hU : fup b = 0 := by unfold fup; rw [hx]
  have hX7 : fx b ≠ 2047 := by omega
  rw [hx] at h1
  have hm0 : fm b ≠ 0 := h0
  have hm : fm b < 9007199254740992 := by omega
  generalize fm b = m at *
  have HLT := hid (lt_zero hb (by omega) (by rw [HM.out]; exact hm0))
  have hz : ((m : Int) == 0) = false := by simp; omega
  have H7 := hid (show decide (fx b ≠ 2047) = true by simp; omega)
  have HT := hid (fun W (hT : Tab64 W) => tz64_any m W hm0 (by omega) hT)
  obtain ⟨k, hk⟩ : ∃ k, Lib.ctz 64 m = k := ⟨_, rfl⟩
  obtain ⟨hk6, hkm, hq0⟩ := ctz_spec hm0 hm
  rw [hk] at hk6 hkm hq0
  obtain ⟨q, hq⟩ : ∃ q, m / 2 ^ k = q := ⟨_, rfl⟩
  rw [hq] at hkm hq0
  have HOD := hid hq0
  replace hq0 : q ≠ 0 := by omega
  have hql : q ≤ m := by rw [← hq]; exact Nat.div_le_self _ _
  have hq64 : q < 18446744073709551616 := by omega
  have HDV := hid (show (m : Int) / 2 ^ k = (q : Int) by rw [← hq]; simp)
  have HV := hid (split_val (b := b) (by rw [HM.out]; exact hkm))
  have HSG := hid (split_sg (b := b) hq0)
  have HU := hid hU
  have HWQ := hid (show wl q ≤ 2 from wl_le_of (by omega))
  have HK := hid hk
  have HX7 := hid hX7
  clear hx hX7 hb h0 hm0 hm hk hkm hq hU hq0
  go_enter Tryz.func79, Tryz.ntmps79
  go_wp2_with fail
  refine (HT.out _ (hT.below (below_alloc _ _))).mono ?_
  rintro e w1 ⟨rfl, rfl⟩
  rw [HK.out]
  go_wp2_with fail
  rw [HDV.out]
  refine (fromUint_any q _ hq64).mono ?_
  rintro e w2 ⟨v, rfl, hv, hb2⟩
  obtain ⟨A, n, c, rfl, -⟩ := hv.ex
  have hbx : w2.heap[w.heap.size]? = some (.cells #[.slice none 0 0, .bool false] 26 (0, 0)) := (hb2.block w.heap.size (by simp)).trans (heap_alloc_new w _)
  obtain ⟨f0, f1, y0, y1⟩ := bx2 hbx
  have HVV := hid hv
  have HB2 := hid (below_trans (below_alloc w _) hb2)
  have hlt := HLT.out
  clear hv hb2 hbx
  go_wp2
  have IB : IntBox w2 w.heap.size := .mk f0 f1
  refine bodyPost_ret (v := .tuple #[.agg #[.slice A n c, .bool (fneg b)], .int .i64 (-1074 + (k : Int)), .bool true]) (by simp [results, Tryz.results79]; exact run_loadZe IB _ _ _ _) rfl ?_
  have h3 := HU.out
  have h7 := HX7.out
  refine ⟨_, _, _, by rw [H7.out], IsInt.box2 (z := if fneg b then -(q : Int) else (q : Int)) ⟨_, by rw [HSG.out.2], by rw [HSG.out.1]; exact HVV.out⟩ IB _ _, (HB2.out.setCell (Nat.le_refl _) _).setCell (Nat.le_refl _) _, by omega, by omega, by rw [HSG.out.1]; exact HWQ.out, .inr ?_, fun _ => ?_⟩
  · have := HSG.out.1; have := HOD.out; omega
  · rw [← HV.out]
    congr 2
    omega
set_option maxHeartbeats 400000 in
theorem split_norm (b : Nat) (w : World) (hb : b < 18446744073709551616) (hx : 0 < fx b) (hx2 : fx b ≠ 2047) (hT : Tab64 w) : Calls Tryz.prog 79 #[.float .f64 b] w (RetSplit w b) := by
  have hfb := floatbits_run
  have h1 := fx_bits b hb
  have h2 := fm_bits b hb
  have hf := fm_lt b
  have hor := or_52 hf
  have HM := hid (show fmag b = fm b + 4503599627370496 by unfold fmag; rw [if_neg (by omega)])
  have hU : fup b = fx b - 1 := rfl
  have hX7 := hx2
  have hXl := fx_lt b
  generalize fm b = m0 at *
  obtain ⟨m, hmd⟩ : ∃ m, m = m0 + 4503599627370496 := ⟨_, rfl⟩
  rw [← hmd] at hor
  have HM := hid (HM.out.trans hmd.symm)
  have hm0 : m ≠ 0 := by omega
  have hm : m < 9007199254740992 := by omega
  obtain ⟨X, hX⟩ : ∃ X, fx b = X := ⟨_, rfl⟩
  rw [hX] at h1 hU hx hX7 hXl
  have hX7d : ((X : Int) == 2047) = false := by simp; omega
  have hXp : (0 : Int) < (X : Int) := by omega
  have hXpd : decide ((0 : Int) < (X : Int)) = true := by simp; omega
  have hwX : IntKind.i64.wrap (X : Int) = (X : Int) := IntWalk.i64_in _ (by omega)
  clear hmd
  have HLT := hid (lt_zero hb (by rw [hX]; exact hX7) (by rw [HM.out]; exact hm0))
  have hz : ((m : Int) == 0) = false := by simp; omega
  have H7 := hid (show decide (fx b ≠ 2047) = true by rw [hX]; simp; omega)
  have HT := hid (fun W (hT : Tab64 W) => tz64_any m W hm0 (by omega) hT)
  obtain ⟨k, hk⟩ : ∃ k, Lib.ctz 64 m = k := ⟨_, rfl⟩
  obtain ⟨hk6, hkm, hq0⟩ := ctz_spec hm0 hm
  rw [hk] at hk6 hkm hq0
  obtain ⟨q, hq⟩ : ∃ q, m / 2 ^ k = q := ⟨_, rfl⟩
  rw [hq] at hkm hq0
  have HOD := hid hq0
  replace hq0 : q ≠ 0 := by omega
  have hql : q ≤ m := by rw [← hq]; exact Nat.div_le_self _ _
  have hq64 : q < 18446744073709551616 := by omega
  have HDV := hid (show (m : Int) / 2 ^ k = (q : Int) by rw [← hq]; simp)
  have HV := hid (split_val (b := b) (by rw [HM.out]; exact hkm))
  have HSG := hid (split_sg (b := b) hq0)
  have HU := hid hU
  have HWQ := hid (show wl q ≤ 2 from wl_le_of (by omega))
  have HK := hid hk
  have HX7 := hid hX7
  clear hx hx2 hX7 hb hX hm0 hm hk hkm hq hU hq0
  go_enter Tryz.func79, Tryz.ntmps79
  go_wp2_with fail
  refine (HT.out _ (hT.below (below_alloc _ _))).mono ?_
  rintro e w1 ⟨rfl, rfl⟩
  rw [HK.out]
  go_wp2_with fail
  rw [HDV.out]
  refine (fromUint_any q _ hq64).mono ?_
  rintro e w2 ⟨v, rfl, hv, hb2⟩
  obtain ⟨A, n, c, rfl, -⟩ := hv.ex
  have hbx : w2.heap[w.heap.size]? = some (.cells #[.slice none 0 0, .bool false] 26 (0, 0)) := (hb2.block w.heap.size (by simp)).trans (heap_alloc_new w _)
  obtain ⟨f0, f1, y0, y1⟩ := bx2 hbx
  have HVV := hid hv
  have HB2 := hid (below_trans (below_alloc w _) hb2)
  have hlt := HLT.out
  clear hv hb2 hbx
  go_wp2
  have IB : IntBox w2 w.heap.size := .mk f0 f1
  refine bodyPost_ret (v := .tuple #[.agg #[.slice A n c, .bool (fneg b)], .int .i64 ((X : Int) - 1 - 1074 + (k : Int)), .bool true]) (by simp [results, Tryz.results79]; exact run_loadZe IB _ _ _ _) rfl ?_
  have h3 := HU.out
  have h7 := HX7.out
  refine ⟨_, _, _, by rw [H7.out], IsInt.box2 (z := if fneg b then -(q : Int) else (q : Int)) ⟨_, by rw [HSG.out.2], by rw [HSG.out.1]; exact HVV.out⟩ IB _ _, (HB2.out.setCell (Nat.le_refl _) _).setCell (Nat.le_refl _) _, by omega, by omega, by rw [HSG.out.1]; exact HWQ.out, .inr ?_, fun _ => ?_⟩
  · have := HSG.out.1; have := HOD.out; omega
  · rw [← HV.out]
    congr 2
    omega
theorem split_any (b : Nat) (w : World) (hb : b < 18446744073709551616) (hT : Tab64 w) : Calls Tryz.prog 79 #[.float .f64 b] w (RetSplit w b) := by
  by_cases h : fx b = 2047
  · exact split_inf b w hb h
  rcases Nat.eq_zero_or_pos (fx b) with h0 | h0
  · by_cases h1 : fm b = 0
    · exact split_zero b w hb h0 h1
    · exact split_sub b w hb h0 h1 hT
  · exact split_norm b w hb h0 h hT
end Go.Proofs.YtphlmmjlpbledaaGreatDoor
namespace Go.Proofs.YtphlmmjlpbledaaGreatDoor
open Go.RowKit
set_option maxRecDepth 100000

def cw (a b : Int) : Cx := ⟨(a : Rat), (b : Rat)⟩
theorem cw_low (a b : Int) : Low (cw a b) a b 1 := ⟨by omega, by simp, by simp [cw], by simp [cw]⟩
theorem IsNum.ints {w : World} {r i s : Value} {p q : Bool} {a b : Int} (h : IsNum w (.agg #[r, .bool p, i, .bool q, s]) (cw a b)) : IsInt w (.agg #[r, .bool p]) a ∧ IsInt w (.agg #[i, .bool q]) b ∧ IsNat w s (dn 1) := by
  obtain ⟨r', p', i', q', s', a', b', d', e, hl, hr, hi, hs⟩ := h
  obtain ⟨rfl, rfl, rfl⟩ := hl.uniq (cw_low a b)
  simp at e
  obtain ⟨rfl, rfl, rfl, rfl, rfl⟩ := e
  exact ⟨hr, hi, hs⟩
theorem dn_two {k : Nat} (h : 0 < k) : dn (2 ^ k) = 2 ^ k := dn_of_gt (by have := Nat.pow_le_pow_right (n := 2) (by omega) h; omega)
theorem wl_zero_natAbs : wl (0 : Int).natAbs = 0 := wl_zero

set_option maxHeartbeats 1000000 in
theorem complex_good (a b : Nat) (w : World) (ha : a < 18446744073709551616) (hb : b < 18446744073709551616) (hT : Tab64 w) (xa : fx a ≠ 2047) (xb : fx b ≠ 2047) :
    Calls Tryz.prog 21 #[.complex .f64 a b] w (RetNumE w (cf a b) 0) := by
  have HA := hid (fun W (hb : Below w.heap.size w W) => split_any a W ha (hT.below hb))
  have HB := hid (fun W (h : Below w.heap.size w W) => split_any b W hb (hT.below h))
  have HOA := hid (show decide (fx a ≠ 2047) = true by simpa using xa)
  have HOB := hid (show decide (fx b ≠ 2047) = true by simpa using xb)
  have XA := hid xa
  have XB := hid xb
  clear hT ha hb xa xb
  go_enter Tryz.func21, Tryz.ntmps21
  go_wp2_with fail
  refine (HA.out _ (below_alloc _ _)).mono ?_
  rintro e w1 ⟨v, z1, n1, rfl, hz1, hb1, l1, u1, s1, o1, i1⟩
  obtain ⟨A1, m1, c1, rfl, -⟩ := hz1.parts
  rw [HOA.out]
  have F1 := hid (And.intro l1 (And.intro u1 (And.intro s1 (And.intro o1 (i1 XA.out)))))
  clear l1 u1 s1 o1 i1
  generalize decide (z1 < 0) = p1 at *
  have hbx : w1.heap[w.heap.size]? = some (.cells #[.slice none 0 0, .bool false, .slice none 0 0, .bool false, .slice none 0 0] 28 (0, 0)) := (hb1.block w.heap.size (by simp)).trans (heap_alloc_new w _)
  have hlt : w.heap.size < w1.heap.size := Nat.lt_of_lt_of_le (by simp) hb1.size
  have B1 := hid (below_trans (below_alloc w _) hb1)
  have HZ1 := hid hz1
  clear hb1 hz1
  go_wp2_with fail
  refine (HB.out _ (below_trans B1.out (below_alloc _ _))).mono ?_
  rintro e w2 ⟨v, z2, n2, rfl, hz2, hb2, l2, u2, s2, o2, i2⟩
  obtain ⟨A2, m2, c2, rfl, -⟩ := hz2.parts
  rw [HOB.out]
  have F2 := hid (And.intro l2 (And.intro u2 (And.intro s2 (And.intro o2 (i2 XB.out)))))
  clear l2 u2 s2 o2 i2
  generalize decide (z2 < 0) = p2 at *
  have X0 := (hb2.block w.heap.size (by simp; omega)).trans ((heap_alloc_old w1 _ hlt).trans hbx)
  have z0 : w.heap.size < w2.heap.size := Nat.lt_of_lt_of_le hlt (Nat.le_trans (by simp) hb2.size)
  have X10 := (hb2.block w1.heap.size (by simp)).trans (heap_alloc_new w1 _)
  have z10 : w1.heap.size < w2.heap.size := Nat.lt_of_lt_of_le (by simp) hb2.size
  have HZ1 := hid ((HZ1.out.below (below_alloc _ (.cells #[.slice A1 m1 c1, .bool p1] 26))).below hb2)
  have B2 := hid (below_trans (below_trans B1.out (below_alloc _ _)) hb2)
  have HZ2 := hid hz2
  clear hb2 hz2 hbx B1 HA HB
  go_upto_region 6 with fail
  obtain ⟨W3, hW3⟩ : ∃ W, W = w2.alloc (.cells #[.slice A2 m2 c2, .bool p2] 26) := ⟨_, rfl⟩
  rw [← hW3]
  have X11 : W3.heap[w2.heap.size]? = some (.cells #[.slice A2 m2 c2, .bool p2] 26 (0, 0)) := by rw [hW3]; exact heap_alloc_new w2 _
  have z11 : w2.heap.size < W3.heap.size := by rw [hW3]; simp
  replace X0 := (heap_alloc_old w2 (.cells #[.slice A2 m2 c2, .bool p2] 26) z0).trans X0
  replace X10 := (heap_alloc_old w2 (.cells #[.slice A2 m2 c2, .bool p2] 26) z10).trans X10
  rw [← hW3] at X0 X10
  replace z0 := Nat.lt_trans z0 z11
  replace z10 := Nat.lt_trans z10 z11
  have H1 : IsInt W3 (.agg #[.slice A1 m1 c1, .bool p1]) z1 := by rw [hW3]; exact HZ1.out.below (below_alloc _ _)
  have H2 : IsInt W3 (.agg #[.slice A2 m2 c2, .bool p2]) z2 := by rw [hW3]; exact HZ2.out.below (below_alloc _ _)
  have B3 : Below w.heap.size w W3 := by rw [hW3]; exact below_trans B2.out (below_alloc _ _)
  clear hW3 B2 HZ1 HZ2
  obtain ⟨low, hlow⟩ : ∃ l : Int, l = (if 0 < if n2 < n1 then n2 else n1 then 0 else if n2 < n1 then n2 else n1) := ⟨_, rfl⟩
  rw [← hlow]
  have hl : low = min (min n1 n2) 0 := by rw [hlow]; split <;> split at * <;> omega
  clear hlow
  obtain ⟨l1, u1, s1, o1, i1⟩ := F1.out
  obtain ⟨l2, u2, s2, o2, i2⟩ := F2.out
  have HLow := hid (cf_low i1 i2 l1 l2 o1 o2 hl)
  clear F1 F2 XA XB HOA HOB i1 i2 o1 o2
  obtain ⟨k1, hk1⟩ : ∃ k, k = (n1 - low).toNat := ⟨_, rfl⟩
  obtain ⟨k2, hk2⟩ : ∃ k, k = (n2 - low).toNat := ⟨_, rfl⟩
  obtain ⟨kd, hkd⟩ : ∃ k, k = (-low).toNat := ⟨_, rfl⟩
  rw [← hk1, ← hk2, ← hkd] at HLow
  have HS1 := hid (show IntKind.i64.wrap (n1 - low) = (k1 : Int) by rw [IntWalk.i64_in _ (by omega)]; omega)
  have HS2 := hid (show IntKind.i64.wrap (n2 - low) = (k2 : Int) by rw [IntWalk.i64_in _ (by omega)]; omega)
  have HU1 := hid (fun W (hb : Below W3.heap.size W3 W) => upI_any _ z1 k1 W (H1.below hb) (by omega) (by omega))
  have HU2 := hid (fun W (hb : Below W3.heap.size W3 W) => upI_any _ z2 k2 W (H2.below hb) (by omega) (by omega))
  have hwn : IntKind.i64.wrap (-low) = (kd : Int) ∨ low = 0 := by rcases Int.lt_or_le low 0 with h | h; (left; rw [IntWalk.i64_in _ (by omega)]; omega); (right; omega)
  have HKD := hid (And.intro hwn (show kd ≤ 1074 ∧ (low < 0 ∧ 0 < kd ∨ low = 0 ∧ kd = 0) by omega))
  clear hwn hk1 hk2 hkd hl l1 l2 u1 u2 s1 s2 H1 H2
  refine region_lin [.val (kIs (.agg #[.slice A1 m1 c1, .bool p1])), .val (kIs (.int .i64 n1)), .val (kIs (.int .i64 low)), .val (kIs (.int .i64 (k1 : Int))), .val (kInt (z1 * 2 ^ k1)), .val (kIs (.agg #[.slice A2 m2 c2, .bool p2])), .val (kIs (.int .i64 n2)), .val (kIs (.int .i64 low)), .val (kIs (.int .i64 (k2 : Int))), .val (kInt (z2 * 2 ^ k2)), .val (kNum (cw (z1 * 2 ^ k1) (z2 * 2 ^ k2))), .box 28 zNum, .put 11 10]
    (by kernel_rfl) (by kernel_rfl) (by kernel_rfl) (by kernel_rfl) (by kernel_rfl) ⟨stab_is _, stab_is _, stab_is _, stab_is _, stab_int _, stab_is _, stab_is _, stab_is _, stab_is _, stab_int _, stab_num _, trivial⟩ (by simp) ⟨?_, ?_, ?_, ?_, ?_, ?_, ?_, ?_, ?_, ?_, ?_, alloc_num, store_num _, trivial⟩ ?_
  · intro ts W hb hB hp; intro K hK; simp only [fillT, Nat.zero_add, Nat.reduceAdd, sA, sB, sC] at hK ⊢; have HK := hid hK; clear hK hp; obtain ⟨f0, f1, -, -⟩ := bx2 ((hb.block _ z10).trans X10); refine ⟨?_⟩; go_simp; exact HK.out _ _ rfl rfB
  · intro ts W hb hB hp; intro K hK; simp only [fillT, Nat.zero_add, Nat.reduceAdd, sA, sB, sC] at hK ⊢; have HK := hid hK; clear hK hp; refine ⟨?_⟩; go_simp; exact HK.out _ _ rfl rfB
  · intro ts W hb hB hp; intro K hK; simp only [fillT, Nat.zero_add, Nat.reduceAdd, sA, sB, sC] at hK ⊢; have HK := hid hK; clear hK hp; refine ⟨?_⟩; go_simp; exact HK.out _ _ rfl rfB
  · intro ts W hb hB hp; have h1 : ts 1 = _ := hp 1 (by kernel_rfl); have h2 : ts 2 = _ := hp 2 (by kernel_rfl); intro K hK; simp only [fillT, Nat.zero_add, Nat.reduceAdd, sA, sB, sC, h1, h2] at hK ⊢; have HK := hid hK; clear hK hp; refine ⟨?_⟩; go_simp; exact HK.out _ _ (by simp [kIs, HS1.out]) rfB
  · intro ts W hb hB hp; have h0 : ts 0 = _ := hp 0 (by kernel_rfl); have h3 : ts 3 = _ := hp 3 (by kernel_rfl); intro K hK; simp only [fillT, Nat.zero_add, Nat.reduceAdd, sA, sB, sC, h0, h3] at hK ⊢; have HK := hid hK; clear hK hp; refine ⟨?_⟩; go_simp; refine (HU1.out W hb).mono ?_; rintro e W9 ⟨r9, rfl, hr9, hb9⟩; exact HK.out _ _ hr9 hb9
  · intro ts W hb hB hp; intro K hK; simp only [fillT, Nat.zero_add, Nat.reduceAdd, sA, sB, sC] at hK ⊢; have HK := hid hK; clear hK hp; obtain ⟨f0, f1, -, -⟩ := bx2 ((hb.block _ z11).trans X11); refine ⟨?_⟩; go_simp; exact HK.out _ _ rfl rfB
  · intro ts W hb hB hp; intro K hK; simp only [fillT, Nat.zero_add, Nat.reduceAdd, sA, sB, sC] at hK ⊢; have HK := hid hK; clear hK hp; refine ⟨?_⟩; go_simp; exact HK.out _ _ rfl rfB
  · intro ts W hb hB hp; intro K hK; simp only [fillT, Nat.zero_add, Nat.reduceAdd, sA, sB, sC] at hK ⊢; have HK := hid hK; clear hK hp; refine ⟨?_⟩; go_simp; exact HK.out _ _ rfl rfB
  · intro ts W hb hB hp; have h6 : ts 6 = _ := hp 6 (by kernel_rfl); have h7 : ts 7 = _ := hp 7 (by kernel_rfl); intro K hK; simp only [fillT, Nat.zero_add, Nat.reduceAdd, sA, sB, sC, h6, h7] at hK ⊢; have HK := hid hK; clear hK hp; refine ⟨?_⟩; go_simp; exact HK.out _ _ (by simp [kIs, HS2.out]) rfB
  · intro ts W hb hB hp; have h5 : ts 5 = _ := hp 5 (by kernel_rfl); have h8 : ts 8 = _ := hp 8 (by kernel_rfl); intro K hK; simp only [fillT, Nat.zero_add, Nat.reduceAdd, sA, sB, sC, h5, h8] at hK ⊢; have HK := hid hK; clear hK hp; refine ⟨?_⟩; go_simp; refine (HU2.out W hb).mono ?_; rintro e W9 ⟨r9, rfl, hr9, hb9⟩; exact HK.out _ _ hr9 hb9
  · intro ts W hb hB hp; have h4 := hp 4 (by kernel_rfl); have h9 := hp 9 (by kernel_rfl); intro K hK; obtain ⟨A7, m7, c7, e7, -⟩ := IsInt.parts h4; obtain ⟨A8, m8, c8, e8, -⟩ := IsInt.parts h9; have i7 := h4; have i8 := h9; rw [e7] at i7; rw [e8] at i8; simp only [fillT, Nat.zero_add, Nat.reduceAdd, sA, sB, sC, e7, e8] at hK ⊢; have HK := hid hK; clear hK hp; refine ⟨?_⟩; go_simp; exact HK.out _ _ (IsNum.mk (cw_low _ _) i7 i8 (IsNat.zero _ _ _)) rfB
  intro ts W5 hb5 hh hap
  obtain ⟨g20, A20, n20, c20, p20, A20b, n20b, c20b, p20b, A20c, n20c, c20c, e11, lo20, z20, X20, N20⟩ := held_box (x := cw (z1 * 2 ^ k1) (z2 * 2 ^ k2)) (hh 11 (by simp)) rfl (hh 12 (by simp)) rfl (hh 10 (by simp)) rfl
  simp only [fillT, Nat.zero_add, Nat.reduceAdd, sA, sB, sC, e11]
  clear hh hap e11
  generalize ts 0 = u0_W5 at *
  generalize ts 1 = u1_W5 at *
  generalize ts 2 = u2_W5 at *
  generalize ts 3 = u3_W5 at *
  generalize ts 4 = u4_W5 at *
  generalize ts 5 = u5_W5 at *
  generalize ts 6 = u6_W5 at *
  generalize ts 7 = u7_W5 at *
  generalize ts 8 = u8_W5 at *
  generalize ts 9 = u9_W5 at *
  generalize ts 10 = u10_W5 at *
  clear ts
  have hwg : w.heap.size < g20 := by omega
  replace X0 := (hb5.block _ z0).trans X0
  replace z0 := Nat.lt_of_lt_of_le z0 hb5.size
  replace B3 := below_trans B3 hb5
  clear hb5
  obtain ⟨IR, II, IS⟩ := N20.ints
  have HIR := hid IR
  have HII := hid II
  have HIS := hid IS
  have hg0 : w.heap.size ≠ g20 := by omega
  have hg1 : g20 ≠ w.heap.size := by omega
  clear IR II IS N20 X10 X11 z10 z11
  obtain ⟨f0, f1, f2, f3, f4, y0, y1, y2, y3, y4⟩ := bx5 X0
  obtain ⟨d0, d1, d2, d3, d4, v0, v1, v2, v3, v4⟩ := bx5 X20
  clear X0 X20
  rcases HKD.out.2.2 with ⟨hlt0, hkd0⟩ | ⟨rfl, rfl⟩
  · have hdl : decide (low < 0) = true := by simpa using hlt0
    have hw : IntKind.i64.wrap (-low) = (kd : Int) := by rcases HKD.out.1 with h | h <;> (first | exact h | omega)
    have HU := hid (fun W v (h : IsNat W v 1) => up_any v 1 kd W h (by rw [wl_one]; have := HKD.out.2.1; omega) (by have := HKD.out.2.1; omega))
    have HL := hid HLow.out
    have HK0 := hid hkd0
    clear HLow hkd0 HKD
    go_wp2_with fail
    refine (HU.out _ _ (IsNat.one _ _ (by simp) (by simp [go_sem]) 1 (Nat.le_refl _))).mono ?_
    rintro e W6 ⟨v, rfl, hn6, hb6⟩
    obtain ⟨A6, n6, c6, rfl, hnn⟩ := hn6.ex
    clear hnn
    have B56 := below_trans (below_alloc W5 _) hb6
    obtain ⟨hc, hf, hz⟩ := bcells B56 W5.heap.size (Nat.le_refl _)
    replace f0 := (hc _ 0 (by omega)).trans f0
    replace f1 := (hc _ 1 (by omega)).trans f1
    replace f2 := (hc _ 2 (by omega)).trans f2
    replace f3 := (hc _ 3 (by omega)).trans f3
    replace f4 := (hc _ 4 (by omega)).trans f4
    replace y0 := (hf _ 0 (by omega)).trans y0
    replace y1 := (hf _ 1 (by omega)).trans y1
    replace y2 := (hf _ 2 (by omega)).trans y2
    replace y3 := (hf _ 3 (by omega)).trans y3
    replace y4 := (hf _ 4 (by omega)).trans y4
    replace d0 := (hc _ 0 (by omega)).trans d0
    replace d1 := (hc _ 1 (by omega)).trans d1
    replace d2 := (hc _ 2 (by omega)).trans d2
    replace d3 := (hc _ 3 (by omega)).trans d3
    replace d4 := (hc _ 4 (by omega)).trans d4
    replace v4 := (hf _ 4 (by omega)).trans v4
    clear v0 v1 v2 v3
    have HN6 := hid (show IsNat W6 (.slice A6 n6 c6) (dn (2 ^ kd)) by rw [dn_two HK0.out]; rw [Nat.one_mul] at hn6; exact hn6)
    have HIR6 := hid (HIR.out.below B56)
    have HII6 := hid (HII.out.below B56)
    have B6 := hid (below_trans B3 B56)
    clear hn6 hb6 B56 hc hf HIR HII HIS B3
    go_upto_region 9 with fail
    obtain ⟨W7, hW7⟩ : ∃ W, W = W6.setCell ⟨g20, 4, none⟩ (.slice A6 n6 c6) := ⟨_, rfl⟩
    rw [← hW7]
    have HN := hid (show IsNum W7 (.agg #[.slice A20 n20 c20, .bool p20, .slice A20b n20b c20b, .bool p20b, .slice A6 n6 c6]) (cf a b) by rw [hW7]; exact (IsNum.mk HL.out HIR6.out HII6.out HN6.out).set_odd d4 (Odd.slice _ _ _) _)
    have B7 := hid (show Below w.heap.size w W7 by rw [hW7]; exact B6.out.setCell (p := ⟨g20, 4, none⟩) (by show w.heap.size ≤ g20; omega) _)
    replace f0 : W7.cell? ⟨w.heap.size, 0, none⟩ = some (.slice none 0 0) := by rw [hW7]; simp [go_sem, f0, hg0, hg1]
    replace f1 : W7.cell? ⟨w.heap.size, 1, none⟩ = some (.bool false) := by rw [hW7]; simp [go_sem, f1, hg0, hg1]
    replace f2 : W7.cell? ⟨w.heap.size, 2, none⟩ = some (.slice none 0 0) := by rw [hW7]; simp [go_sem, f2, hg0, hg1]
    replace f3 : W7.cell? ⟨w.heap.size, 3, none⟩ = some (.bool false) := by rw [hW7]; simp [go_sem, f3, hg0, hg1]
    replace f4 : W7.cell? ⟨w.heap.size, 4, none⟩ = some (.slice none 0 0) := by rw [hW7]; simp [go_sem, f4, hg0, hg1]
    replace y0 : W7.frozen? ⟨w.heap.size, 0, none⟩ = false := by rw [hW7]; simpa [go_sem] using y0
    replace y1 : W7.frozen? ⟨w.heap.size, 1, none⟩ = false := by rw [hW7]; simpa [go_sem] using y1
    replace y2 : W7.frozen? ⟨w.heap.size, 2, none⟩ = false := by rw [hW7]; simpa [go_sem] using y2
    replace y3 : W7.frozen? ⟨w.heap.size, 3, none⟩ = false := by rw [hW7]; simpa [go_sem] using y3
    replace y4 : W7.frozen? ⟨w.heap.size, 4, none⟩ = false := by rw [hW7]; simpa [go_sem] using y4
    replace d0 : W7.cell? ⟨g20, 0, none⟩ = some (.slice A20 n20 c20) := by rw [hW7]; simp [go_sem, d0]
    replace d1 : W7.cell? ⟨g20, 1, none⟩ = some (.bool p20) := by rw [hW7]; simp [go_sem, d1]
    replace d2 : W7.cell? ⟨g20, 2, none⟩ = some (.slice A20b n20b c20b) := by rw [hW7]; simp [go_sem, d2]
    replace d3 : W7.cell? ⟨g20, 3, none⟩ = some (.bool p20b) := by rw [hW7]; simp [go_sem, d3]
    replace d4 : W7.cell? ⟨g20, 4, none⟩ = some (.slice A6 n6 c6) := by rw [hW7]; simp [go_sem, d4]
    clear hW7 v4
    have NB := NumBox.nil f0 f1 f2 f3 f4
    go_wp2
    refine bodyPost_ret (v := .tuple #[.agg #[.slice A20 n20 c20, .bool p20, .slice A20b n20b c20b, .bool p20b, .slice A6 n6 c6], .int .i64 0]) (by simp [results, Tryz.results21]; exact run_load5e NB _ _ _ _ _ _) rfl ?_
    exact RetNumE.box B7.out (Nat.le_refl _) NB HN.out _ _ _ _ _
  · have NB := NumBox.nil f0 f1 f2 f3 f4
    have HL := hid HLow.out
    clear HLow
    go_wp2
    refine bodyPost_ret (v := .tuple #[.agg #[.slice A20 n20 c20, .bool p20, .slice A20b n20b c20b, .bool p20b, .slice A20c n20c c20c], .int .i64 0]) (by simp [results, Tryz.results21]; exact run_load5e NB _ _ _ _ _ _) rfl ?_
    exact RetNumE.box B3 (Nat.le_refl _) NB (IsNum.mk (d := 1) (by simpa using HL.out) HIR.out HII.out HIS.out) _ _ _ _ _
end Go.Proofs.YtphlmmjlpbledaaGreatDoor
