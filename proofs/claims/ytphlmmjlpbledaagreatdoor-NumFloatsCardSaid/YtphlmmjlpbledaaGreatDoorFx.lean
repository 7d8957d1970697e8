
/- Words that the joined texts left out. -/
import Derived.Test.YtphlmmjlpbledaaGreatDoorK16
import Derived.Test.YtphlmmjlpbledaaGreatDoorK14
import Derived.Test.YtphlmmjlpbledaaGreatDoorK16
set_option linter.unusedSimpArgs false
set_option linter.unusedVariables false
namespace Go.Proofs.YtphlmmjlpbledaaGreatDoor
open Go.RowKit
set_option maxRecDepth 100000
theorem stabB_int (z : Int) : StabB (kInt z) := fun _ _ _ hb h => IsInt.below h hb
theorem stab_nat (x : Nat) : Stab (kNat x) := fun _ _ _ he h => IsNat.ext h he
theorem boxes1 (w : World) (a : Obj) : (w.alloc a).heap[w.heap.size]? = some a ∧ w.heap.size < (w.alloc a).heap.size := ⟨heap_alloc_new w a, by simp⟩
theorem upI_any (v : Value) (z : Int) (n : Nat) (w : World) (h : IsInt w v z) (hn : wl z.natAbs + n / 32 < 1099511627776) (hn2 : n < 1125899906842624) :
    Calls Tryz.prog 80 #[v, .int .i64 (n : Int)] w (RetInt w (z * 2 ^ n)) := by
  obtain ⟨s, rfl, hs⟩ := h
  obtain ⟨A, m, c, rfl, hnn⟩ := hs.ex
  clear hnn
  have HE := Lib.hid (fun W (hb : Below w.heap.size w W) => up_any _ _ _ W (hs.below hb) hn hn2)
  have hp : (0 : Int) < 2 ^ n := Int.pow_pos (by omega)
  have hq : decide (z * 2 ^ n < 0) = decide (z < 0) ∧ (z * 2 ^ n).natAbs = z.natAbs * 2 ^ n := by
    rw [Int.natAbs_mul, Int.natAbs_pow]
    refine ⟨?_, rfl⟩
    rw [Bool.eq_iff_iff]
    simp only [decide_eq_true_eq]
    constructor
    · intro h
      rcases Int.lt_or_le z 0 with h2 | h2
      · exact h2
      · have := Int.mul_nonneg h2 (Int.le_of_lt hp); omega
    · intro h; exact Int.mul_neg_of_neg_of_pos h hp
  have HQ := Lib.hid hq
  clear hs hq
  generalize decide (z < 0) = b at *
  go_enter Tryz.func80, Tryz.ntmps80
  go_wp2_with fail
  go_region_held3 (fun w' => w'.cell? ⟨w.heap.size, 0, none⟩ = some (.slice A m c) ∧ w'.cell? ⟨w.heap.size, 1, none⟩ = some (.bool b)) (go_keep) ((go_at_call 81; refine (HE.out _ ?_).mono ?_; (exact ((below_trans (below_alloc _ _) (below_alloc _ _)).drew)); rintro e W2 ⟨r, rfl, hr, hb2⟩; have k0 := (hb2.cell (p := ⟨w.heap.size, 0, none⟩) (by simp; omega)); have k1 := (hb2.cell (p := ⟨w.heap.size, 1, none⟩) (by simp; omega)); have k2 := (hb2.cell (p := ⟨w.heap.size + 1, 0, none⟩) (by simp)); have k3 := (hb2.cell (p := ⟨w.heap.size + 1, 1, none⟩) (by simp)); have k4 := (hb2.frozen (p := ⟨w.heap.size + 1, 0, none⟩) (by simp)); have k5 := (hb2.frozen (p := ⟨w.heap.size + 1, 1, none⟩) (by simp)); obtain ⟨A2, n2, c2, rfl, hnn2⟩ := hr.ex; subst hnn2))
  go_wp2
  have B0 : Below w.heap.size w W2 := (below_trans (below_alloc _ _) (below_alloc _ _)).drew.trans (hb2.mono (by simp; omega))
  refine bodyPost_ret (v := .agg #[.slice A2 _ c2, .bool b]) (by simp [results, Tryz.results80, go_sem, k2, k3]; rfl) rfl ?_
  exact RetInt.box (A := none) (n := 0) (c := 0) (q := false) B0 (by simp) (by rw [HQ.out.2]; exact hr) (HQ.out.1.symm) (k2.trans (by simp [go_sem])) (k3.trans (by simp [go_sem])) _ _

theorem IsInt.set_odd {w : World} {v : Value} {z : Int} {p : Addr} {u : Value} (h : IsInt w v z) (hp : w.cell? p = some u) (ho : Odd u) (u' : Value) : IsInt (w.setCell p u') v z := by
  obtain ⟨s, h1, h2⟩ := h
  exact ⟨s, h1, h2.set_odd hp ho u'⟩
theorem IsNum.set_odd {w : World} {v : Value} {x : Cx} {p : Addr} {u : Value} (h : IsNum w v x) (hp : w.cell? p = some u) (ho : Odd u) (u' : Value) : IsNum (w.setCell p u') v x := by
  obtain ⟨r, p, i, q, s, a, b, d, h1, h2, h3, h4, h5⟩ := h
  exact ⟨r, p, i, q, s, a, b, d, h1, h2, h3.set_odd hp ho u', h4.set_odd hp ho u', h5.set_odd hp ho u'⟩

end Go.Proofs.YtphlmmjlpbledaaGreatDoor
