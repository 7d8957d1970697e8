/- Complex rationals are a field; contracts that say how a comparison comes out. -/
import Derived.Test.YtbanmapedkjjdaaDoorG33
set_option linter.unusedSimpArgs false
set_option linter.unusedVariables false
namespace Go.Proofs.YtbanmapedkjjdaaDoor
open Go.RowKit
set_option maxRecDepth 100000

section
variable (x y z : Cx)
theorem Cx.add_comm : x.add y = y.add x := by apply Cx.ext <;> simp only [Cx.add] <;> grind
theorem Cx.add_assoc : (x.add y).add z = x.add (y.add z) := by apply Cx.ext <;> simp only [Cx.add] <;> grind
theorem Cx.mul_comm : x.mul y = y.mul x := by apply Cx.ext <;> simp only [Cx.mul] <;> grind
theorem Cx.mul_assoc : (x.mul y).mul z = x.mul (y.mul z) := by apply Cx.ext <;> simp only [Cx.mul] <;> grind
theorem Cx.mul_add : x.mul (y.add z) = (x.mul y).add (x.mul z) := by apply Cx.ext <;> simp only [Cx.mul, Cx.add] <;> grind
theorem Cx.add_mul : (x.add y).mul z = (x.mul z).add (y.mul z) := by apply Cx.ext <;> simp only [Cx.mul, Cx.add] <;> grind
theorem Cx.sub_add : (x.sub y).add y = x := by apply Cx.ext <;> simp only [Cx.sub, Cx.add] <;> grind
theorem Cx.add_neg : x.add x.neg = .int 0 := by apply Cx.ext <;> simp [Cx.add, Cx.neg, Cx.int] <;> grind
theorem Cx.conj_add : (x.add y).conj = x.conj.add y.conj := by apply Cx.ext <;> simp only [Cx.conj, Cx.add] <;> grind
theorem Cx.conj_mul : (x.mul y).conj = x.conj.mul y.conj := by apply Cx.ext <;> simp only [Cx.conj, Cx.mul] <;> grind
theorem Cx.norm_conj : x.norm = x.mul x.conj := by apply Cx.ext <;> simp only [Cx.norm, Cx.nrm, Cx.conj, Cx.mul] <;> grind
theorem Cx.norm_mul : (x.mul y).norm = x.norm.mul y.norm := by apply Cx.ext <;> simp only [Cx.norm, Cx.nrm, Cx.mul] <;> grind
theorem Cx.div_mul {y : Cx} (h : y ≠ .zero) : (x.div y).mul y = x := by
  have h0 := nrm_pos_ne h
  have hinv : y.inv.mul y = .int 1 := by
    apply Cx.ext
    · simp only [Cx.inv, Cx.mul, Cx.int]
      have e : y.re / y.nrm * y.re - -y.im / y.nrm * y.im = (y.re * y.re + y.im * y.im) / y.nrm := by grind
      rw [e]
      show y.nrm / y.nrm = _
      have : y.nrm / y.nrm = 1 := by grind
      rw [this]; rfl
    · simp only [Cx.inv, Cx.mul, Cx.int]
      grind
  rw [Cx.div, Cx.mul_assoc, hinv]
  apply Cx.ext <;> simp [Cx.mul, Cx.int] <;> grind
end
theorem sz_int (z : Int) (h : (decide (-9223372036854775808 ≤ z) && decide (z < 9223372036854775808)) = true) : Sz (.int z) 2 := by
  simp only [Bool.and_eq_true, decide_eq_true_eq] at h
  exact Sz.int (wl_i64 h.1 h.2) (by omega)
theorem sameN_k (v u : Value) (x y : Cx) (w : World) (h : IsNum w v x) (h' : IsNum w u y) (m : Nat) (hx : Sz x m) (hy : Sz y m) (hm : m < 549755813888) {b : Bool} (hb : decide (x = y) = b) :
    Calls Tryd.prog 6 #[v, u] w fun e w' => e = .returned (.bool b) ∧ Below w.heap.size w w' := by
  have := sameN_any v u x y w h h' m hx hy hm
  rwa [hb] at this
theorem same_t {x y : Cx} (h : x = y) : decide (x = y) = true := decide_eq_true h
theorem clearN_k (v : Value) (x : Cx) (w : World) (h : IsNum w v x) {b : Bool} (hb : (!decide (x = .zero)) = b) :
    Calls Tryd.prog 12 #[v] w fun e w' => e = .returned (.bool b) ∧ Below w.heap.size w w' := by
  have := clear_any v x w h
  rwa [hb] at this
theorem clear_t {x : Cx} (h : x ≠ .zero) : (!decide (x = .zero)) = true := by simp [h]
theorem clear_f {x : Cx} (h : x = .zero) : (!decide (x = .zero)) = false := by simp [h]
theorem divN_k (v u : Value) (x y : Cx) (w : World) (h : IsNum w v x) (h' : IsNum w u y) (m n : Nat) (hx : Sz x m) (hy : Sz y n) (hm : m + 4 * n + 4 < 549755813888) (hT : Tab w) {k : Int} (hk : (if y = .zero then (3 : Int) else 0) = k) :
    Calls Tryd.prog 11 #[v, u] w (RetNumE w (x.div y) k) := by
  have := divN_any v u x y w h h' m n hx hy hm hT
  rwa [hk] at this
theorem div_ok {y : Cx} (h : y ≠ .zero) : (if y = .zero then (3 : Int) else 0) = 0 := if_neg h
theorem div_no {y : Cx} (h : y = .zero) : (if y = .zero then (3 : Int) else 0) = 3 := if_pos h
end Go.Proofs.YtbanmapedkjjdaaDoor
