import Derived.Deep.Slices
import Derived.Test.YtlljeccfhmojnaaGreatDoorJ29
import Derived.Test.YtlljeccfhmojnaaGreatDoorJ42
set_option linter.unusedSimpArgs false
set_option linter.unusedVariables false
namespace Go.Proofs.YtlljeccfhmojnaaGreatDoor
open Go Go.ChangeShapes Go.WideShapes Go.ChangeAt Go.WideMaps Go.WideElems Go.RowKit Go.Joins
set_option maxRecDepth 100000
theorem u8_bounds {n : Int} (hw : (Lit.int .u8 n).wf = true) : ∃ m : Nat, n = (m : Int) ∧ m < 256 := by
  have hw' : (decide (IntKind.u8.min ≤ n) && decide (n ≤ IntKind.u8.max)) = true := hw
  simp only [Bool.and_eq_true] at hw'
  have e1 : IntKind.u8.min = 0 := by decide
  have e2 : IntKind.u8.max = 255 := by decide
  have h1 := of_decide_eq_true hw'.1
  have h2 := of_decide_eq_true hw'.2
  exact ⟨n.toNat, by rw [Int.toNat_of_nonneg (by omega)], by omega⟩
theorem u16_bounds {n : Int} (hw : (Lit.int .u16 n).wf = true) : ∃ m : Nat, n = (m : Int) ∧ m < 65536 := by
  have hw' : (decide (IntKind.u16.min ≤ n) && decide (n ≤ IntKind.u16.max)) = true := hw
  simp only [Bool.and_eq_true] at hw'
  have e1 : IntKind.u16.min = 0 := by decide
  have e2 : IntKind.u16.max = 65535 := by decide
  have h1 := of_decide_eq_true hw'.1
  have h2 := of_decide_eq_true hw'.2
  exact ⟨n.toNat, by rw [Int.toNat_of_nonneg (by omega)], by omega⟩
theorem zero16 : 0 < 256 ∧ 0 < 65536 ∧ 0 < 65536 := by decide
theorem op_size : Tryz.prog.cellsOf 50 = 3 := by kernel_rfl
theorem u8_size : Tryz.prog.cellsOf 5 = 1 := by kernel_rfl
theorem u16_size : Tryz.prog.cellsOf 48 = 1 := by kernel_rfl
section
variable {H : Type} {enc : TypeId × Value → H} {W : World} {base b0 : Nat} {v : Value} {d : DataW H} {p : List MemPlace}
theorem open_opc {fuel : Nat} {cs : List Value} {x : DataW H × List MemPlace} (hf : DataW.trod enc Tryz.prog W base (fun _ => true) true fuel 43 cs = some x) :
    ∃ A len cap f, cs = [.slice A len cap] ∧ len ≤ 9223372036854775807 ∧ OpS W A len f ∧ Op16 f := by
  rcases Go.Deep.open_slice Tryz.underlying43 hf with ⟨hcs, -⟩ | ⟨a, len, cap, m, n, D, Pl, hcs, -, hl, hm, hmm, -, hi⟩
  · exact ⟨none, 0, 0, fun _ => (0, 0, 0), hcs, by omega, fun h => absurd h (by omega), fun _ => zero16⟩
  · subst hcs
    have hmx : cap ≤ 9223372036854775807 := by
      have : maxLen = 9223372036854775807 := by decide
      omega
    have hlm : len ≤ m := by rw [hmm]; simp; exact hl
    have el : ∀ j, j < len → ∃ r s t : Nat, W.cell? (a.add (3 * j)) = some (.int .u8 (r : Int)) ∧ W.cell? (a.add (3 * j + 1)) = some (.int .u16 (s : Int)) ∧ W.cell? (a.add (3 * j + 2)) = some (.int .u16 (t : Int)) ∧ r < 256 ∧ s < 65536 ∧ t < 65536 := fun j hj => by
      obtain ⟨cs, hc, ht⟩ := hi j (by omega)
      rw [op_size] at hc
      obtain ⟨-, hlen, hat⟩ := World.cells?_some hc
      obtain ⟨y0, y1, y2, n', -, -, t0, t1, t2⟩ := Go.Deep.trod_struct3 Tryz.underlying50 ht
      match cs, hlen with
      | [c0, c1, c2], _ =>
        have u0 : DataW.trod enc Tryz.prog W base (fun _ => true) true n' 5 [c0] = some y0 := by simpa [u8_size, u16_size] using t0
        have u1 : DataW.trod enc Tryz.prog W base (fun _ => true) true n' 48 [c1] = some y1 := by simpa [u8_size, u16_size] using t1
        have u2 : DataW.trod enc Tryz.prog W base (fun _ => true) true n' 48 [c2] = some y2 := by simpa [u8_size, u16_size] using t2
        obtain ⟨n0, e0, -, w0⟩ := DataW.trod_int Tryz.underlying5 u0
        obtain ⟨n1, e1, -, w1⟩ := DataW.trod_int Tryz.underlying48 u1
        obtain ⟨n2, e2, -, w2⟩ := DataW.trod_int Tryz.underlying48 u2
        simp at e0 e1 e2
        subst e0 e1 e2
        have k0 := hat 0 (by omega)
        have k1 := hat 1 (by omega)
        have k2 := hat 2 (by omega)
        rw [Go.Deep.add_add, Nat.mul_comm j 3] at k0 k1 k2
        obtain ⟨m0, rfl, b0⟩ := u8_bounds w0
        obtain ⟨m1, rfl, b1⟩ := u16_bounds w1
        obtain ⟨m2, rfl, b2⟩ := u16_bounds w2
        exact ⟨m0, m1, m2, k0, k1, k2, b0, b1, b2⟩
    let f : Nat → Nat × Nat × Nat := fun j => if hj : j < len then (Classical.choose (el j hj), Classical.choose (Classical.choose_spec (el j hj)), Classical.choose (Classical.choose_spec (Classical.choose_spec (el j hj)))) else (0, 0, 0)
    have hf' : ∀ j, j < len → W.cell? (a.add (3 * j)) = some (.int .u8 ((f j).1 : Int)) ∧ W.cell? (a.add (3 * j + 1)) = some (.int .u16 ((f j).2.1 : Int)) ∧ W.cell? (a.add (3 * j + 2)) = some (.int .u16 ((f j).2.2 : Int)) ∧ (f j).1 < 256 ∧ (f j).2.1 < 65536 ∧ (f j).2.2 < 65536 := fun j hj => by
      have hs := Classical.choose_spec (Classical.choose_spec (Classical.choose_spec (el j hj)))
      simp only [f, dif_pos hj]
      exact hs
    refine ⟨some a, len, cap, f, rfl, by omega, fun h0 => ?_, fun j => ?_⟩
    · obtain ⟨b, off, spot⟩ := a
      have g0 := (hf' 0 h0).1
      have hspot : spot = none := by simpa [Addr.add] using World.cell?_spot g0
      subst hspot
      have hadd : ∀ k, (⟨b, off, none⟩ : Addr).add k = ⟨b, off + k, none⟩ := fun k => by unfold Addr.add; split <;> simp_all
      refine ⟨b, off, rfl, ?_, fun j hj => ?_⟩
      · have := World.block_lt_of_cell? W _ g0
        simpa [Addr.add] using this
      · obtain ⟨k0, k1, k2, -⟩ := hf' j hj
        rw [hadd] at k0 k1 k2
        exact ⟨k0, k1, k2⟩
    · by_cases hj : j < len
      · obtain ⟨-, -, -, h1, h2, h3⟩ := hf' j hj
        exact ⟨h1, h2, h3⟩
      · have e : f j = (0, 0, 0) := by simp only [f, dif_neg hj]
        rw [e]
        exact zero16
theorem open_ops (hv : Value.okWide Tryz.prog W .any b0 43 v) (h : DataW.Trod enc Tryz.prog W base (fun _ => true) true 43 v d p) :
    ∃ A len cap f, v = .slice A len cap ∧ len ≤ 9223372036854775807 ∧ OpS W A len f ∧ Op16 f := by
  obtain ⟨A, len, cap, rfl⟩ := okWide_slice Tryz.underlying43 hv
  obtain ⟨fuel, hf⟩ := h
  obtain ⟨A', len', cap', f, hcs, h1, h2, h3⟩ := open_opc hf
  simp [Value.cells] at hcs
  obtain ⟨rfl, rfl, rfl⟩ := hcs
  exact ⟨_, _, _, f, rfl, h1, h2, h3⟩
end
end Go.Proofs.YtlljeccfhmojnaaGreatDoor
