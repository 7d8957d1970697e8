import Derived.Test.YtccldiokpgjocaaGreatDoorR13
import Derived.Test.YtccldiokpgjocaaGreatDoorR15
import Derived.Test.YtccldiokpgjocaaGreatDoorR25
import Derived.Test.YtccldiokpgjocaaGreatDoorR29
import Derived.Test.YtccldiokpgjocaaGreatDoorR39
import Derived.Test.YtccldiokpgjocaaGreatDoorR41
set_option linter.unusedSimpArgs false
set_option linter.unusedVariables false
namespace Go.Proofs.YtccldiokpgjocaaGreatDoor
open Go.RowKit
set_option maxRecDepth 100000
theorem nblk_load {W : World} {g n k : Nat} {f : Nat → Cx} (h : NBlk W g n f) (hk : k < n) : ∃ v, (loadVar 30 ⟨g, 5 * k, none⟩).run Tryz.prog W = .ok v W ∧ IsNum W v (f k) := by
  obtain ⟨cs, h1, h2, h3, h4⟩ := h
  obtain ⟨A, B, C, p, q, na, ca, nb, cb, nc, cc, a1, a2, a3, a4, a5, a6⟩ := h4 k hk
  have hl := run_loadCells_list (P := Tryz.prog) (w := W) ⟨g, 5 * k, none⟩ [.slice A na ca, .bool p, .slice B nb cb, .bool q, .slice C nc cc] (fun j v hv => by
    have hadd : (⟨g, 5 * k, none⟩ : Addr).add j = ⟨g, 5 * k + j, none⟩ := by unfold Addr.add; split <;> simp_all
    rw [hadd, cell_of_row W g _ cs _ (0, 0) h1]
    match j, hv with
    | 0, hv => simp at hv; rw [← hv]; exact a1
    | 1, hv => simp at hv; rw [← hv]; exact a2
    | 2, hv => simp at hv; rw [← hv]; exact a3
    | 3, hv => simp at hv; rw [← hv]; exact a4
    | 4, hv => simp at hv; rw [← hv]; exact a5
    | j + 5, hv => simp at hv)
  have hinfo : (Tryz.prog.info? 30).map (·.size) = some 5 := by kernel_rfl
  cases hq : Tryz.prog.info? 30 with
  | none => rw [hq] at hinfo; cases hinfo
  | some i =>
    have hs : i.size = 5 := by rw [hq] at hinfo; simpa using hinfo
    have hagg : (isAgg 30).run Tryz.prog W = .ok true W := by
      unfold isAgg
      rw [Sem.run_bind, run_underlying Tryz.underlying30 W]
      rfl
    refine ⟨_, ?_, a6⟩
    simp only [List.length_cons, List.length_nil] at hl
    simp [loadVar, Sem.run_bind, hagg, sizeOf, typeInfo, hq, hs, hl]
theorem qblk_load {W : World} {g n k : Nat} {V : Nat → Prop} {f : Nat → Cx} (h : QBlk W g n V f) (hk : k < n) (hV : V k) : ∃ v, (loadVar 34 ⟨g, 5 * k, none⟩).run Tryz.prog W = .ok v W ∧ IsQ W v (f k) := by
  obtain ⟨cs, h1, h2, h3, h4⟩ := h
  obtain ⟨A, B, C, p, q, na, ca, nb, cb, nc, cc, a1, a2, a3, a4, a5, a6⟩ := h4 k hk
  have hl := run_loadCells_list (P := Tryz.prog) (w := W) ⟨g, 5 * k, none⟩ [.bool p, .slice A na ca, .bool q, .slice B nb cb, .slice C nc cc] (fun j v hv => by
    have hadd : (⟨g, 5 * k, none⟩ : Addr).add j = ⟨g, 5 * k + j, none⟩ := by unfold Addr.add; split <;> simp_all
    rw [hadd, cell_of_row W g _ cs _ (0, 0) h1]
    match j, hv with
    | 0, hv => simp at hv; rw [← hv]; exact a1
    | 1, hv => simp at hv; rw [← hv]; exact a2
    | 2, hv => simp at hv; rw [← hv]; exact a3
    | 3, hv => simp at hv; rw [← hv]; exact a4
    | 4, hv => simp at hv; rw [← hv]; exact a5
    | j + 5, hv => simp at hv)
  have hinfo : (Tryz.prog.info? 34).map (·.size) = some 5 := by kernel_rfl
  cases hq : Tryz.prog.info? 34 with
  | none => rw [hq] at hinfo; cases hinfo
  | some i =>
    have hs : i.size = 5 := by rw [hq] at hinfo; simpa using hinfo
    have hagg : (isAgg 34).run Tryz.prog W = .ok true W := by
      unfold isAgg
      rw [Sem.run_bind, run_underlying Tryz.underlying34 W]
      rfl
    refine ⟨_, ?_, a6 hV⟩
    simp only [List.length_cons, List.length_nil] at hl
    simp [loadVar, Sem.run_bind, hagg, sizeOf, typeInfo, hq, hs, hl]
section
variable {B : Nat} {W0 : World} {cs : Array Value} {g4 g5 gt gp : Nat} {T P z : Cx} {a : Act} {w : World} {K : Act → World → Prop} {Q : Exit → Act → World → Prop}
def p12 (g4 g5 : Nat) (X : Cx) : Nat → Value → World → Prop
  | 0, v, W => IsNum W v X
  | 1, v, W => IsQ W v X
  | 2, _, W => NBlk W g4 1 (fun _ => X)
  | 3, _, W => QBlk W g5 1 (fun _ => True) (fun _ => X)
  | _, _, _ => True
end
end Go.Proofs.YtccldiokpgjocaaGreatDoor
