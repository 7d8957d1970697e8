import Derived.Test.YtffegeaflohfhaaGreatDoorS23
import Derived.Test.YtffegeaflohfhaaGreatDoorS25
import Derived.Test.YtffegeaflohfhaaGreatDoorS26
import Derived.Test.YtffegeaflohfhaaGreatDoorS27
import Derived.Test.YtffegeaflohfhaaGreatDoorU15
import Derived.Test.YtffegeaflohfhaaGreatDoorS02
set_option linter.unusedVariables false
set_option linter.unusedSimpArgs false
set_option maxRecDepth 100000
set_option maxHeartbeats 8000000
namespace Go.Proofs.YtffegeaflohfhaaGreatDoor
open Go.RowKit
theorem sgnR_neg (p:Rat):sgnR (-p) = -sgnR p:=by unfold sgnR; rw [Rat.neg_num]; exact Int.sign_neg _
theorem sgnR_zero {p:Rat}:sgnR p = 0 ↔ p = 0:=by unfold sgnR; rw [Int.sign_eq_zero_iff_zero,Rat.num_eq_zero]
theorem sgnR_pos {p:Rat}:sgnR p = 1 ↔ 0 < p:=by
 unfold sgnR
 rw [Int.sign_eq_one_iff_pos]
 have h1:=@Rat.num_nonneg p
 have h2:p.num = 0 ↔ p = 0:=Rat.num_eq_zero
 grind
theorem sgnR_cases (p:Rat):sgnR p = -1 /\ p < 0 ∨ sgnR p = 0 /\ p = 0 ∨ sgnR p = 1 /\ 0 < p:=by
 have h3:p < 0 ∨ p = 0 ∨ 0 < p:=by grind
 rcases h3 with h | h | h
 ·refine .inl ⟨?_,h⟩
  have h2:sgnR (-p) = 1:=sgnR_pos.2 (by grind)
  rw [sgnR_neg] at h2
  omega
 ·exact .inr (.inl ⟨sgnR_zero.2 h,h⟩)
 ·exact .inr (.inr ⟨sgnR_pos.2 h,h⟩)
theorem cmpC_cases (x y:Cx):cmpC x y = -1 /\ (x.re < y.re ∨ x.re = y.re /\ x.im < y.im) ∨ cmpC x y = 0 /\ x.re = y.re /\ x.im = y.im ∨ cmpC x y = 1 /\ (y.re < x.re ∨ x.re = y.re /\ y.im < x.im):=by
 unfold cmpC
 rcases sgnR_cases (x.re - y.re) with ⟨h1,h2⟩ | ⟨h1,h2⟩ | ⟨h1,h2⟩
 ·rw [h1,if_pos oM]; exact .inl ⟨rfl,.inl (by grind)⟩
 ·rw [if_neg oM]
  rcases sgnR_cases (x.im - y.im) with ⟨k1,k2⟩ | ⟨k1,k2⟩ | ⟨k1,k2⟩
  ·rw [k1]; exact .inl ⟨rfl,.inr ⟨by grind,by grind⟩⟩
  ·rw [k1]; exact .inr (.inl ⟨rfl,by grind,by grind⟩)
  ·rw [k1]; exact .inr (.inr ⟨rfl,.inr ⟨by grind,by grind⟩⟩)
 ·rw [h1,if_pos oM]; exact .inr (.inr ⟨rfl,.inl (by grind)⟩)
end Go.Proofs.YtffegeaflohfhaaGreatDoor
