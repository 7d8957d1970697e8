/- Square matrices of any number of rows: Product, Adjoint, sizes. -/
import Derived.Test.YtmlkpnfjgifgfaaGreatDoorG37
import Derived.Test.YtmlkpnfjgifgfaaGreatDoorG38
set_option linter.unusedSimpArgs false
set_option linter.unusedVariables false
namespace Go.Proofs.YtmlkpnfjgifgfaaGreatDoor
open Go.RowKit
set_option maxRecDepth 100000

theorem productN_sq (w : World) (ga gb : Nat) (gi gj : Nat → Nat) (n s s1 : Nat) (F G : Nat → Nat → Cx) (hA : MatAt w ga gi n n F) (hB : MatAt w gb gj n n G) (hn1 : n ≤ 32) (hT : Tab w)
    (hSF : ∀ a b, a < n → b < n → Sz (F a b) s) (hSG : ∀ a b, a < n → b < n → Sz (G a b) s1) (h5 : 33 * (s + s1 + 5) < 549755813888) :
    Calls Tryz.prog 12 #[.slice (some ⟨ga, 0, none⟩) n n, .slice (some ⟨gb, 0, none⟩) n n] w (RetMatE w n n (mulM n F G) 0) := by
  rcases Nat.eq_zero_or_pos n with h0 | h0
  · subst h0
    refine (productN_nil w _ _ _ _).mono ?_
    rintro e w' ⟨go, gi, rfl, hM, hP, hb⟩
    exact ⟨go, gi, rfl, hM.congr fun i k hi => absurd hi (by omega), hP, hb⟩
  · exact productN_any w ga gb gi gj n n n s s1 F G hA hB h0 h0 hn1 hn1 hn1 hT hSF hSG h5
theorem adjointN_sq (w : World) (ga : Nat) (gi : Nat → Nat) (n : Nat) (F : Nat → Nat → Cx) (hA : MatAt w ga gi n n F) (hn1 : n ≤ 32) :
    Calls Tryz.prog 17 #[.slice (some ⟨ga, 0, none⟩) n n] w (RetMatE w n n (adjM F) 0) := by
  rcases Nat.eq_zero_or_pos n with h0 | h0
  · subst h0
    refine (adjointN_nil w _ _).mono ?_
    rintro e w' ⟨go, gi, rfl, hM, hP, hb⟩
    exact ⟨go, gi, rfl, hM.congr fun i k hi => absurd hi (by omega), hP, hb⟩
  · exact adjointN_any w ga gi n n F hA h0 hn1 hn1
theorem sqF_sz' {f : Nat → Int × Int × Int} (h : Rat64 f) (len n : Nat) : ∀ i k, Sz (sqF f len n i k) 2 := fun i k => by
  unfold sqF
  split
  · exact Sz.zero (by omega)
  · obtain ⟨h1, h2, h3⟩ := h ((i * n + k) % len)
    exact sz_of h1.1 h1.2 h2.1 h2.2 h3.1 h3.2
theorem mulM_sz {n : Nat} {F G : Nat → Nat → Cx} (hn : n ≤ 4) (hF : ∀ i k, Sz (F i k) 2) (hG : ∀ i k, Sz (G i k) 2) : ∀ i k, Sz (mulM n F G i k) 25 := fun i k =>
  (sm_sz (p := 5) n 0 fun j _ _ => (hF i j).mul (hG j k)).mono (by omega)
end Go.Proofs.YtmlkpnfjgifgfaaGreatDoor
