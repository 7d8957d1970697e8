import Derived.Test.YtphlmmjlpbledaaGreatDoorH14
import Derived.Test.YtphlmmjlpbledaaGreatDoorH34
set_option linter.unusedSimpArgs false
set_option linter.unusedVariables false
namespace Go.Proofs.YtphlmmjlpbledaaGreatDoor
open Go.RowKit
set_option maxRecDepth 100000
theorem IsNat.past {w w' : World} {v : Value} {x g : Nat} {s : ByteArray} {l : List UInt8} (h : IsNat w v x) (hR : RdL w g s l) (hg : w.grownBy w' (some g)) : IsNat w' v x := by
  obtain ⟨A, c, rfl, hc, hw⟩ := h
  refine ⟨A, c, rfl, hc, ?_⟩
  by_cases h0 : 0 < wl x
  · refine hw.grown hg fun a ha hab => ?_
    obtain ⟨b, off, e, hb, hcell⟩ := hw h0
    rw [e] at ha
    cases ha
    simp at hab
    subst hab
    obtain ⟨k, -, hk, -⟩ := hR
    have h1 := hcell 0 h0
    rw [cell_of_row w b _ _ _ (0, 0) hk] at h1
    rcases (show off + 0 = 0 ∨ off + 0 = 1 ∨ 2 ≤ off + 0 by omega) with h2 | h2 | h2
    · rw [h2] at h1; simp at h1
    · rw [h2] at h1; simp at h1
    · rw [Array.getElem?_eq_none (by simp; omega)] at h1; cases h1
  · exact fun h => absurd h h0
def PBx (w : World) (g : Nat) (a b c d : Value) : Prop := w.heap[g]? = some (.cells #[a, b, c, d] 117 (0, 0))
theorem PBx.lt {w : World} {g : Nat} {a b c d : Value} (h : PBx w g a b c d) : g < w.heap.size := by
  rcases Nat.lt_or_ge g w.heap.size with hlt | hge
  · exact hlt
  · unfold PBx at h; rw [Array.getElem?_eq_none hge] at h; cases h
theorem PBx.grown {w w' : World} {g r : Nat} {a b c d : Value} (h : PBx w g a b c d) (hg : w.grownBy w' (some r)) (hne : g ≠ r) : PBx w' g a b c d :=
  (hg.block g h.lt (by simp [hne])).trans h
theorem PBx.below {w w' : World} {g : Nat} {a b c d : Value} (h : PBx w g a b c d) (hb : Below w.heap.size w w') : PBx w' g a b c d := (hb.block g h.lt).trans h
theorem PBx.facts {w : World} {g : Nat} {a b c d : Value} (h : PBx w g a b c d) : w.cell? ⟨g, 0, none⟩ = some a ∧ w.cell? ⟨g, 1, none⟩ = some b ∧ w.cell? ⟨g, 2, none⟩ = some c ∧ w.cell? ⟨g, 3, none⟩ = some d ∧
    w.frozen? ⟨g, 0, none⟩ = false ∧ w.frozen? ⟨g, 1, none⟩ = false ∧ w.frozen? ⟨g, 2, none⟩ = false ∧ w.frozen? ⟨g, 3, none⟩ = false := by
  unfold PBx at h
  refine ⟨?_, ?_, ?_, ?_, ?_, ?_, ?_, ?_⟩
  · rw [cell_of_row w g 0 _ _ (0, 0) h]; rfl
  · rw [cell_of_row w g 1 _ _ (0, 0) h]; rfl
  · rw [cell_of_row w g 2 _ _ (0, 0) h]; rfl
  · rw [cell_of_row w g 3 _ _ (0, 0) h]; rfl
  all_goals simp [World.frozen?, h]
abbrev put4 (w : World) (g : Nat) (v0 v1 v2 v3 : Value) : World := (((w.setCell ⟨g, 0, none⟩ v0).setCell ⟨g, 1, none⟩ v1).setCell ⟨g, 2, none⟩ v2).setCell ⟨g, 3, none⟩ v3
theorem run_load4 {w : World} {g : Nat} {a b c d : Value} (h : PBx w g a b c d) (v0 v1 v2 v3 : Value) :
    ((Sem.run Tryz.prog (asAddr (Value.pointer (some { block := g, off := 0 }))) (put4 w g v0 v1 v2 v3)).andThen
      fun a w' => Sem.run Tryz.prog (loadVar 117 a) w') = Result.ok (Value.agg #[v0, v1, v2, v3]) (put4 w g v0 v1 v2 v3) := by
  obtain ⟨h0, h1, h2, h3, -⟩ := h.facts
  simp [go_sem, h0, h1, h2, h3]
theorem run_load4t {w : World} {g : Nat} {a b c d : Value} (h : PBx w g a b c d) (v0 v1 v2 v3 : Value) (ok : Bool) :
    ((Sem.run Tryz.prog (asAddr (Value.pointer (some { block := g, off := 0 }))) (put4 w g v0 v1 v2 v3)).andThen
      fun a w' => (Sem.run Tryz.prog (loadVar 117 a) w').andThen fun a w' => Result.ok (Value.tuple #[a, Value.bool ok]) w') = Result.ok (.tuple #[Value.agg #[v0, v1, v2, v3], .bool ok]) (put4 w g v0 v1 v2 v3) := by
  obtain ⟨h0, h1, h2, h3, -⟩ := h.facts
  simp [go_sem, h0, h1, h2, h3]
theorem put4_other {w : World} {g k : Nat} (h : g ≠ k) (v0 v1 v2 v3 : Value) : (put4 w g v0 v1 v2 v3).heap[k]? = w.heap[k]? :=
  (Below.heap_setCell _ _ _ _ (fun e => h e.symm)).trans ((Below.heap_setCell _ _ _ _ (fun e => h e.symm)).trans ((Below.heap_setCell _ _ _ _ (fun e => h e.symm)).trans (Below.heap_setCell _ _ _ _ (fun e => h e.symm))))
theorem put4_grown {w W : World} {g : Nat} {r : Option Nat} (h : w.grownBy W r) (hg : w.heap.size ≤ g) (v0 v1 v2 v3 : Value) : w.grownBy (put4 W g v0 v1 v2 v3) r :=
  ⟨h.os, h.tape, h.output, by simpa [World.setCell] using h.size, fun k hk hr => (put4_other (by omega) _ _ _ _).trans (h.block k hk hr)⟩
theorem IsNat.put4 {w : World} {v : Value} {x g : Nat} {a b c d : Value} (h : IsNat w v x) (hB : PBx w g a b c d) (ho : Odd a ∧ Odd b ∧ Odd c ∧ Odd d) (v0 v1 v2 v3 : Value) : IsNat (put4 w g v0 v1 v2 v3) v x := by
  obtain ⟨h0, h1, h2, h3, -⟩ := hB.facts
  obtain ⟨d0, d1, d2, d3⟩ := ho
  have ne : ∀ (w : World) (i j : Nat) (u : Value), i ≠ j → (w.setCell ⟨g, i, none⟩ u).cell? ⟨g, j, none⟩ = w.cell? ⟨g, j, none⟩ := fun w i j u hij => World.cell?_setCell_other _ _ _ _ (by simp <;> omega)
  have e1 := h.set_odd h0 d0 v0
  have e2 := e1.set_odd (p := ⟨g, 1, none⟩) ((ne _ _ _ _ (by omega)).trans h1) d1 v1
  have e3 := e2.set_odd (p := ⟨g, 2, none⟩) ((ne _ _ _ _ (by omega)).trans ((ne _ _ _ _ (by omega)).trans h2)) d2 v2
  exact e3.set_odd (p := ⟨g, 3, none⟩) ((ne _ _ _ _ (by omega)).trans ((ne _ _ _ _ (by omega)).trans ((ne _ _ _ _ (by omega)).trans h3))) d3 v3
theorem odd4 : Odd (.slice none 0 0) ∧ Odd (.slice none 0 0) ∧ Odd (.bool false) ∧ Odd (.bool false) := ⟨Odd.slice _ _ _, Odd.slice _ _ _, Odd.bool _, Odd.bool _⟩
abbrev PB0 (w : World) (g : Nat) : Prop := PBx w g (.slice none 0 0) (.slice none 0 0) (.bool false) (.bool false)
def RetMag (w : World) (g : Nat) (s : ByteArray) (l : List UInt8) (e : Ending) (w' : World) : Prop :=
  w.grownBy w' (some g) ∧ match pMag l with
  | none => ∃ A n c A' n' c', e = .returned (.tuple #[.agg #[.slice A n c, .slice A' n' c', .bool false, .bool false], .bool false])
  | some (a, b, r) => ∃ va vb, e = .returned (.tuple #[.agg #[va, vb, .bool false, .bool false], .bool true]) ∧ IsNat w' va a ∧ IsNat w' vb b ∧ RdL w' g s r
theorem RetMag.none_ {w W : World} {g B : Nat} {s : ByteArray} {l : List UInt8} (h : pMag l = none) (hg : w.grownBy W (some g)) (hB : w.heap.size ≤ B) (A : Option Addr) (n c : Nat) (A' : Option Addr) (n' c' : Nat) :
    RetMag w g s l (.returned (.tuple #[.agg #[.slice A n c, .slice A' n' c', .bool false, .bool false], .bool false])) (put4 W B (.slice A n c) (.slice A' n' c') (.bool false) (.bool false)) :=
  ⟨put4_grown hg hB _ _ _ _, by rw [h]; exact ⟨A, n, c, A', n', c', rfl⟩⟩
theorem RetMag.some_ {w W : World} {g B a b : Nat} {s : ByteArray} {l r : List UInt8} (h : pMag l = some (a, b, r)) (hg : w.grownBy W (some g)) (hB : w.heap.size ≤ B) (hP : PB0 W B) (hne : B ≠ g) {va vb : Value} (ha : IsNat W va a) (hb : IsNat W vb b) (hR : RdL W g s r) :
    RetMag w g s l (.returned (.tuple #[.agg #[va, vb, .bool false, .bool false], .bool true])) (put4 W B va vb (.bool false) (.bool false)) :=
  ⟨put4_grown hg hB _ _ _ _, by rw [h]; exact ⟨va, vb, rfl, ha.put4 hP odd4 _ _ _ _, hb.put4 hP odd4 _ _ _ _, hR.keep (put4_other hne _ _ _ _)⟩⟩
theorem mag_1 (g : Nat) (s : ByteArray) (l : List UInt8) (w : World) (h : RdL w g s l) (hs : s.size ≤ 1000000) (h1 : okW (digs l) = false) :
    Calls Tryz.prog 116 #[.pointer (some ⟨g, 0, none⟩)] w (RetMag w g s l) := by
  have HW := Lib.hid (fun W (h : RdL W g s l) => whole_any g s _ W h hs)
  have H0 := Lib.hid (show pMag l = none by simp [pMag, h1])
  rw [h1] at HW
  have HR := Lib.hid h
  have hne : w.heap.size ≠ g := fun e => Nat.lt_irrefl g (e ▸ h.lt)
  clear h h1 hs
  go_enter Tryz.func116, Tryz.ntmps116
  go_wp2_with fail
  refine (HW.out _ (HR.out.below (below_alloc _ _))).mono ?_
  rintro e w2 ⟨rfl, hr, hg⟩
  have HG := Lib.hid hg
  obtain ⟨f0, f1, f2, f3, y0, y1, y2, y3⟩ := PBx.facts (PBx.grown (g := w.heap.size) (heap_alloc_new w _) hg hne)
  have HP := Lib.hid (PBx.grown (g := w.heap.size) (heap_alloc_new w _) hg hne)
  have HGG := Lib.hid (grown_trans (grown_of_below (below_alloc w _) (some g)) hg)
  clear hg
  go_wp2
  exact bodyPost_ret (v := .tuple #[.agg #[.slice none 0 0, .slice none 0 0, .bool false, .bool false], .bool false]) (by simp [results, Tryz.results116]; exact run_load4t HP.out _ _ _ _ _) rfl (RetMag.none_ H0.out HGG.out (Nat.le_refl _) _ _ _ _ _ _)
end Go.Proofs.YtphlmmjlpbledaaGreatDoor
