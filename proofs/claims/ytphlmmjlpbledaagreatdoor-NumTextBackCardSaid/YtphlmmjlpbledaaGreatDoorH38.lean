import Derived.Test.YtphlmmjlpbledaaGreatDoorH14
import Derived.Test.YtphlmmjlpbledaaGreatDoorH37
set_option linter.unusedSimpArgs false
set_option linter.unusedVariables false
namespace Go.Proofs.YtphlmmjlpbledaaGreatDoor
open Go.RowKit
set_option maxRecDepth 100000
abbrev z4 : Array Value := #[.slice none 0 0, .slice none 0 0, .bool false, .bool false]
theorem PBx.set2 {w : World} {g : Nat} {a b c d : Value} (h : PBx w g a b c d) (v : Value) : PBx (w.setCell ⟨g, 2, none⟩ v) g a b v d := by
  unfold PBx at h ⊢
  simp [World.setCell, Array.getElem?_modify, h]
theorem PBx.set3 {w : World} {g : Nat} {a b c d : Value} (h : PBx w g a b c d) (v : Value) : PBx (w.setCell ⟨g, 3, none⟩ v) g a b c v := by
  unfold PBx at h ⊢
  simp [World.setCell, Array.getElem?_modify, h]
theorem set_heap {w : World} {g i k : Nat} (v : Value) (h : k ≠ g) : (w.setCell ⟨g, i, none⟩ v).heap[k]? = w.heap[k]? := Below.heap_setCell w _ v k h
theorem grown_set' {w W : World} {g i : Nat} {r : Option Nat} (h : w.grownBy W r) (hg : w.heap.size ≤ g) (v : Value) : w.grownBy (W.setCell ⟨g, i, none⟩ v) r :=
  ⟨h.os, h.tape, h.output, by simpa [World.setCell] using h.size, fun k hk hr => (set_heap v (by omega)).trans (h.block k hk hr)⟩
structure Fst (W1 W : World) (g : Nat) (s : ByteArray) (l : List UInt8) (q : Nat) (va vb : Value) (a b : Nat) (x y : Bool) : Prop where
  rd : RdL W g s l
  pb : PBx W q va vb (.bool x) (.bool y)
  na : IsNat W va a
  nb : IsNat W vb b
  gr : W1.grownBy W (some g)
  ne : q ≠ g
  lo : W1.heap.size ≤ q
section
variable {W1 W W' : World} {g q : Nat} {s : ByteArray} {l l' : List UInt8} {va vb : Value} {a b : Nat} {x y : Bool}
theorem Fst.make {A A' : Option Addr} {n c n' c' : Nat} (hR : RdL W g s l) (ha : IsNat W (.slice A n c) a) (hb : IsNat W (.slice A' n' c') b) (hg : W1.grownBy W (some g)) (x : Bool) :
    Fst W1 (W.alloc (.cells #[.slice A n c, .slice A' n' c', .bool x, .bool false] 117)) g s l W.heap.size (.slice A n c) (.slice A' n' c') a b x false := by
  have hb0 := below_alloc W (.cells #[.slice A n c, .slice A' n' c', .bool x, .bool false] 117)
  exact ⟨hR.below hb0, heap_alloc_new _ _, ha.below hb0, hb.below hb0, grown_trans hg (grown_of_below hb0 _), fun e => Nat.lt_irrefl g (e ▸ hR.lt), hg.size⟩
theorem Fst.step (h : Fst W1 W g s l q va vb a b x y) (hR : RdL W' g s l') (hg : W.grownBy W' (some g)) : Fst W1 W' g s l' q va vb a b x y :=
  ⟨hR, h.pb.grown hg h.ne, h.na.past h.rd hg, h.nb.past h.rd hg, grown_trans h.gr hg, h.ne, h.lo⟩
theorem Fst.below (h : Fst W1 W g s l q va vb a b x y) (hb : Below W.heap.size W W') : Fst W1 W' g s l q va vb a b x y :=
  ⟨h.rd.below hb, h.pb.below hb, h.na.below hb, h.nb.below hb, grown_trans h.gr (grown_of_below hb _), h.ne, h.lo⟩
theorem Fst.set3 (h : Fst W1 W g s l q va vb a b x y) (y' : Bool) : Fst W1 (W.setCell ⟨q, 3, none⟩ (.bool y')) g s l q va vb a b x y' :=
  ⟨h.rd.keep (set_heap _ (fun e => h.ne e.symm)), h.pb.set3 _, h.na.set_odd h.pb.facts.2.2.2.1 (Odd.bool _) _, h.nb.set_odd h.pb.facts.2.2.2.1 (Odd.bool _) _, grown_set' h.gr h.lo _, h.ne, h.lo⟩
theorem Fst.other {q' : Nat} {va' vb' : Value} {a' b' : Nat} {x' y' : Bool} (h : Fst W1 W g s l q va vb a b x y) (k : Fst W1 W g s l q' va' vb' a' b' x' y') (hne : q ≠ q') (z : Bool) (i : Nat) (hi : i = 2 ∨ i = 3) : Fst W1 (W.setCell ⟨q', i, none⟩ (.bool z)) g s l q va vb a b x y := by
  have hc : ∃ u, W.cell? ⟨q', i, none⟩ = some (.bool u) := by
    rcases hi with rfl | rfl
    · exact ⟨_, k.pb.facts.2.2.1⟩
    · exact ⟨_, k.pb.facts.2.2.2.1⟩
  obtain ⟨u, hc⟩ := hc
  exact ⟨h.rd.keep (set_heap _ (fun e => k.ne e.symm)), (set_heap _ hne).trans h.pb, h.na.set_odd hc (Odd.bool _) _, h.nb.set_odd hc (Odd.bool _) _, grown_set' h.gr k.lo _, h.ne, h.lo⟩
theorem Fst.set2 (h : Fst W1 W g s l q va vb a b x y) (x' : Bool) : Fst W1 (W.setCell ⟨q, 2, none⟩ (.bool x')) g s l q va vb a b x' y :=
  ⟨h.rd.keep (set_heap _ (fun e => h.ne e.symm)), h.pb.set2 _, h.na.set_odd h.pb.facts.2.2.1 (Odd.bool _) _, h.nb.set_odd h.pb.facts.2.2.1 (Odd.bool _) _, grown_set' h.gr h.lo _, h.ne, h.lo⟩
end
def kP1 (p : Pt) : Value → World → Prop := fun v W => ∃ g va vb, v = .slice (some ⟨g, 0, none⟩) 1 1 ∧ W.heap[g]? = some (.cells #[va, vb, .bool p.neg, .bool p.im] 117 (0, 0)) ∧ IsNat W va p.a ∧ IsNat W vb p.b
def kP2 (p q : Pt) : Value → World → Prop := fun v W => ∃ g va vb vc vd, v = .slice (some ⟨g, 0, none⟩) 2 2 ∧ W.heap[g]? = some (.cells #[va, vb, .bool p.neg, .bool p.im, vc, vd, .bool q.neg, .bool q.im] 117 (0, 0)) ∧ IsNat W va p.a ∧ IsNat W vb p.b ∧ IsNat W vc q.a ∧ IsNat W vd q.b
theorem block_lt' {W : World} {g : Nat} {o : Obj} (h : W.heap[g]? = some o) : g < W.heap.size := by
  rcases Nat.lt_or_ge g W.heap.size with hlt | hge
  · exact hlt
  · rw [Array.getElem?_eq_none hge] at h; cases h
theorem stab_P1 (p : Pt) : StabB (kP1 p) := fun v w w' hb ⟨g, va, vb, h1, h2, h3, h4⟩ => ⟨g, va, vb, h1, (hb.block g (block_lt' h2)).trans h2, h3.below hb, h4.below hb⟩
theorem stab_P2 (p q : Pt) : StabB (kP2 p q) := fun v w w' hb ⟨g, va, vb, vc, vd, h1, h2, h3, h4, h5, h6⟩ => ⟨g, va, vb, vc, vd, h1, (hb.block g (block_lt' h2)).trans h2, h3.below hb, h4.below hb, h5.below hb, h6.below hb⟩
def RetParts (w : World) (l : List UInt8) (e : Ending) (w' : World) : Prop :=
  Below w.heap.size w w' ∧ match pNum l with
  | none => ∃ v, e = .returned (.tuple #[v, .bool false])
  | some [p] => ∃ v, e = .returned (.tuple #[v, .bool true]) ∧ kP1 p v w'
  | some [p, q] => ∃ v, e = .returned (.tuple #[v, .bool true]) ∧ kP2 p q v w'
  | some _ => False
end Go.Proofs.YtphlmmjlpbledaaGreatDoor
