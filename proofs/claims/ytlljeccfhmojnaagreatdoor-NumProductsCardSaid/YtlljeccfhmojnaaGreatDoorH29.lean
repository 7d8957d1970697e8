import Derived.Test.YtlljeccfhmojnaaGreatDoorH14
import Derived.Test.YtlljeccfhmojnaaGreatDoorH24
import Derived.Test.YtlljeccfhmojnaaGreatDoorH28
set_option linter.unusedSimpArgs false
set_option linter.unusedVariables false
namespace Go.Proofs.YtlljeccfhmojnaaGreatDoor
open Go.RowKit
set_option maxRecDepth 100000
section
variable (x y z : Cx)
theorem Cx.add_assoc : (x.add y).add z = x.add (y.add z) := by apply Cx.ext <;> simp only [Cx.add] <;> grind
end
end Go.Proofs.YtlljeccfhmojnaaGreatDoor
set_option linter.unusedSimpArgs false
set_option linter.unusedVariables false
namespace Go.Proofs.YtlljeccfhmojnaaGreatDoor
set_option maxRecDepth 100000
/-- The sum of d terms from j on. -/
def sm (f : Nat → Cx) : Nat → Nat → Cx
  | _, 0 => .zero
  | j, d + 1 => (f j).add (sm f (j + 1) d)
theorem Cx.zero_add (x : Cx) : Cx.zero.add x = x := by apply Cx.ext <;> simp only [Cx.add, Cx.zero] <;> grind
theorem Cx.add_zero (x : Cx) : x.add Cx.zero = x := by apply Cx.ext <;> simp only [Cx.add, Cx.zero] <;> grind
theorem sm_split (f : Nat → Cx) : ∀ (a j b : Nat), sm f j (a + b) = (sm f j a).add (sm f (j + a) b) := by
  intro a
  induction a with
  | zero => intro j b; rw [Nat.zero_add, sm, Cx.zero_add, Nat.add_zero]
  | succ a ih =>
    intro j b
    rw [show a + 1 + b = (a + b) + 1 by omega, sm, sm, ih (j + 1) b, Cx.add_assoc, show j + 1 + a = j + (a + 1) by omega]
theorem sm_last (f : Nat → Cx) (j d : Nat) : sm f j (d + 1) = (sm f j d).add (f (j + d)) := by
  rw [sm_split f d j 1, sm, sm, Cx.add_zero]
/-- The identity. -/
def idF : Nat → Nat → Cx := fun i k => if i = k then .int 1 else .zero
end Go.Proofs.YtlljeccfhmojnaaGreatDoor
set_option linter.unusedSimpArgs false
set_option linter.unusedVariables false
namespace Go.Proofs.YtlljeccfhmojnaaGreatDoor
open Go.RowKit
set_option maxRecDepth 100000
set_option maxHeartbeats 2000000 in
theorem blankN_any (w : World) (n m : Nat) (hn : n ≤ 1073741824) (hm : m ≤ 1073741824) :
    Calls Tryz.prog 99 #[.int .i64 n, .int .i64 m] w (RetMat w n m (fun _ _ => .zero)) := by
  obtain ⟨W1, hr1, hb1, hs1, hP⟩ := make_mat n m (by omega) w (fun _ _ => .zero) (fun _ => 0)
  have HB := Lib.hid hb1
  have HP := Lib.hid hP
  have HS := Lib.hid hs1
  clear hb1 hP hs1
  go_enter Tryz.func99, Tryz.ntmps99
  go_wp2
  clear hr1
  go_loopw [11] (fun i wr => ∃ (k : Nat) (g2 : Nat → Nat), i = .int .i64 k ∧ k ≤ n ∧ Below w.heap.size w wr ∧ PMat w.heap.size wr w.heap.size g2 n m k (fun _ _ => .zero)) (fun i _ => n - (intOf i).toNat)
  case atStart => exact ⟨0, fun _ => 0, rfl, by omega, HB.out, HP.out⟩
  case round =>
    obtain ⟨k, g2, rfl, hk, hB, hP⟩ := hrel
    have KB := Lib.hid hB
    by_cases hlt : k < n
    · obtain ⟨W2, hr2, hb2, hs2, hN2⟩ := make_row m (by omega) wr
      have P2 := hP.below hb2
      have f1 := P2.cell_nil (Nat.le_refl k) hlt
      have f2 := P2.frozen k
      obtain ⟨P3, hB2, hE2⟩ := hP.row hb2 (Nat.le_refl _) hN2 hlt
      have K4 := Lib.hid P3
      have L4 := Lib.hid (hB2.below (below_trans hB hb2) (Nat.le_refl _))
      clear P3 hB2 hE2 P2 hP hB hb2 hs2 hN2
      go_wp2
      go_roundw
      case rel => exact ⟨k + 1, upf g2 k wr.heap.size, by go_num, by omega, L4.out, K4.out⟩
      case measure => simp [intOf]; omega
    · obtain rfl : k = n := by omega
      obtain ⟨h1, h2⟩ := hP.done
      clear hB hP
      go_wp2
      go_ret
      exact ⟨_, _, rfl, h1, h2, KB.out⟩
end Go.Proofs.YtlljeccfhmojnaaGreatDoor
