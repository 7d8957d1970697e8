
/- num.Complex. -/
import Derived.Test.YtphlmmjlpbledaaGreatDoorK33
import Derived.Test.YtphlmmjlpbledaaGreatDoorK21
import Derived.Test.YtphlmmjlpbledaaGreatDoorFx
import Derived.Test.YtphlmmjlpbledaaGreatDoorFb
import Derived.Test.YtphlmmjlpbledaaGreatDoorFd
set_option linter.unusedSimpArgs false
set_option linter.unusedVariables false
namespace Go.Proofs.YtphlmmjlpbledaaGreatDoor
open Go.RowKit
set_option maxRecDepth 100000

theorem complex_bad (a b : Nat) (w : World) (ha : a < 18446744073709551616) (hb : b < 18446744073709551616) (hT : Tab64 w) (h : fx a = 2047 ∨ fx b = 2047) :
    Calls Tryz.prog 21 #[.complex .f64 a b] w (RetNumE w .zero 1) := by
  have HA := Lib.hid (fun W (hb : Below w.heap.size w W) => split_any a W ha (hT.below hb))
  have HB := Lib.hid (fun W (h : Below w.heap.size w W) => split_any b W hb (hT.below h))
  obtain ⟨oa, hoa⟩ : ∃ o, decide (fx a ≠ 2047) = o := ⟨_, rfl⟩
  obtain ⟨ob, hob⟩ : ∃ o, decide (fx b ≠ 2047) = o := ⟨_, rfl⟩
  have HO := Lib.hid (show oa = false ∨ ob = false by
    rcases h with h | h
    · left; rw [← hoa, h]; rfl
    · right; rw [← hob, h]; rfl)
  have HOA := Lib.hid hoa
  have HOB := Lib.hid hob
  clear hT ha hb h hoa hob
  go_enter Tryz.func21, Tryz.ntmps21
  go_wp2_with fail
  refine (HA.out _ (below_alloc _ _)).mono ?_
  rintro e w1 ⟨v, z1, n1, rfl, hz1, hb1, -⟩
  obtain ⟨A1, m1, c1, rfl, -⟩ := hz1.parts
  rw [HOA.out]
  generalize decide (z1 < 0) = p1 at *
  have hbx : w1.heap[w.heap.size]? = some (.cells #[.slice none 0 0, .bool false, .slice none 0 0, .bool false, .slice none 0 0] 28 (0, 0)) := (hb1.block w.heap.size (by simp)).trans (heap_alloc_new w _)
  have hlt : w.heap.size < w1.heap.size := Nat.lt_of_lt_of_le (by simp) hb1.size
  have B1 := Lib.hid (below_trans (below_alloc w _) hb1)
  clear hb1 hz1
  go_wp2_with fail
  refine (HB.out _ (below_trans B1.out (below_alloc _ _))).mono ?_
  rintro e w2 ⟨v, z2, n2, rfl, hz2, hb2, -⟩
  obtain ⟨A2, m2, c2, rfl, -⟩ := hz2.parts
  rw [HOB.out]
  generalize decide (z2 < 0) = p2 at *
  have hbx2 := (hb2.block w.heap.size (by simp; omega)).trans ((heap_alloc_old w1 _ hlt).trans hbx)
  have hlt2 : w.heap.size < w2.heap.size := Nat.lt_of_lt_of_le hlt (Nat.le_trans (by simp) hb2.size)
  obtain ⟨f0, f1, f2, f3, f4, y0, y1, y2, y3, y4⟩ := bx5 ((heap_alloc_old w2 (.cells #[.slice A2 m2 c2, .bool p2] 26) hlt2).trans hbx2)
  have B2 := Lib.hid (below_trans (below_trans B1.out (below_alloc _ _)) hb2)
  clear hb2 hz2 hbx hbx2
  go_upto_region 3 with fail
  obtain ⟨W3, hW3⟩ : ∃ W, W = w2.alloc (.cells #[.slice A2 m2 c2, .bool p2] 26) := ⟨_, rfl⟩
  rw [← hW3] at f0 f1 f2 f3 f4 y0 y1 y2 y3 y4 ⊢
  have NB := NumBox.nil f0 f1 f2 f3 f4
  have B3 := Lib.hid (show Below w.heap.size w W3 by rw [hW3]; exact below_trans B2.out (below_alloc _ _))
  have HZ := Lib.hid (IsNum.zero W3)
  clear hW3
  cases oa
  · go_wp2
    refine bodyPost_ret (v := .tuple #[.agg #[.slice none 0 0, .bool false, .slice none 0 0, .bool false, .slice none 0 0], .int .i64 1]) (by simp [results, Tryz.results21]; exact run_load5e NB _ _ _ _ _ _) rfl ?_
    exact RetNumE.box B3.out (Nat.le_refl _) NB HZ.out _ _ _ _ _
  · obtain rfl : ob = false := by rcases HO.out with h | h <;> simp_all
    go_wp2
    refine bodyPost_ret (v := .tuple #[.agg #[.slice none 0 0, .bool false, .slice none 0 0, .bool false, .slice none 0 0], .int .i64 1]) (by simp [results, Tryz.results21]; exact run_load5e NB _ _ _ _ _ _) rfl ?_
    exact RetNumE.box B3.out (Nat.le_refl _) NB HZ.out _ _ _ _ _
end Go.Proofs.YtphlmmjlpbledaaGreatDoor
