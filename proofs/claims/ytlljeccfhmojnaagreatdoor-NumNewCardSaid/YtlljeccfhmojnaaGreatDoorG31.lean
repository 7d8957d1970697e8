/- Walks: numbers of plain data. -/
import Derived.Test.YtlljeccfhmojnaaGreatDoorG21
set_option linter.unusedSimpArgs false
set_option linter.unusedVariables false
namespace Go.Proofs.YtlljeccfhmojnaaGreatDoor
open Go.RowKit
set_option maxRecDepth 100000

theorem run_load5a {w : World} {g : Nat} (h : NumBox w g) (hg : g < w.heap.size) (v0 v1 v2 v3 v4 : Value) (C : Array Value) (T : TypeId) :
    ((Sem.run Tryz.prog (asAddr (Value.pointer (some { block := g, off := 0 }))) ((((((w.setCell ⟨g, 0, none⟩ v0).setCell ⟨g, 1, none⟩ v1).setCell ⟨g, 2, none⟩ v2).setCell ⟨g, 3, none⟩ v3).setCell ⟨g, 4, none⟩ v4).alloc (.cells C T))).andThen
      fun a w' => Sem.run Tryz.prog (loadVar 27 a) w') =
    Result.ok (Value.agg #[v0, v1, v2, v3, v4]) ((((((w.setCell ⟨g, 0, none⟩ v0).setCell ⟨g, 1, none⟩ v1).setCell ⟨g, 2, none⟩ v2).setCell ⟨g, 3, none⟩ v3).setCell ⟨g, 4, none⟩ v4).alloc (.cells C T)) := by
  obtain ⟨o0, o1, o2, o3, o4, h0, h1, h2, h3, h4, -⟩ := h
  simp [go_sem, h0, h1, h2, h3, h4, hg]
theorem RetNum.alloc {w W : World} {x : Cx} {e : Ending} (h : RetNum w x e W) (o : Obj) : RetNum w x e (W.alloc o) := by
  obtain ⟨v, h1, h2, h3⟩ := h
  exact ⟨v, h1, h2.below (below_alloc W o), below_trans h3 (below_alloc W o)⟩
/-- The number that plain data stand for. -/
def ofR (p q r : Int) : Cx := .ratio p q (if r = 0 then 1 else r)
set_option maxHeartbeats 2000000 in
theorem of_any (p q r : Int) (w : World) (hp : -9223372036854775808 ≤ p) (hp' : p < 9223372036854775808) (hq : -9223372036854775808 ≤ q) (hq' : q < 9223372036854775808) (hr : -9223372036854775808 ≤ r) (hr' : r < 9223372036854775808) (hT : Tab w) :
    Calls Tryz.prog 71 #[.agg #[.int .i64 p, .int .i64 q, .int .i64 r]] w (RetNum w (ofR p q r)) := by
  by_cases h0 : r = 0
  · subst h0
    have HN := Lib.hid (fun W (hb : Below w.heap.size w W) => new_any p q 1 W hp hp' hq hq' (by omega) (by omega) (by omega) (hT.below hb))
    have hx : ofR p q 0 = .ratio p q 1 := rfl
    rw [hx]
    clear hp hp' hq hq' hr hr' hT hx
    go_enter Tryz.func71, Tryz.ntmps71
    go_wp2_with fail
    refine (HN.out _ (by (repeat (first | exact Below.refl _ _ | assumption | with_reducible refine Below.drew ?_ | with_reducible refine below_trans ?_ (below_alloc _ _) | with_reducible refine below_trans ?_ (below_drewN _ _) | with_reducible refine Below.setCell ?_ (by simp <;> omega) _ | refine below_trans ?_ (by assumption))))).mono ?_
    rintro e W7 ⟨v, rfl, hr7, hb7⟩
    obtain ⟨A1, n1, c1, p1, A2, n2, c2, p2, A3, n3, c3, a, b, d, rfl, -⟩ := hr7.parts
    obtain ⟨hc7, hf7, hz7⟩ := bcells hb7 (w.heap.size + 2) (by simp)
    have lt0 : w.heap.size < W7.heap.size := by omega
    have lt1 : w.heap.size + 1 < W7.heap.size := by omega
    go_wp2
    have B7 : Below w.heap.size w W7 := (by (repeat (first | exact Below.refl _ _ | assumption | with_reducible refine Below.drew ?_ | with_reducible refine below_trans ?_ (below_alloc _ _) | with_reducible refine below_trans ?_ (below_drewN _ _) | with_reducible refine Below.setCell ?_ (by simp <;> omega) _ | refine below_trans ?_ (by assumption))))
    have NB : NumBox W7 (w.heap.size + 1) := NumBox.of hc7 (g := w.heap.size + 1) (by omega) (.nil (by simp [go_sem]) (by simp [go_sem]) (by simp [go_sem]) (by simp [go_sem]) (by simp [go_sem]))
    refine bodyPost_ret (v := .agg #[.slice A1 n1 c1, .bool p1, .slice A2 n2 c2, .bool p2, .slice A3 n3 c3]) (by simp [results, Tryz.results71]; exact run_load5a NB lt1 _ _ _ _ _ _ _) rfl ?_
    exact (RetNum.box B7 (by omega) NB hr7 _ _ _ _ _).alloc _
  · have HN := Lib.hid (fun W (hb : Below w.heap.size w W) => new_any p q r W hp hp' hq hq' hr hr' h0 (hT.below hb))
    have hx : ofR p q r = .ratio p q r := by unfold ofR; rw [if_neg h0]
    rw [hx]
    have hb0 : (r == 0) = false := by simpa using h0
    clear hp hp' hq hq' hr hr' hT hx h0
    go_enter Tryz.func71, Tryz.ntmps71
    go_wp2_with fail
    refine (HN.out _ (by (repeat (first | exact Below.refl _ _ | assumption | with_reducible refine Below.drew ?_ | with_reducible refine below_trans ?_ (below_alloc _ _) | with_reducible refine below_trans ?_ (below_drewN _ _) | with_reducible refine Below.setCell ?_ (by simp <;> omega) _ | refine below_trans ?_ (by assumption))))).mono ?_
    rintro e W7 ⟨v, rfl, hr7, hb7⟩
    obtain ⟨A1, n1, c1, p1, A2, n2, c2, p2, A3, n3, c3, a, b, d, rfl, -⟩ := hr7.parts
    obtain ⟨hc7, hf7, hz7⟩ := bcells hb7 (w.heap.size + 2) (by simp)
    have lt0 : w.heap.size < W7.heap.size := by omega
    have lt1 : w.heap.size + 1 < W7.heap.size := by omega
    go_wp2
    have B7 : Below w.heap.size w W7 := (by (repeat (first | exact Below.refl _ _ | assumption | with_reducible refine Below.drew ?_ | with_reducible refine below_trans ?_ (below_alloc _ _) | with_reducible refine below_trans ?_ (below_drewN _ _) | with_reducible refine Below.setCell ?_ (by simp <;> omega) _ | refine below_trans ?_ (by assumption))))
    have NB : NumBox W7 (w.heap.size + 1) := NumBox.of hc7 (g := w.heap.size + 1) (by omega) (.nil (by simp [go_sem]) (by simp [go_sem]) (by simp [go_sem]) (by simp [go_sem]) (by simp [go_sem]))
    refine bodyPost_ret (v := .agg #[.slice A1 n1 c1, .bool p1, .slice A2 n2 c2, .bool p2, .slice A3 n3 c3]) (by simp [results, Tryz.results71]; exact run_load5a NB lt1 _ _ _ _ _ _ _) rfl ?_
    exact (RetNum.box B7 (by omega) NB hr7 _ _ _ _ _).alloc _
end Go.Proofs.YtlljeccfhmojnaaGreatDoor
