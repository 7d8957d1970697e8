import Derived.Test.YtccldiokpgjocaaGreatDoorP27
import Derived.Test.YtccldiokpgjocaaGreatDoorP28
import Derived.Test.YtccldiokpgjocaaGreatDoorP30
import Derived.Test.YtccldiokpgjocaaGreatDoorP34
import Derived.Test.YtccldiokpgjocaaGreatDoorP40
import Derived.Test.YtccldiokpgjocaaGreatDoorP47
set_option linter.unusedSimpArgs false
set_option linter.unusedVariables false
namespace Go.Proofs.YtccldiokpgjocaaGreatDoor
open Go.RowKit
set_option maxRecDepth 100000
structure Six (B : Nat) (W0 : World) (g4 g5 gx gy gt gp : Nat) (X Y T P : Cx) (W : World) : Prop where
  l4 : B ≤ g4
  l5 : B ≤ g5
  lx : B ≤ gx
  ly : B ≤ gy
  lt : B ≤ gt
  lp : B ≤ gp
  n1 : g4 ≠ gx
  n2 : g4 ≠ gt
  n3 : gx ≠ gt
  n4 : g5 ≠ gy
  n5 : g5 ≠ gp
  n6 : gy ≠ gp
  b4 : NBlk W g4 1 (fun _ => .zero)
  b5 : QBlk W g5 1 (fun _ => False) (fun _ => .zero)
  bx : NBlk W gx 1 (fun _ => X)
  b_y : QBlk W gy 1 (fun _ => True) (fun _ => Y)
  bt : NBlk W gt 1 (fun _ => T)
  bp : QBlk W gp 1 (fun _ => True) (fun _ => P)
  bel : Below B W0 W
section
variable {B : Nat} {W0 : World} {g4 g5 gx gy gt gp : Nat} {X Y T P z : Cx} {a : Act} {w : World} {K : Act → World → Prop} {Q : Exit → Act → World → Prop}
theorem Six.below {W W' : World} (h : Six B W0 g4 g5 gx gy gt gp X Y T P W) (hb : Below W.heap.size W W') : Six B W0 g4 g5 gx gy gt gp X Y T P W' :=
  ⟨h.l4, h.l5, h.lx, h.ly, h.lt, h.lp, h.n1, h.n2, h.n3, h.n4, h.n5, h.n6, h.b4.below hb, h.b5.below hb, h.bx.below hb, h.b_y.below hb, h.bt.below hb, h.bp.below hb, h.bel.trans (hb.mono (by have := h.lx; have := h.bx.lt; omega))⟩
theorem six_x {o : Oper} {x1 y1 : Operand} (h1 : o.op = .store 30 x1 y1) (e1 : a.eval x1 = .pointer (some ⟨gx, 0, none⟩)) (v1 : IsNum w (a.eval y1) z) (h : Six B W0 g4 g5 gx gy gt gp X Y T P w)
    (hK : ∀ w', Ext w w' → Six B W0 g4 g5 gx gy gt gp z Y T P w' → K (a.put o.dst undef) w') : o.wp Tryz.prog a w K Q :=
  wp_store_elem h1 (k := 0) e1 rfl h.bx (by omega) v1 fun wa ba xa ra =>
    hK wa xa ⟨h.l4, h.l5, h.lx, h.ly, h.lt, h.lp, h.n1, h.n2, h.n3, h.n4, h.n5, h.n6, h.b4.but ba xa h.n1, h.b5.but ba xa (Ne.symm (apart_nq h.bx h.b5)), ra.congr (upf_one _ _), h.b_y.but ba xa (Ne.symm (apart_nq h.bx h.b_y)), h.bt.but ba xa (Ne.symm h.n3), h.bp.but ba xa (Ne.symm (apart_nq h.bx h.bp)), ba.below h.bel h.lx⟩
theorem six_t {o : Oper} {x1 y1 : Operand} (h1 : o.op = .store 30 x1 y1) (e1 : a.eval x1 = .pointer (some ⟨gt, 0, none⟩)) (v1 : IsNum w (a.eval y1) z) (h : Six B W0 g4 g5 gx gy gt gp X Y T P w)
    (hK : ∀ w', Ext w w' → Six B W0 g4 g5 gx gy gt gp X Y z P w' → K (a.put o.dst undef) w') : o.wp Tryz.prog a w K Q :=
  wp_store_elem h1 (k := 0) e1 rfl h.bt (by omega) v1 fun wa ba xa ra =>
    hK wa xa ⟨h.l4, h.l5, h.lx, h.ly, h.lt, h.lp, h.n1, h.n2, h.n3, h.n4, h.n5, h.n6, h.b4.but ba xa h.n2, h.b5.but ba xa (Ne.symm (apart_nq h.bt h.b5)), h.bx.but ba xa h.n3, h.b_y.but ba xa (Ne.symm (apart_nq h.bt h.b_y)), ra.congr (upf_one _ _), h.bp.but ba xa (Ne.symm (apart_nq h.bt h.bp)), ba.below h.bel h.lt⟩
theorem six_y {o : Oper} {x1 y1 : Operand} (h1 : o.op = .store 34 x1 y1) (e1 : a.eval x1 = .pointer (some ⟨gy, 0, none⟩)) (v1 : IsQ w (a.eval y1) z) (h : Six B W0 g4 g5 gx gy gt gp X Y T P w)
    (hK : ∀ w', Ext w w' → Six B W0 g4 g5 gx gy gt gp X z T P w' → K (a.put o.dst undef) w') : o.wp Tryz.prog a w K Q :=
  wp_store_qe h1 (k := 0) e1 rfl h.b_y (by omega) v1 fun wa ba xa ra =>
    hK wa xa ⟨h.l4, h.l5, h.lx, h.ly, h.lt, h.lp, h.n1, h.n2, h.n3, h.n4, h.n5, h.n6, h.b4.but ba xa (apart_nq h.b4 h.b_y), h.b5.but ba xa h.n4, h.bx.but ba xa (apart_nq h.bx h.b_y), ra.to fun j hj _ => ⟨.inl trivial, upf_one _ _ j hj⟩, h.bt.but ba xa (apart_nq h.bt h.b_y), h.bp.but ba xa (Ne.symm h.n6), ba.below h.bel h.ly⟩
theorem six_p {o : Oper} {x1 y1 : Operand} (h1 : o.op = .store 34 x1 y1) (e1 : a.eval x1 = .pointer (some ⟨gp, 0, none⟩)) (v1 : IsQ w (a.eval y1) z) (h : Six B W0 g4 g5 gx gy gt gp X Y T P w)
    (hK : ∀ w', Ext w w' → Six B W0 g4 g5 gx gy gt gp X Y T z w' → K (a.put o.dst undef) w') : o.wp Tryz.prog a w K Q :=
  wp_store_qe h1 (k := 0) e1 rfl h.bp (by omega) v1 fun wa ba xa ra =>
    hK wa xa ⟨h.l4, h.l5, h.lx, h.ly, h.lt, h.lp, h.n1, h.n2, h.n3, h.n4, h.n5, h.n6, h.b4.but ba xa (apart_nq h.b4 h.bp), h.b5.but ba xa h.n5, h.bx.but ba xa (apart_nq h.bx h.bp), h.b_y.but ba xa h.n6, h.bt.but ba xa (apart_nq h.bt h.bp), ra.to fun j hj _ => ⟨.inl trivial, upf_one _ _ j hj⟩, ba.below h.bel h.lp⟩
theorem six_xy {o1 o2 : Oper} {x1 y1 x2 y2 : Operand} (h1 : o1.op = .store 30 x1 y1) (h2 : o2.op = .store 34 x2 y2) (d1 : o1.dst = none) (d2 : o2.dst = none)
    (e1 : a.eval x1 = .pointer (some ⟨gx, 0, none⟩)) (e2 : a.eval x2 = .pointer (some ⟨gy, 0, none⟩)) (v1 : IsNum w (a.eval y1) z) (v2 : IsQ w (a.eval y2) z) (hM : Six B W0 g4 g5 gx gy gt gp X Y T P w) (hK : ∀ w', Six B W0 g4 g5 gx gy gt gp z z T P w' → K a w') :
    Goes (o1.wp Tryz.prog a w (fun a' w' => o2.wp Tryz.prog a' w' K Q) Q) ∧ Goes (o2.wp Tryz.prog a w (fun a' w' => o1.wp Tryz.prog a' w' K Q) Q) := by
  have p1 : ∀ v, a.put o1.dst v = a := fun v => by rw [d1]; rfl
  have p2 : ∀ v, a.put o2.dst v = a := fun v => by rw [d2]; rfl
  refine ⟨⟨six_x h1 e1 v1 hM fun wa xa ma => ?_⟩, ⟨six_y h2 e2 v2 hM fun wa xa ma => ?_⟩⟩
  · rw [p1]
    refine six_y h2 e2 (IsQ.ext v2 xa) ma fun wb xb mb => ?_
    rw [p2]
    exact hK wb mb
  · rw [p2]
    refine six_x h1 e1 (v1.ext xa) ma fun wb xb mb => ?_
    rw [p1]
    exact hK wb mb
theorem six_tp {o1 o2 : Oper} {x1 y1 x2 y2 : Operand} (h1 : o1.op = .store 30 x1 y1) (h2 : o2.op = .store 34 x2 y2) (d1 : o1.dst = none) (d2 : o2.dst = none)
    (e1 : a.eval x1 = .pointer (some ⟨gt, 0, none⟩)) (e2 : a.eval x2 = .pointer (some ⟨gp, 0, none⟩)) (v1 : IsNum w (a.eval y1) z) (v2 : IsQ w (a.eval y2) z) (hM : Six B W0 g4 g5 gx gy gt gp X Y T P w) (hK : ∀ w', Six B W0 g4 g5 gx gy gt gp X Y z z w' → K a w') :
    Goes (o1.wp Tryz.prog a w (fun a' w' => o2.wp Tryz.prog a' w' K Q) Q) ∧ Goes (o2.wp Tryz.prog a w (fun a' w' => o1.wp Tryz.prog a' w' K Q) Q) := by
  have p1 : ∀ v, a.put o1.dst v = a := fun v => by rw [d1]; rfl
  have p2 : ∀ v, a.put o2.dst v = a := fun v => by rw [d2]; rfl
  refine ⟨⟨six_t h1 e1 v1 hM fun wa xa ma => ?_⟩, ⟨six_p h2 e2 v2 hM fun wa xa ma => ?_⟩⟩
  · rw [p1]
    refine six_p h2 e2 (IsQ.ext v2 xa) ma fun wb xb mb => ?_
    rw [p2]
    exact hK wb mb
  · rw [p2]
    refine six_t h1 e1 (v1.ext xa) ma fun wb xb mb => ?_
    rw [p1]
    exact hK wb mb
end
theorem nblk_load {W : World} {g n k : Nat} {f : Nat → Cx} (h : NBlk W g n f) (hk : k < n) : ∃ v, (loadVar 30 ⟨g, 5 * k, none⟩).run Tryz.prog W = .ok v W ∧ IsNum W v (f k) := by
  obtain ⟨cs, h1, h2, h3, h4⟩ := h
  obtain ⟨A, B, C, p, q, na, ca, nb, cb, nc, cc, a1, a2, a3, a4, a5, a6⟩ := h4 k hk
  have hl := run_loadCells_list (P := Tryz.prog) (w := W) ⟨g, 5 * k, none⟩ [.slice A na ca, .bool p, .slice B nb cb, .bool q, .slice C nc cc] (fun j v hv => by
    have hadd : (⟨g, 5 * k, none⟩ : Addr).add j = ⟨g, 5 * k + j, none⟩ := by unfold Addr.add; split <;> simp_all
    rw [hadd, cell_of_row W g _ cs _ (0, 0) h1]
    match j, hv with
    | 0, hv => simp at hv; rw [← hv]; exact a1
    | 1, hv => simp at hv; rw [← hv]; exact a2
    | 2, hv => simp at hv; rw [← hv]; exact a3
    | 3, hv => simp at hv; rw [← hv]; exact a4
    | 4, hv => simp at hv; rw [← hv]; exact a5
    | j + 5, hv => simp at hv)
  have hinfo : (Tryz.prog.info? 30).map (·.size) = some 5 := by kernel_rfl
  cases hq : Tryz.prog.info? 30 with
  | none => rw [hq] at hinfo; cases hinfo
  | some i =>
    have hs : i.size = 5 := by rw [hq] at hinfo; simpa using hinfo
    have hagg : (isAgg 30).run Tryz.prog W = .ok true W := by
      unfold isAgg
      rw [Sem.run_bind, run_underlying Tryz.underlying30 W]
      rfl
    refine ⟨_, ?_, a6⟩
    simp only [List.length_cons, List.length_nil] at hl
    simp [loadVar, Sem.run_bind, hagg, sizeOf, typeInfo, hq, hs, hl]
theorem qblk_load {W : World} {g n k : Nat} {V : Nat → Prop} {f : Nat → Cx} (h : QBlk W g n V f) (hk : k < n) (hV : V k) : ∃ v, (loadVar 34 ⟨g, 5 * k, none⟩).run Tryz.prog W = .ok v W ∧ IsQ W v (f k) := by
  obtain ⟨cs, h1, h2, h3, h4⟩ := h
  obtain ⟨A, B, C, p, q, na, ca, nb, cb, nc, cc, a1, a2, a3, a4, a5, a6⟩ := h4 k hk
  have hl := run_loadCells_list (P := Tryz.prog) (w := W) ⟨g, 5 * k, none⟩ [.bool p, .slice A na ca, .bool q, .slice B nb cb, .slice C nc cc] (fun j v hv => by
    have hadd : (⟨g, 5 * k, none⟩ : Addr).add j = ⟨g, 5 * k + j, none⟩ := by unfold Addr.add; split <;> simp_all
    rw [hadd, cell_of_row W g _ cs _ (0, 0) h1]
    match j, hv with
    | 0, hv => simp at hv; rw [← hv]; exact a1
    | 1, hv => simp at hv; rw [← hv]; exact a2
    | 2, hv => simp at hv; rw [← hv]; exact a3
    | 3, hv => simp at hv; rw [← hv]; exact a4
    | 4, hv => simp at hv; rw [← hv]; exact a5
    | j + 5, hv => simp at hv)
  have hinfo : (Tryz.prog.info? 34).map (·.size) = some 5 := by kernel_rfl
  cases hq : Tryz.prog.info? 34 with
  | none => rw [hq] at hinfo; cases hinfo
  | some i =>
    have hs : i.size = 5 := by rw [hq] at hinfo; simpa using hinfo
    have hagg : (isAgg 34).run Tryz.prog W = .ok true W := by
      unfold isAgg
      rw [Sem.run_bind, run_underlying Tryz.underlying34 W]
      rfl
    refine ⟨_, ?_, a6 hV⟩
    simp only [List.length_cons, List.length_nil] at hl
    simp [loadVar, Sem.run_bind, hagg, sizeOf, typeInfo, hq, hs, hl]
structure Four (B : Nat) (W0 : World) (cs : Array Value) (g4 g5 gt gp : Nat) (T P : Cx) (W : World) : Prop where
  l4 : B ≤ g4
  l5 : B ≤ g5
  lt : B < gt
  lp : B < gp
  n2 : g4 ≠ gt
  n5 : g5 ≠ gp
  b4 : NBlk W g4 1 (fun _ => .zero)
  b5 : QBlk W g5 1 (fun _ => False) (fun _ => .zero)
  bt : NBlk W gt 1 (fun _ => T)
  bp : QBlk W gp 1 (fun _ => True) (fun _ => P)
  bel : Below B W0 W
  rat : W.heap[B]? = some (.cells cs 23 (0, 0))
section
variable {B : Nat} {W0 : World} {cs : Array Value} {g4 g5 gt gp : Nat} {T P z : Cx} {a : Act} {w : World} {K : Act → World → Prop} {Q : Exit → Act → World → Prop}
theorem Four.below {W W' : World} (h : Four B W0 cs g4 g5 gt gp T P W) (hb : Below W.heap.size W W') : Four B W0 cs g4 g5 gt gp T P W' :=
  ⟨h.l4, h.l5, h.lt, h.lp, h.n2, h.n5, h.b4.below hb, h.b5.below hb, h.bt.below hb, h.bp.below hb, h.bel.trans (hb.mono (by have := h.lt; have := h.bt.lt; omega)), (hb.block _ (by have := h.lt; have := h.bt.lt; omega)).trans h.rat⟩
theorem four_t {o : Oper} {x1 y1 : Operand} (h1 : o.op = .store 30 x1 y1) (e1 : a.eval x1 = .pointer (some ⟨gt, 0, none⟩)) (v1 : IsNum w (a.eval y1) z) (h : Four B W0 cs g4 g5 gt gp T P w)
    (hK : ∀ w', Ext w w' → Four B W0 cs g4 g5 gt gp z P w' → K (a.put o.dst undef) w') : o.wp Tryz.prog a w K Q :=
  wp_store_elem h1 (k := 0) e1 rfl h.bt (by omega) v1 fun wa ba xa ra =>
    hK wa xa ⟨h.l4, h.l5, h.lt, h.lp, h.n2, h.n5, h.b4.but ba xa h.n2, h.b5.but ba xa (Ne.symm (apart_nq h.bt h.b5)), ra.congr (upf_one _ _), h.bp.but ba xa (Ne.symm (apart_nq h.bt h.bp)), ba.below h.bel (Nat.le_of_lt h.lt), (ba.other _ (Nat.ne_of_lt h.lt)).trans h.rat⟩
theorem four_p {o : Oper} {x1 y1 : Operand} (h1 : o.op = .store 34 x1 y1) (e1 : a.eval x1 = .pointer (some ⟨gp, 0, none⟩)) (v1 : IsQ w (a.eval y1) z) (h : Four B W0 cs g4 g5 gt gp T P w)
    (hK : ∀ w', Ext w w' → Four B W0 cs g4 g5 gt gp T z w' → K (a.put o.dst undef) w') : o.wp Tryz.prog a w K Q :=
  wp_store_qe h1 (k := 0) e1 rfl h.bp (by omega) v1 fun wa ba xa ra =>
    hK wa xa ⟨h.l4, h.l5, h.lt, h.lp, h.n2, h.n5, h.b4.but ba xa (apart_nq h.b4 h.bp), h.b5.but ba xa h.n5, h.bt.but ba xa (apart_nq h.bt h.bp), ra.to fun j hj _ => ⟨.inl trivial, upf_one _ _ j hj⟩, ba.below h.bel (Nat.le_of_lt h.lp), (ba.other _ (Nat.ne_of_lt h.lp)).trans h.rat⟩
theorem four_tp {o1 o2 : Oper} {x1 y1 x2 y2 : Operand} (h1 : o1.op = .store 30 x1 y1) (h2 : o2.op = .store 34 x2 y2) (d1 : o1.dst = none) (d2 : o2.dst = none)
    (e1 : a.eval x1 = .pointer (some ⟨gt, 0, none⟩)) (e2 : a.eval x2 = .pointer (some ⟨gp, 0, none⟩)) (v1 : IsNum w (a.eval y1) z) (v2 : IsQ w (a.eval y2) z) (hM : Four B W0 cs g4 g5 gt gp T P w) (hK : ∀ w', Four B W0 cs g4 g5 gt gp z z w' → K a w') :
    Goes (o1.wp Tryz.prog a w (fun a' w' => o2.wp Tryz.prog a' w' K Q) Q) ∧ Goes (o2.wp Tryz.prog a w (fun a' w' => o1.wp Tryz.prog a' w' K Q) Q) := by
  have p1 : ∀ v, a.put o1.dst v = a := fun v => by rw [d1]; rfl
  have p2 : ∀ v, a.put o2.dst v = a := fun v => by rw [d2]; rfl
  refine ⟨⟨four_t h1 e1 v1 hM fun wa xa ma => ?_⟩, ⟨four_p h2 e2 v2 hM fun wa xa ma => ?_⟩⟩
  · rw [p1]
    refine four_p h2 e2 (IsQ.ext v2 xa) ma fun wb xb mb => ?_
    rw [p2]
    exact hK wb mb
  · rw [p2]
    refine four_t h1 e1 (v1.ext xa) ma fun wb xb mb => ?_
    rw [p1]
    exact hK wb mb
def p12 (g4 g5 : Nat) (X : Cx) : Nat → Value → World → Prop
  | 0, v, W => IsNum W v X
  | 1, v, W => IsQ W v X
  | 2, _, W => NBlk W g4 1 (fun _ => X)
  | 3, _, W => QBlk W g5 1 (fun _ => True) (fun _ => X)
  | _, _, _ => True
def m12 (g4 g5 : Nat) : Nat → World → Prop
  | 2, W => NBlk W g4 1 (fun _ => .zero)
  | 3, W => QBlk W g5 1 (fun _ => False) (fun _ => .zero)
  | _, _ => True
def r12 (g4 g5 : Nat) (i : Nat) (W W' : World) : Prop := if i = 2 then But W W' g4 ∧ Ext W W' else if i = 3 then But W W' g5 ∧ Ext W W' else W = W'
theorem p12_keeps {X : Cx} {W W' : World} {i : Nat} (ne : g4 ≠ g5) (j : Nat) (v : Value) (hij : i ≠ j) (hr : r12 g4 g5 i W W') (h : p12 g4 g5 X j v W) : p12 g4 g5 X j v W' := by
  unfold r12 at hr
  split at hr
  · rename_i e
    match j, h with
    | 0, h => exact IsNum.ext h hr.2
    | 1, h => exact IsQ.ext h hr.2
    | 2, h => omega
    | 3, h => exact QBlk.but h hr.1 hr.2 (Ne.symm ne)
    | j + 4, h => trivial
  · split at hr
    · rename_i e
      match j, h with
      | 0, h => exact IsNum.ext h hr.2
      | 1, h => exact IsQ.ext h hr.2
      | 2, h => exact NBlk.but h hr.1 hr.2 ne
      | 3, h => omega
      | j + 4, h => trivial
    · rw [← hr]; exact h
theorem m12_keeps {W W' : World} {i : Nat} (ne : g4 ≠ g5) (j : Nat) (hij : i ≠ j) (hr : r12 g4 g5 i W W') (h : m12 g4 g5 j W) : m12 g4 g5 j W' := by
  unfold r12 at hr
  split at hr
  · rename_i e
    match j, h with
    | 0, h => trivial
    | 1, h => trivial
    | 2, h => omega
    | 3, h => exact QBlk.but h hr.1 hr.2 (Ne.symm ne)
    | j + 4, h => trivial
  · split at hr
    · rename_i e
      match j, h with
      | 0, h => trivial
      | 1, h => trivial
      | 2, h => exact NBlk.but h hr.1 hr.2 ne
      | 3, h => omega
      | j + 4, h => trivial
    · rw [← hr]; exact h
def In12 (B : Nat) (W0 : World) (gx gy : Nat) (X : Cx) (W : World) : Prop := Below B W0 W ∧ NBlk W gx 1 (fun _ => X) ∧ QBlk W gy 1 (fun _ => True) (fun _ => X)
theorem In12.keeps {gx gy : Nat} {X : Cx} {W W' : World} {i : Nat} (h : In12 B W0 gx gy X W) (hr : r12 g4 g5 i W W') (l4 : B ≤ g4) (l5 : B ≤ g5) (n4 : gx ≠ g4) (n5 : gx ≠ g5) (m4 : gy ≠ g4) (m5 : gy ≠ g5) : In12 B W0 gx gy X W' := by
  obtain ⟨h1, h2, h3⟩ := h
  unfold r12 at hr
  split at hr
  · exact ⟨hr.1.below h1 l4, h2.but hr.1 hr.2 n4, h3.but hr.1 hr.2 m4⟩
  · split at hr
    · exact ⟨hr.1.below h1 l5, h2.but hr.1 hr.2 n5, h3.but hr.1 hr.2 m5⟩
    · rw [← hr]; exact ⟨h1, h2, h3⟩
theorem m12_start {W : World} (h4 : NBlk W g4 1 (fun _ => .zero)) (h5 : QBlk W g5 1 (fun _ => False) (fun _ => .zero)) (i : Nat) : m12 g4 g5 i W := by
  match i with
  | 0 => trivial
  | 1 => trivial
  | 2 => exact h4
  | 3 => exact h5
  | i + 4 => trivial
end
theorem rat_cells {W : World} {g : Nat} {T : TypeId} {v0 v1 v2 : Value} (h : W.heap[g]? = some (.cells #[v0, v1, v2] T (0, 0))) :
    W.cell? ⟨g, 0, none⟩ = some v0 ∧ W.cell? ⟨g, 0 + 1, none⟩ = some v1 ∧ W.cell? ⟨g, 0 + 2, none⟩ = some v2 := by
  simp [World.cell?, h]
theorem Four.zlt {B : Nat} {W0 : World} {cs : Array Value} {g4 g5 gt gp : Nat} {T P : Cx} {w : World} (h : Four B W0 cs g4 g5 gt gp T P w) : B < w.heap.size := by have := h.lt; have := h.bt.lt; omega
def RetXQ (w : World) (e : Ending) (w' : World) : Prop := ∃ x v u, Sz x 20000 ∧ e = .returned (.tuple #[v, u]) ∧ IsNum w' v x ∧ IsQ w' u x ∧ Below w.heap.size w w'
def ScRel (w : World) (g4 g5 gx gy gt gp : Nat) (v6 : Value) (wr : World) : Prop := ∃ (n m : Nat) (X T : Cx), v6 = .int .i64 (n : Int) ∧ n * m < 4096 ∧ 1 ≤ m ∧ m ≤ 8192 ∧ Sz X (3 + 2 * m) ∧ Sz T (2 * m - 1) ∧ Six w.heap.size w g4 g5 gx gy gt gp X X T T wr
theorem rem_nat' (a n : Nat) : (a : Int).tmod (n : Int) = ((a % n : Nat) : Int) := by
  rw [Int.tmod_eq_emod_of_nonneg (by omega)]; rfl
theorem quo_nat' (a n : Nat) : (a : Int).tdiv (n : Int) = ((a / n : Nat) : Int) := by
  rw [Int.tdiv_eq_ediv_of_nonneg (by omega)]; rfl
theorem wrap_sm {a : Int} (h0 : -9223372036854775808 ≤ a) (h : a < 9223372036854775808) : IntKind.i64.wrap a = a := by rw [IntKind.wrap_i64]; omega
theorem half_step' {n m : Nat} (h : n * m < 4096) (h0 : 0 < n) : n / 2 * (2 * m) < 4096 ∧ 2 * m ≤ 8192 := by
  have h1 : n / 2 * (2 * m) = n / 2 * 2 * m := by rw [Nat.mul_assoc]
  have h2 : n / 2 * 2 * m ≤ n * m := Nat.mul_le_mul_right _ (Nat.div_mul_le_self _ _)
  have h3 : 1 * m ≤ n * m := Nat.mul_le_mul_right _ h0
  omega
set_option maxHeartbeats 4000000 in
theorem scaledL_any (p q r s : Int) (w : World) (hp : -9223372036854775808 ≤ p) (hp' : p < 9223372036854775808) (hq : -9223372036854775808 ≤ q) (hq' : q < 9223372036854775808) (hr : -9223372036854775808 ≤ r) (hr' : r < 9223372036854775808) (hs : -32768 ≤ s) (hs' : s < 32768) (hT : Tab w) :
    Calls Tryz.prog 7 #[.agg #[.int .i64 p, .int .i64 q, .int .i64 r], .int .i16 s] w (RetXQ w) := by
  have HSX := hid (sz_of hp hp' hq hq' hr hr')
  have HX := hid (fun W (hb : Below w.heap.size w W) => of_any p q r W hp hp' hq hq' hr hr' (hT.below hb))
  have HY := hid (fun W => rOf_any p q r W hp hp' hq hq' hr hr')
  have HI := hid (fun W => int_any 2 W (by omega) (by omega))
  have HW := hid (fun W => rWhole_any 2 W (by omega) (by omega))
  have HO := hid (fun W (hb : Below w.heap.size w W) => of_any 1 0 2 W (by omega) (by omega) (by omega) (by omega) (by omega) (by omega) (hT.below hb))
  have HR := hid (fun W => rOf_any 1 0 2 W (by omega) (by omega) (by omega) (by omega) (by omega) (by omega))
  have HT := hid hT
  have ws : IntKind.i64.wrap s = s := wrap_sm (by omega) (by omega)
  obtain ⟨n0, hn0⟩ : ∃ n0, n0 = s.tmod 1200 := ⟨_, rfl⟩
  have hn1 : n0 < 1200 := by rw [hn0]; exact Int.tmod_lt_of_pos _ (by decide)
  have hn2 : -1200 < n0 := by rw [hn0]; exact Int.lt_tmod_of_pos _ (by decide)
  have wn : IntKind.i64.wrap n0 = n0 := wrap_sm (by omega) (by omega)
  have hn3 := hn0.symm
  generalize hx : ofR p q r = X0 at *
  clear hp hp' hq hq' hr hr' hs hs' hT hx hn0
  go_enter Tryz.func7, Tryz.ntmps7
  go_upto_region 2 with fail
  obtain ⟨W1, hW1⟩ : ∃ W1 : World, W1 = (((w.alloc (.cells #[.int .i64 p, .int .i64 q, .int .i64 r] 23)).alloc (.cells zNum 30)).alloc (.cells zQ 34)) := ⟨_, rfl⟩
  unfold zNum zQ at hW1
  rw [← hW1]
  have B1 : Below w.heap.size w W1 := by rw [hW1]; exact bel
  have X2 : W1.heap[w.heap.size]? = some (.cells #[.int .i64 p, .int .i64 q, .int .i64 r] 23 (0, 0)) := by
    rw [hW1]
    rw [Below.heap_alloc _ _ _ (by simp <;> omega)]
    rw [Below.heap_alloc _ _ _ (by simp <;> omega)]
    have := heap_alloc_new w (.cells #[.int .i64 p, .int .i64 q, .int .i64 r] 23 (0, 0))
    simpa using this
  have X4 : W1.heap[w.heap.size + 1]? = some (.cells #[.slice none 0 0, .bool false, .slice none 0 0, .bool false, .slice none 0 0] 30 (0, 0)) := by
    rw [hW1]
    rw [Below.heap_alloc _ _ _ (by simp <;> omega)]
    have := heap_alloc_new (w.alloc (.cells #[.int .i64 p, .int .i64 q, .int .i64 r] 23)) (.cells #[.slice none 0 0, .bool false, .slice none 0 0, .bool false, .slice none 0 0] 30 (0, 0))
    simpa using this
  have X5 : W1.heap[w.heap.size + 1 + 1]? = some (.cells #[.bool false, .slice none 0 0, .bool false, .slice none 0 0, .slice none 0 0] 34 (0, 0)) := by
    rw [hW1]
    have := heap_alloc_new ((w.alloc (.cells #[.int .i64 p, .int .i64 q, .int .i64 r] 23)).alloc (.cells #[.slice none 0 0, .bool false, .slice none 0 0, .bool false, .slice none 0 0] 30)) (.cells #[.bool false, .slice none 0 0, .bool false, .slice none 0 0, .slice none 0 0] 34 (0, 0))
    simpa using this
  have N4 : NBlk W1 (w.heap.size + 1) 1 (fun _ => .zero) := ⟨_, X4, rfl, by simp [Value.oneCell'], fun j hj => by
    obtain rfl : j = 0 := by omega
    exact ⟨_, _, _, _, _, _, _, _, _, _, _, rfl, rfl, rfl, rfl, rfl, IsNum.zero _⟩⟩
  have N5 : QBlk W1 (w.heap.size + 1 + 1) 1 (fun _ => False) (fun _ => .zero) := ⟨_, X5, rfl, by simp [Value.oneCell'], fun j hj => by
    obtain rfl : j = 0 := by omega
    exact ⟨_, _, _, _, _, _, _, _, _, _, _, rfl, rfl, rfl, rfl, rfl, fun h => h.elim⟩⟩
  clear hW1 X4 X5
  refine region_lin [.val (kNum (.int 2)), .val (kQ (.int 2)), .box 30 zNum, .box 34 zQ, .put 2 0, .put 3 1]
    (by kernel_rfl) (by kernel_rfl) (by kernel_rfl) (by kernel_rfl) (by kernel_rfl) ⟨stab_num _, stab_q _, trivial⟩ (by simp) ⟨?_, ?_, alloc_num, alloc_q, store_num _, store_q _, trivial⟩ ?_
  · intro ts W hb hB hp; intro K hK; simp only [fillT, Nat.zero_add, Nat.reduceAdd, sA, sB, sC] at hK ⊢; have HK := hid hK; clear hK hp; refine ⟨?_⟩; go_simp; refine (HI.out W).mono ?_; rintro e W9 ⟨r9, rfl, hr9, hb9⟩; exact HK.out _ _ hr9 hb9
  · intro ts W hb hB hp; intro K hK; simp only [fillT, Nat.zero_add, Nat.reduceAdd, sA, sB, sC] at hK ⊢; have HK := hid hK; clear hK hp; refine ⟨?_⟩; go_simp; refine (HW.out W).mono ?_; rintro e W9 ⟨r9, rfl, hr9, hb9⟩; exact HK.out _ _ hr9 hb9
  intro ts W2 hb2 hh hap
  obtain ⟨gt, e2, lo2, N2⟩ := (held_box (x := .int 2) (hh 2 (by simp)) rfl (hh 4 (by simp)) rfl (hh 0 (by simp)) rfl).blk
  obtain ⟨gp, e3, lo3, N3⟩ := (held_boxQ (x := .int 2) (hh 3 (by simp)) rfl (hh 5 (by simp)) rfl (hh 1 (by simp)) rfl).blk
  simp only [fillT, Nat.zero_add, Nat.reduceAdd, sA, sB, sC, e2, e3]
  clear hh hap e2 e3
  generalize ts 0 = u0_W2 at *
  generalize ts 1 = u1_W2 at *
  clear ts
  have hz1 : w.heap.size + 1 + 1 < W1.heap.size := N5.lt
  have HF := hid (show Four w.heap.size w #[.int .i64 p, .int .i64 q, .int .i64 r] (w.heap.size + 1) (w.heap.size + 1 + 1) gt gp (.int 2) (.int 2) W2 from ⟨by omega, by omega, by omega, by omega, by omega, by omega, N4.below hb2, N5.below hb2, N2, N3, below_trans B1 hb2, (hb2.block _ (by omega)).trans X2⟩)
  have S2 := hid (show Sz (.int 2) 2 from Sz.int (by decide +kernel) (by omega))
  have S3 := hid (sz_of (p := 1) (q := 0) (r := 2) (by omega) (by omega) (by omega) (by omega) (by omega) (by omega))
  generalize hg4 : w.heap.size + 1 = g4 at *
  generalize hg5 : g4 + 1 = g5 at *
  clear N2 N3 N4 N5 X2 hb2 B1 hz1 lo2 lo3 hg4 hg5 ws hn3
  go_upto_if 17 with fail
  go_cut [6] from 16 to 23 (fun v6 wx => ∃ (n : Nat) (T : Cx), v6 = .int .i64 (n : Int) ∧ n < 1200 ∧ Sz T 2 ∧ Four w.heap.size w #[.int .i64 p, .int .i64 q, .int .i64 r] g4 g5 gt gp T T wx)
  case first =>
    by_cases hneg : n0 < 0
    · have wneg : IntKind.i64.wrap (-n0) = -n0 := wrap_sm (by omega) (by omega)
      go_upto_region 5 with fail
      refine region_last2A [.val (kIs (.agg #[.int .i64 1, .int .i64 0, .int .i64 2])), .val (kNum (ofR 1 0 2)), .val (kIs (.agg #[.int .i64 1, .int .i64 0, .int .i64 2])), .val (kQ (ofR 1 0 2))]
        ?fl1 ?hfl1 (by kernel_rfl) (by kernel_rfl) (by kernel_rfl) (by kernel_rfl) (by kernel_rfl) ⟨Stab.b (stab_is _), Stab.b (stab_num _), Stab.b (stab_is _), Stab.b (stab_q _), trivial⟩ (by simp) (o1 := _) (o2 := _) rfl rfl (by kernel_rfl) (by kernel_rfl) ⟨?_, ?_, ?_, ?_, trivial⟩ ?_
      case hfl1 => intro ts; simp only [fillT, Nat.zero_add, Nat.reduceAdd, sA, sB, sC]; rfl
      · intro ts W a ha hb hB hp; intro K hK; have HK := hid hK; clear hK; refine ⟨?_⟩; go_simp; exact HK.out _ _ rfl rfB
      · intro ts W a ha hb hB hp; have h0 : ts 0 = _ := hp 0 (by kernel_rfl); intro K hK; have e0 : a.eval (.tmp 20) = ts 0 := (ha 20).trans (by kernel_rfl); refine ⟨wp_callf rfl (xs := #[.agg #[.int .i64 1, .int .i64 0, .int .i64 2]]) (by simp only [List.map_toArray, List.map_cons, List.map_nil, e0, h0]) (fun w => by kernel_rfl) ?_⟩; refine (HO.out W (below_trans HF.out.bel hb)).mono ?_; rintro e W9 ⟨r9, rfl, hr9, hb9⟩; exact ⟨_, rfl, hK _ _ hr9 hb9⟩
      · intro ts W a ha hb hB hp; intro K hK; have HK := hid hK; clear hK; refine ⟨?_⟩; go_simp; exact HK.out _ _ rfl rfB
      · intro ts W a ha hb hB hp; have h2 : ts 2 = _ := hp 2 (by kernel_rfl); intro K hK; have e2 : a.eval (.tmp 22) = ts 2 := (ha 22).trans (by kernel_rfl); refine ⟨wp_callf rfl (xs := #[.agg #[.int .i64 1, .int .i64 0, .int .i64 2]]) (by simp only [List.map_toArray, List.map_cons, List.map_nil, e2, h2]) (fun w => by kernel_rfl) ?_⟩; refine (HR.out W).mono ?_; rintro e W9 ⟨r9, rfl, hr9, hb9⟩; exact ⟨_, rfl, hK _ _ hr9 hb9⟩
      intro ts W5 a ha hb5 hh K hK
      have hx := held_num (hh 1 (by simp)) rfl
      have hq := held_q (hh 3 (by simp)) rfl
      have ex : a.eval (.tmp 21) = ts 1 := (ha 21).trans (by kernel_rfl)
      have eq : a.eval (.tmp 23) = ts 3 := (ha 23).trans (by kernel_rfl)
      have HK := hid hK
      clear hK hh
      refine four_tp rfl rfl rfl rfl ((ha 7).trans (by kernel_rfl)) ((ha 8).trans (by kernel_rfl)) (by rw [ex]; exact hx) (by rw [eq]; exact hq) (HF.out.below hb5) (fun W6 hm => HK.out _ ?_)
      clear ha ex eq hx hq
      dsimp only
      have KM6 := hid hm
      clear hm hb5 HK
      generalize ts = us at *
      go_wp2
      go_meet
      exact ⟨(-n0).toNat, ofR 1 0 2, by (rw [Int.toNat_of_nonneg (by omega)]), by omega, S3.out, KM6.out⟩
    · go_wp2
      go_meet
      exact ⟨n0.toNat, .int 2, by (rw [Int.toNat_of_nonneg (by omega)]), by omega, S2.out, HF.out⟩
  case rest =>
    clear HF
    obtain ⟨n, T, rfl, hn, hT2, hF⟩ := hcut
    have HF := hid hF
    have HT2 := hid hT2
    clear hF hT2 wn hn1 hn2 HI HW HO HR S2 S3
    go_upto_region 6 with fail
    refine region_lin [.val (kIs (.agg #[.int .i64 p, .int .i64 q, .int .i64 r])), .val (kNum (X0)), .val (kIs (.agg #[.int .i64 p, .int .i64 q, .int .i64 r])), .val (kQ (X0)), .box 30 zNum, .box 34 zQ, .put 4 1, .put 5 3]
      (by kernel_rfl) (by kernel_rfl) (by kernel_rfl) (by kernel_rfl) (by kernel_rfl) ⟨stab_is _, stab_num _, stab_is _, stab_q _, trivial⟩ (by simp) ⟨?_, ?_, ?_, ?_, alloc_num, alloc_q, store_num _, store_q _, trivial⟩ ?_
    · intro ts W hb hB hp; intro K hK; simp only [fillT, Nat.zero_add, Nat.reduceAdd, sA, sB, sC] at hK ⊢; have HK := hid hK; clear hK hp; obtain ⟨q0, q1, q2⟩ := rat_cells ((hb.block _ HF.out.zlt).trans HF.out.rat); refine ⟨?_⟩; refine wp_load_rat rfl rfl q0 q1 q2 ?_; exact HK.out _ _ rfl rfB
    · intro ts W hb hB hp; have h0 : ts 0 = _ := hp 0 (by kernel_rfl); intro K hK; simp only [fillT, Nat.zero_add, Nat.reduceAdd, sA, sB, sC, h0] at hK ⊢; have HK := hid hK; clear hK hp; refine ⟨?_⟩; go_simp; refine (HX.out W (below_trans HF.out.bel hb)).mono ?_; rintro e W9 ⟨r9, rfl, hr9, hb9⟩; exact HK.out _ _ hr9 hb9
    · intro ts W hb hB hp; intro K hK; simp only [fillT, Nat.zero_add, Nat.reduceAdd, sA, sB, sC] at hK ⊢; have HK := hid hK; clear hK hp; obtain ⟨q0, q1, q2⟩ := rat_cells ((hb.block _ HF.out.zlt).trans HF.out.rat); refine ⟨?_⟩; refine wp_load_rat rfl rfl q0 q1 q2 ?_; exact HK.out _ _ rfl rfB
    · intro ts W hb hB hp; have h2 : ts 2 = _ := hp 2 (by kernel_rfl); intro K hK; simp only [fillT, Nat.zero_add, Nat.reduceAdd, sA, sB, sC, h2] at hK ⊢; have HK := hid hK; clear hK hp; refine ⟨?_⟩; go_simp; refine (HY.out W).mono ?_; rintro e W9 ⟨r9, rfl, hr9, hb9⟩; exact HK.out _ _ hr9 hb9
    intro ts W2 hb2 hh hap
    obtain ⟨gx, e2, lo2, N2⟩ := (held_box (x := X0) (hh 4 (by simp)) rfl (hh 6 (by simp)) rfl (hh 1 (by simp)) rfl).blk
    obtain ⟨gy, e3, lo3, N3⟩ := (held_boxQ (x := X0) (hh 5 (by simp)) rfl (hh 7 (by simp)) rfl (hh 3 (by simp)) rfl).blk
    simp only [fillT, Nat.zero_add, Nat.reduceAdd, sA, sB, sC, e2, e3]
    clear hh hap e2 e3
    generalize ts 0 = u0_W3 at *
    generalize ts 1 = u1_W3 at *
    generalize ts 2 = u2_W3 at *
    generalize ts 3 = u3_W3 at *
    clear ts
    have H4 := HF.out.b4.lt
    have H5 := HF.out.b5.lt
    have H6 := HF.out.bt.lt
    have H7 := HF.out.bp.lt
    have M := HF.out.below hb2
    have HS0 := hid (show Six w.heap.size w g4 g5 gx gy gt gp X0 X0 T T W2 from ⟨M.l4, M.l5, by have := M.l4; omega, by have := M.l4; omega, Nat.le_of_lt M.lt, Nat.le_of_lt M.lp, by omega, M.n2, by omega, by omega, M.n5, by omega, M.b4, M.b5, N2, N3, M.bt, M.bp, M.bel⟩)
    clear M H4 H5 H6 H7 N2 N3 lo2 lo3 hb2 HF HX HY
    go_wp2_with fail
    go_loopw [6] (fun v6 wr => ScRel w g4 g5 gx gy gt gp v6 wr) (fun v6 _ => (intOf v6).toNat)
    case atStart => exact ⟨n, 2, X0, T, rfl, by omega, by omega, by omega, HSX.out.mono (by omega), HT2.out.mono (by omega), HS0.out⟩
    case round =>
      clear HS0 HT2 HSX hn
      obtain ⟨n, m, X, T, rfl, hnm, hm1, hm2, hX, hT1, hS⟩ := hrel
      have HS := hid hS
      have KX := hid hX
      have KT := hid hT1
      clear hS hX hT1
      have HTW := hid (fun W (hb : Below w.heap.size w W) => HT.out.below hb)
      by_cases hpos : 0 < n
      · obtain ⟨hh1, hh2⟩ := half_step' hnm hpos
        have hlt2 : n < 4096 := Nat.lt_of_le_of_lt (Nat.le_mul_of_pos_right n hm1) hnm
        have rn : ((n : Nat) : Int).tmod 2 = ((n % 2 : Nat) : Int) := rem_nat' n 2
        have qn : ((n : Nat) : Int).tdiv 2 = ((n / 2 : Nat) : Int) := quo_nat' n 2
        have wr1 : IntKind.i64.wrap ((n % 2 : Nat) : Int) = ((n % 2 : Nat) : Int) := wrap_sm (by omega) (by omega)
        have wr2 : IntKind.i64.wrap ((n / 2 : Nat) : Int) = ((n / 2 : Nat) : Int) := wrap_sm (by omega) (by omega)
        have hd0 : (0 : Int) < (n : Int) := by omega
        have HNM := hid (And.intro hh1 (And.intro hh2 (And.intro hm1 hm2)))
        clear hh1 hh2 hnm
        obtain ⟨n2, hn2⟩ : ∃ n2, n2 = n / 2 := ⟨_, rfl⟩
        obtain ⟨rr, hrr⟩ : ∃ rr, rr = n % 2 := ⟨_, rfl⟩
        rw [← hn2] at qn wr2 HNM
        rw [← hrr] at rn wr1
        have hdec : n2 < n := by omega
        rcases (show rr = 1 ∨ rr = 0 by omega) with rfl | rfl
        · go_upto_region 10 with fail
          refine region_last2A [.val (kNum (X)), .val (kNum (T)), .val (kNum (X.mul T)), .val (kQ (X)), .val (kQ (T)), .val (kQ (X.mul T))]
            ?fl2 ?hfl2 (by kernel_rfl) (by kernel_rfl) (by kernel_rfl) (by kernel_rfl) (by kernel_rfl) ⟨Stab.b (stab_num _), Stab.b (stab_num _), Stab.b (stab_num _), Stab.b (stab_q _), Stab.b (stab_q _), Stab.b (stab_q _), trivial⟩ (by simp) (o1 := _) (o2 := _) rfl rfl (by kernel_rfl) (by kernel_rfl) ⟨?_, ?_, ?_, ?_, ?_, ?_, trivial⟩ ?_
          case hfl2 => intro ts; simp only [fillT, Nat.zero_add, Nat.reduceAdd, sA, sB, sC]; rfl
          · intro ts W a ha hb hB hp; intro K hK; exact ⟨wp_load_elem (k := 0) rfl ((ha 9).trans (by kernel_rfl)) (HS.out.bx.below hb) (by omega) fun v hv => hK v W hv rfB⟩
          · intro ts W a ha hb hB hp; intro K hK; exact ⟨wp_load_elem (k := 0) rfl ((ha 7).trans (by kernel_rfl)) (HS.out.bt.below hb) (by omega) fun v hv => hK v W hv rfB⟩
          · intro ts W a ha hb hB hp; have h0 : IsNum W (ts 0) (X) := hp 0 (by kernel_rfl); have h1 : IsNum W (ts 1) (T) := hp 1 (by kernel_rfl); intro K hK; have e0 : a.eval (.tmp 35) = ts 0 := (ha 35).trans (by kernel_rfl); have e1 : a.eval (.tmp 36) = ts 1 := (ha 36).trans (by kernel_rfl); refine ⟨wp_callf rfl (xs := #[ts 0, ts 1]) (by simp only [List.map_toArray, List.map_cons, List.map_nil, e0, e1]) (fun w => by kernel_rfl) ?_⟩; refine (mulN_any _ _ X T W h0 h1 (3 + 2 * m) (2 * m - 1) KX.out KT.out (by have := HNM.out; omega) (HTW.out W (below_trans HS.out.bel hb))).mono ?_; rintro e W9 ⟨r9, rfl, hr9, hb9⟩; exact ⟨_, rfl, hK _ _ hr9 hb9⟩
          · intro ts W a ha hb hB hp; intro K hK; exact ⟨wp_load_qe (k := 0) rfl ((ha 10).trans (by kernel_rfl)) (HS.out.b_y.below hb) (by omega) trivial fun v hv => hK v W hv rfB⟩
          · intro ts W a ha hb hB hp; intro K hK; exact ⟨wp_load_qe (k := 0) rfl ((ha 8).trans (by kernel_rfl)) (HS.out.bp.below hb) (by omega) trivial fun v hv => hK v W hv rfB⟩
          · intro ts W a ha hb hB hp; have h3 : IsQ W (ts 3) (X) := hp 3 (by kernel_rfl); have h4 : IsQ W (ts 4) (T) := hp 4 (by kernel_rfl); intro K hK; have e3 : a.eval (.tmp 38) = ts 3 := (ha 38).trans (by kernel_rfl); have e4 : a.eval (.tmp 39) = ts 4 := (ha 39).trans (by kernel_rfl); refine ⟨wp_callf rfl (xs := #[ts 3, ts 4]) (by simp only [List.map_toArray, List.map_cons, List.map_nil, e3, e4]) (fun w => by kernel_rfl) ?_⟩; refine (rMul_any _ _ X T W h3 h4 (3 + 2 * m) (2 * m - 1) KX.out KT.out (by have := HNM.out; omega)).mono ?_; rintro e W9 ⟨r9, rfl, hr9, hb9⟩; exact ⟨_, rfl, hK _ _ hr9 hb9⟩
          intro ts W5 a ha hb5 hh K hK
          have hx := held_num (hh 2 (by simp)) rfl
          have hq := held_q (hh 5 (by simp)) rfl
          have ex : a.eval (.tmp 37) = ts 2 := (ha 37).trans (by kernel_rfl)
          have eq : a.eval (.tmp 40) = ts 5 := (ha 40).trans (by kernel_rfl)
          have HK := hid hK
          clear hK hh
          refine six_xy rfl rfl rfl rfl ((ha 9).trans (by kernel_rfl)) ((ha 10).trans (by kernel_rfl)) (by rw [ex]; exact hx) (by rw [eq]; exact hq) (HS.out.below hb5) (fun W6 hm => HK.out _ ?_)
          clear ha ex eq hx hq
          dsimp only
          clear HS
          have HS := hid hm
          clear hm hb5 HK
          generalize ts = us at *
          have KX2 := hid (show Sz (X.mul T) (3 + 2 * (2 * m)) from (Sz.mul KX.out KT.out).mono (by omega))
          clear KX
          generalize X.mul T = X2 at *
          go_upto_region 11 with fail
          refine region_last2A [.val (kNum (T)), .val (kNum (T)), .val (kNum (T.mul T)), .val (kQ (T)), .val (kQ (T)), .val (kQ (T.mul T))]
            ?fl3 ?hfl3 (by kernel_rfl) (by kernel_rfl) (by kernel_rfl) (by kernel_rfl) (by kernel_rfl) ⟨Stab.b (stab_num _), Stab.b (stab_num _), Stab.b (stab_num _), Stab.b (stab_q _), Stab.b (stab_q _), Stab.b (stab_q _), trivial⟩ (by simp) (o1 := _) (o2 := _) rfl rfl (by kernel_rfl) (by kernel_rfl) ⟨?_, ?_, ?_, ?_, ?_, ?_, trivial⟩ ?_
          case hfl3 => intro ts; simp only [fillT, Nat.zero_add, Nat.reduceAdd, sA, sB, sC]; rfl
          · intro ts W a ha hb hB hp; intro K hK; exact ⟨wp_load_elem (k := 0) rfl ((ha 7).trans (by kernel_rfl)) (HS.out.bt.below hb) (by omega) fun v hv => hK v W hv rfB⟩
          · intro ts W a ha hb hB hp; intro K hK; exact ⟨wp_load_elem (k := 0) rfl ((ha 7).trans (by kernel_rfl)) (HS.out.bt.below hb) (by omega) fun v hv => hK v W hv rfB⟩
          · intro ts W a ha hb hB hp; have h0 : IsNum W (ts 0) (T) := hp 0 (by kernel_rfl); have h1 : IsNum W (ts 1) (T) := hp 1 (by kernel_rfl); intro K hK; have e0 : a.eval (.tmp 41) = ts 0 := (ha 41).trans (by kernel_rfl); have e1 : a.eval (.tmp 42) = ts 1 := (ha 42).trans (by kernel_rfl); refine ⟨wp_callf rfl (xs := #[ts 0, ts 1]) (by simp only [List.map_toArray, List.map_cons, List.map_nil, e0, e1]) (fun w => by kernel_rfl) ?_⟩; refine (mulN_any _ _ T T W h0 h1 (2 * m - 1) (2 * m - 1) KT.out KT.out (by have := HNM.out; omega) (HTW.out W (below_trans HS.out.bel hb))).mono ?_; rintro e W9 ⟨r9, rfl, hr9, hb9⟩; exact ⟨_, rfl, hK _ _ hr9 hb9⟩
          · intro ts W a ha hb hB hp; intro K hK; exact ⟨wp_load_qe (k := 0) rfl ((ha 8).trans (by kernel_rfl)) (HS.out.bp.below hb) (by omega) trivial fun v hv => hK v W hv rfB⟩
          · intro ts W a ha hb hB hp; intro K hK; exact ⟨wp_load_qe (k := 0) rfl ((ha 8).trans (by kernel_rfl)) (HS.out.bp.below hb) (by omega) trivial fun v hv => hK v W hv rfB⟩
          · intro ts W a ha hb hB hp; have h3 : IsQ W (ts 3) (T) := hp 3 (by kernel_rfl); have h4 : IsQ W (ts 4) (T) := hp 4 (by kernel_rfl); intro K hK; have e3 : a.eval (.tmp 44) = ts 3 := (ha 44).trans (by kernel_rfl); have e4 : a.eval (.tmp 45) = ts 4 := (ha 45).trans (by kernel_rfl); refine ⟨wp_callf rfl (xs := #[ts 3, ts 4]) (by simp only [List.map_toArray, List.map_cons, List.map_nil, e3, e4]) (fun w => by kernel_rfl) ?_⟩; refine (rMul_any _ _ T T W h3 h4 (2 * m - 1) (2 * m - 1) KT.out KT.out (by have := HNM.out; omega)).mono ?_; rintro e W9 ⟨r9, rfl, hr9, hb9⟩; exact ⟨_, rfl, hK _ _ hr9 hb9⟩
          intro ts W5 a ha hb5 hh K hK
          have hx := held_num (hh 2 (by simp)) rfl
          have hq := held_q (hh 5 (by simp)) rfl
          have ex : a.eval (.tmp 43) = ts 2 := (ha 43).trans (by kernel_rfl)
          have eq : a.eval (.tmp 46) = ts 5 := (ha 46).trans (by kernel_rfl)
          have HK := hid hK
          clear hK hh
          refine six_tp rfl rfl rfl rfl ((ha 7).trans (by kernel_rfl)) ((ha 8).trans (by kernel_rfl)) (by rw [ex]; exact hx) (by rw [eq]; exact hq) (HS.out.below hb5) (fun W6 hm => HK.out _ ?_)
          clear ha ex eq hx hq
          dsimp only
          have KM := hid hm
          clear hm hb5 HK
          generalize ts = us at *
          go_wp2
          go_roundw
          case rel => exact ⟨n2, 2 * m, X2, T.mul T, by (congr 1), HNM.out.1, by (have := HNM.out; omega), HNM.out.2.1, KX2.out, (Sz.mul KT.out KT.out).mono (by omega), KM.out⟩
          case measure => simp [intOf]; omega
        · go_upto_region 11 with fail
          refine region_last2A [.val (kNum (T)), .val (kNum (T)), .val (kNum (T.mul T)), .val (kQ (T)), .val (kQ (T)), .val (kQ (T.mul T))]
            ?fl4 ?hfl4 (by kernel_rfl) (by kernel_rfl) (by kernel_rfl) (by kernel_rfl) (by kernel_rfl) ⟨Stab.b (stab_num _), Stab.b (stab_num _), Stab.b (stab_num _), Stab.b (stab_q _), Stab.b (stab_q _), Stab.b (stab_q _), trivial⟩ (by simp) (o1 := _) (o2 := _) rfl rfl (by kernel_rfl) (by kernel_rfl) ⟨?_, ?_, ?_, ?_, ?_, ?_, trivial⟩ ?_
          case hfl4 => intro ts; simp only [fillT, Nat.zero_add, Nat.reduceAdd, sA, sB, sC]; rfl
          · intro ts W a ha hb hB hp; intro K hK; exact ⟨wp_load_elem (k := 0) rfl ((ha 7).trans (by kernel_rfl)) (HS.out.bt.below hb) (by omega) fun v hv => hK v W hv rfB⟩
          · intro ts W a ha hb hB hp; intro K hK; exact ⟨wp_load_elem (k := 0) rfl ((ha 7).trans (by kernel_rfl)) (HS.out.bt.below hb) (by omega) fun v hv => hK v W hv rfB⟩
          · intro ts W a ha hb hB hp; have h0 : IsNum W (ts 0) (T) := hp 0 (by kernel_rfl); have h1 : IsNum W (ts 1) (T) := hp 1 (by kernel_rfl); intro K hK; have e0 : a.eval (.tmp 41) = ts 0 := (ha 41).trans (by kernel_rfl); have e1 : a.eval (.tmp 42) = ts 1 := (ha 42).trans (by kernel_rfl); refine ⟨wp_callf rfl (xs := #[ts 0, ts 1]) (by simp only [List.map_toArray, List.map_cons, List.map_nil, e0, e1]) (fun w => by kernel_rfl) ?_⟩; refine (mulN_any _ _ T T W h0 h1 (2 * m - 1) (2 * m - 1) KT.out KT.out (by have := HNM.out; omega) (HTW.out W (below_trans HS.out.bel hb))).mono ?_; rintro e W9 ⟨r9, rfl, hr9, hb9⟩; exact ⟨_, rfl, hK _ _ hr9 hb9⟩
          · intro ts W a ha hb hB hp; intro K hK; exact ⟨wp_load_qe (k := 0) rfl ((ha 8).trans (by kernel_rfl)) (HS.out.bp.below hb) (by omega) trivial fun v hv => hK v W hv rfB⟩
          · intro ts W a ha hb hB hp; intro K hK; exact ⟨wp_load_qe (k := 0) rfl ((ha 8).trans (by kernel_rfl)) (HS.out.bp.below hb) (by omega) trivial fun v hv => hK v W hv rfB⟩
          · intro ts W a ha hb hB hp; have h3 : IsQ W (ts 3) (T) := hp 3 (by kernel_rfl); have h4 : IsQ W (ts 4) (T) := hp 4 (by kernel_rfl); intro K hK; have e3 : a.eval (.tmp 44) = ts 3 := (ha 44).trans (by kernel_rfl); have e4 : a.eval (.tmp 45) = ts 4 := (ha 45).trans (by kernel_rfl); refine ⟨wp_callf rfl (xs := #[ts 3, ts 4]) (by simp only [List.map_toArray, List.map_cons, List.map_nil, e3, e4]) (fun w => by kernel_rfl) ?_⟩; refine (rMul_any _ _ T T W h3 h4 (2 * m - 1) (2 * m - 1) KT.out KT.out (by have := HNM.out; omega)).mono ?_; rintro e W9 ⟨r9, rfl, hr9, hb9⟩; exact ⟨_, rfl, hK _ _ hr9 hb9⟩
          intro ts W5 a ha hb5 hh K hK
          have hx := held_num (hh 2 (by simp)) rfl
          have hq := held_q (hh 5 (by simp)) rfl
          have ex : a.eval (.tmp 43) = ts 2 := (ha 43).trans (by kernel_rfl)
          have eq : a.eval (.tmp 46) = ts 5 := (ha 46).trans (by kernel_rfl)
          have HK := hid hK
          clear hK hh
          refine six_tp rfl rfl rfl rfl ((ha 7).trans (by kernel_rfl)) ((ha 8).trans (by kernel_rfl)) (by rw [ex]; exact hx) (by rw [eq]; exact hq) (HS.out.below hb5) (fun W6 hm => HK.out _ ?_)
          clear ha ex eq hx hq
          dsimp only
          have KM := hid hm
          clear hm hb5 HK
          generalize ts = us at *
          go_wp2
          go_roundw
          case rel => exact ⟨n2, 2 * m, X, T.mul T, by (congr 1), HNM.out.1, by (have := HNM.out; omega), HNM.out.2.1, KX.out.mono (by omega), (Sz.mul KT.out KT.out).mono (by omega), KM.out⟩
          case measure => simp [intOf]; omega
      · have hd0 : ¬ (0 : Int) < (n : Int) := by omega
        go_upto_region 12 with fail
        have ne45 := apart_nq HS.out.b4 HS.out.b5
        have nex5 := apart_nq HS.out.bx HS.out.b5
        have ne4y := apart_nq HS.out.b4 HS.out.b_y
        refine region_freeL (In12 w.heap.size w gx gy X) (p12 g4 g5 X) (m12 g4 g5) (r12 g4 g5) ?fl12 ?hfl12
          (by kernel_rfl) (by kernel_rfl) (by kernel_rfl) (by kernel_rfl) (by kernel_rfl) ?_ (fun i j v W W' hij _ _ hr h => p12_keeps ne45 j v hij hr h) (fun i j W W' hij _ _ hr h => m12_keeps ne45 j hij hr h) (fun i W W' hr h => h.keeps hr HS.out.l4 HS.out.l5 (Ne.symm HS.out.n1) nex5 (Ne.symm ne4y) (Ne.symm HS.out.n4)) ⟨?_, ?_, ?_, ?_, trivial⟩ ?_
        case hfl12 => intro ts; simp only [fillT, Nat.zero_add, Nat.reduceAdd, sA, sB, sC]; rfl
        · intro W hW
          have hbW : Below wr.heap.size wr W := by
            rcases hW with rfl | rfl
            · exact Below.refl _ _
            · exact rfB.drew
          have M := HS.out.below hbW
          exact ⟨⟨M.bel, M.bx, M.b_y⟩, m12_start M.b4 M.b5⟩
        · intro ts W hI hm hp K hK; dsimp only at hK ⊢; exact ⟨wp_load_elem (k := 0) rfl rfl hI.2.1 (by omega) fun v hv => hK v W hv rfl⟩
        · intro ts W hI hm hp K hK; dsimp only at hK ⊢; exact ⟨wp_load_qe (k := 0) rfl rfl hI.2.2 (by omega) trivial fun v hv => hK v W hv rfl⟩
        · intro ts W hI hm hp K hK; have h0 : IsNum W (ts 0) X := hp 0 (by kernel_rfl); dsimp only at hK ⊢; exact ⟨wp_store_elem (k := 0) rfl rfl rfl (show NBlk W g4 1 (fun _ => .zero) from hm) (by omega) h0 fun wa ba xa ra => hK _ _ (ra.congr (upf_one _ _)) (show r12 g4 g5 2 W wa from ⟨ba, xa⟩)⟩
        · intro ts W hI hm hp K hK; have h1 : IsQ W (ts 1) X := hp 1 (by kernel_rfl); dsimp only at hK ⊢; exact ⟨wp_store_qe (k := 0) rfl rfl rfl (show QBlk W g5 1 (fun _ => False) (fun _ => .zero) from hm) (by omega) h1 fun wa ba xa ra => hK _ _ (QBlk.to ra fun j hj _ => ⟨.inr (by omega), upf_one _ _ j hj⟩) (show r12 g4 g5 3 W wa from ⟨ba, xa⟩)⟩
        · rintro ts W6 ⟨hmb, -, -⟩ hp
          have hm4 : NBlk W6 g4 1 (fun _ => X) := hp 2 (by simp)
          have hm5 : QBlk W6 g5 1 (fun _ => True) (fun _ => X) := hp 3 (by simp)
          dsimp only
          obtain ⟨v4, hv4, hn4⟩ := nblk_load hm4 (k := 0) (by omega)
          obtain ⟨v5, hv5, hn5⟩ := qblk_load hm5 (k := 0) (by omega) trivial
          have HR := hid (show RetXQ w (.returned (.tuple #[v4, v5])) W6 from ⟨X, v4, v5, KX.out.mono (by omega), rfl, hn4, hn5, hmb⟩)
          clear hp hm4 hm5 hmb hn4 hn5
          generalize ts = us at *
          rw [Nat.mul_zero] at hv4 hv5
          have hasA : ∀ (a : Addr) (W : World), (asAddr (.pointer (some a))).run Tryz.prog W = .ok a W := fun _ _ => rfl
          go_wp2
          refine bodyPost_ret (v := .tuple #[v4, v5]) (by simp [results, Tryz.results7, hv4, hv5, hasA]) rfl ?_
          exact HR.out
end Go.Proofs.YtccldiokpgjocaaGreatDoor
