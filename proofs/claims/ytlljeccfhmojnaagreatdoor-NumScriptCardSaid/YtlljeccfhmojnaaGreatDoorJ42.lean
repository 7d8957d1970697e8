import Derived.Test.YtlljeccfhmojnaaGreatDoorJ37
import Derived.Test.YtlljeccfhmojnaaGreatDoorJ38
import Derived.Test.YtlljeccfhmojnaaGreatDoorJ40
import Derived.Test.YtlljeccfhmojnaaGreatDoorJ41
set_option linter.unusedSimpArgs false
set_option linter.unusedVariables false
namespace Go.Proofs.YtlljeccfhmojnaaGreatDoor
open Go.RowKit
set_option maxRecDepth 100000
theorem five_num : Five IsNum := ⟨fun h he => h.ext he, fun h => by
  obtain ⟨A, n, c, p, A', n', c', p', A'', n'', c'', a, b, d, rfl, -⟩ := h.parts
  exact ⟨_, rfl, rfl, by simp [Value.oneCell'], by simp [oddB]⟩⟩
theorem five_q : Five IsQ := ⟨fun h he => IsQ.ext h he, fun h => by
  obtain ⟨A, n, c, p, A', n', c', p', A'', n'', c'', a, b, d, rfl, -⟩ := h.parts
  exact ⟨_, rfl, rfl, by simp [Value.oneCell'], by simp [oddB]⟩⟩
theorem five_of {cs : Array Value} {n j : Nat} {v0 v1 v2 v3 v4 : Value} (hs : cs.size = 5 * n) (hj : j < n) (h0 : cs[5 * j]? = some v0) (h1 : cs[5 * j + 1]? = some v1) (h2 : cs[5 * j + 2]? = some v2) (h3 : cs[5 * j + 3]? = some v3) (h4 : cs[5 * j + 4]? = some v4) : five cs j = .agg #[v0, v1, v2, v3, v4] := by
  unfold five
  congr 1
  apply Array.ext_getElem?
  intro i
  match i with
  | 0 => rw [five_get hs hj (by omega)]; exact h0
  | 1 => rw [five_get hs hj (by omega)]; exact h1
  | 2 => rw [five_get hs hj (by omega)]; exact h2
  | 3 => rw [five_get hs hj (by omega)]; exact h3
  | 4 => rw [five_get hs hj (by omega)]; exact h4
  | i + 5 => rw [Array.getElem?_eq_none (by rw [five_size hs hj]; omega), Array.getElem?_eq_none (by simp)]
theorem NBlk.gl {W : World} {g n : Nat} {f : Nat → Cx} (h : NBlk W g n f) : GL 27 IsNum W g n n f := by
  obtain ⟨cs0, k1, -, ko⟩ := h.odd
  obtain ⟨cs, h1, h2, h3, h4⟩ := h
  rw [h1] at k1
  obtain rfl : cs = cs0 := by cases k1; rfl
  refine ⟨Nat.le_refl _, cs, h1, h2, h3, ko, fun j hj => ?_⟩
  obtain ⟨A, B, C, p, q, na, ca, nb, cb, nc, cc, a1, a2, a3, a4, a5, a6⟩ := h4 j hj
  rw [five_of h2 hj a1 a2 a3 a4 a5]
  exact a6
theorem QBlk.gl {W : World} {g n : Nat} {V : Nat → Prop} {f : Nat → Cx} (h : QBlk W g n V f) (hV : ∀ j, j < n → V j) : GL 34 IsQ W g n n f := by
  obtain ⟨cs0, k1, -, ko⟩ := h.odd
  obtain ⟨cs, h1, h2, h3, h4⟩ := h
  rw [h1] at k1
  obtain rfl : cs = cs0 := by cases k1; rfl
  refine ⟨Nat.le_refl _, cs, h1, h2, h3, ko, fun j hj => ?_⟩
  obtain ⟨A, B, C, p, q, na, ca, nb, cb, nc, cc, a1, a2, a3, a4, a5, a6⟩ := h4 j hj
  rw [five_of h2 hj a1 a2 a3 a4 a5]
  exact a6 (hV j hj)
theorem agg_num (W : World) : (isAgg 27).run Tryz.prog W = .ok true W := by
  unfold isAgg
  rw [Sem.run_bind, run_underlying Tryz.underlying27 W]
  rfl
theorem agg_q (W : World) : (isAgg 34).run Tryz.prog W = .ok true W := by
  unfold isAgg
  rw [Sem.run_bind, run_underlying Tryz.underlying34 W]
  rfl
theorem wp_load_gn {o : Oper} {a : Act} {W : World} {K : Act → World → Prop} {Q : Exit → Act → World → Prop} {x : Operand} (ho : o.op = .load 27 x) {g c n k : Nat} {F : Nat → Cx} (hx : a.eval x = .pointer (some ⟨g, 5 * k, none⟩)) (h : GL 27 IsNum W g c n F) (hk : k < n)
    (hK : ∀ v, IsNum W v (F k) → K (a.put o.dst v) W) : o.wp Tryz.prog a W K Q := wp_load_gl (agg_num W) (by kernel_rfl) ho hx h hk hK
theorem wp_load_gq {o : Oper} {a : Act} {W : World} {K : Act → World → Prop} {Q : Exit → Act → World → Prop} {x : Operand} (ho : o.op = .load 34 x) {g c n k : Nat} {F : Nat → Cx} (hx : a.eval x = .pointer (some ⟨g, 5 * k, none⟩)) (h : GL 34 IsQ W g c n F) (hk : k < n)
    (hK : ∀ v, IsQ W v (F k) → K (a.put o.dst v) W) : o.wp Tryz.prog a W K Q := wp_load_gl (agg_q W) (by kernel_rfl) ho hx h hk hK
def OpS (W : World) (A : Option Addr) (len : Nat) (f : Nat → Nat × Nat × Nat) : Prop := 0 < len → ∃ b off, A = some ⟨b, off, none⟩ ∧ b < W.heap.size ∧
  (∀ j, j < len → W.cell? ⟨b, off + 3 * j, none⟩ = some (.int .u8 ((f j).1 : Nat)) ∧ W.cell? ⟨b, off + 3 * j + 1, none⟩ = some (.int .u16 ((f j).2.1 : Nat)) ∧ W.cell? ⟨b, off + 3 * j + 2, none⟩ = some (.int .u16 ((f j).2.2 : Nat)))
def Op16 (f : Nat → Nat × Nat × Nat) : Prop := ∀ j, (f j).1 < 256 ∧ (f j).2.1 < 65536 ∧ (f j).2.2 < 65536
theorem OpS.below {B : Nat} {W W' : World} {A : Option Addr} {len : Nat} {f : Nat → Nat × Nat × Nat} (h : OpS W A len f) (hB : W.heap.size ≤ B) (hb : Below B W W') : OpS W' A len f := fun hl => by
  obtain ⟨b, off, hA, hlt, hc⟩ := h hl
  refine ⟨b, off, hA, Nat.lt_of_lt_of_le hlt hb.size, fun j hj => ?_⟩
  obtain ⟨c0, c1, c2⟩ := hc j hj
  have hlt' : b < B := by omega
  exact ⟨(hb.cell (p := ⟨b, _, none⟩) hlt').trans c0, (hb.cell (p := ⟨b, _, none⟩) hlt').trans c1, (hb.cell (p := ⟨b, _, none⟩) hlt').trans c2⟩
theorem OpS.cells {W : World} {b off len : Nat} {f : Nat → Nat × Nat × Nat} (h : OpS W (some ⟨b, off, none⟩) len f) {j : Nat} (hj : j < len) :
    W.cell? ⟨b, off + 3 * j, none⟩ = some (.int .u8 ((f j).1 : Nat)) ∧ W.cell? ⟨b, off + 3 * j + 1, none⟩ = some (.int .u16 ((f j).2.1 : Nat)) ∧ W.cell? ⟨b, off + 3 * j + 2, none⟩ = some (.int .u16 ((f j).2.2 : Nat)) := by
  obtain ⟨b', off', e, -, hc⟩ := h (by omega)
  injection e with e
  injection e with e1 e2
  subst e1; subst e2
  exact hc j hj
theorem wp_load_op {o : Oper} {a : Act} {w : World} {K : Act → World → Prop} {Q : Exit → Act → World → Prop} {x : Operand} (ho : o.op = .load 50 x) {b i : Nat} (hx : a.eval x = .pointer (some ⟨b, i, none⟩)) {v0 v1 v2 : Value}
    (h0 : w.cell? ⟨b, i, none⟩ = some v0) (h1 : w.cell? ⟨b, i + 1, none⟩ = some v1) (h2 : w.cell? ⟨b, i + 2, none⟩ = some v2)
    (hK : K (a.put o.dst (.agg #[v0, v1, v2])) w) : o.wp Tryz.prog a w K Q := by
  have hl := run_loadCells_list (P := Tryz.prog) (w := w) ⟨b, i, none⟩ [v0, v1, v2] (fun j v hv => by
    have hadd : (⟨b, i, none⟩ : Addr).add j = ⟨b, i + j, none⟩ := by unfold Addr.add; split <;> simp_all
    rw [hadd]
    match j, hv with
    | 0, hv => simp at hv; rw [← hv]; exact h0
    | 1, hv => simp at hv; rw [← hv]; exact h1
    | 2, hv => simp at hv; rw [← hv]; exact h2
    | j + 3, hv => simp at hv)
  have hinfo : (Tryz.prog.info? 50).map (·.size) = some 3 := by kernel_rfl
  cases hq : Tryz.prog.info? 50 with
  | none => rw [hq] at hinfo; cases hinfo
  | some i' =>
    have hs : i'.size = 3 := by rw [hq] at hinfo; simpa using hinfo
    have hagg : (isAgg 50).run Tryz.prog w = .ok true w := by
      unfold isAgg
      rw [Sem.run_bind, run_underlying Tryz.underlying50 w]
      rfl
    have hlv : (loadVar 50 ⟨b, i, none⟩).run Tryz.prog w = .ok (.agg #[v0, v1, v2]) w := by
      simp only [List.length_cons, List.length_nil] at hl
      simp [loadVar, Sem.run_bind, hagg, sizeOf, typeInfo, hq, hs, hl]
    unfold Oper.wp execOp
    simp only [ho, hx, Instr.loadAt, Instr.sureAddr, Sem.run_bind, Sem.run_pure, Result.andThen_ok, hlv]
    exact hK
def zOp : Array Value := #[.int .u8 0, .int .u16 0, .int .u16 0]
theorem alloc_op : AllocOk Tryz.prog 50 zOp := fun W => by
  simp [go_sem, zOp]
theorem store_opIs (r s t : Int) : StoreOk Tryz.prog 50 zOp (kIs (.agg #[.int .u8 r, .int .u16 s, .int .u16 t])) := ⟨by kernel_rfl, fun v W h => ⟨_, h, rfl, by simp [Value.oneCell']⟩⟩
theorem held_boxO {kl : List RK} {B : Nat} {ts : Nat → Value} {W : World} {b c k : Nat} {cs : Array Value} (h : Held kl B ts (fun _ => true) W b) (hb : rk kl b = .box 50 zOp) (h' : Held kl B ts (fun _ => true) W k) (hk : rk kl k = .put b c)
    (h2 : Held kl B ts (fun _ => true) W c) (hc : rk kl c = .val (kIs (.agg cs))) : ∃ g, ts b = .pointer (some ⟨g, 0, none⟩) ∧ B ≤ g ∧ g < W.heap.size ∧ W.heap[g]? = some (.cells cs 50 (0, 0)) := by
  have hx := held_is h2 hc
  unfold Held at h h'
  rw [hb] at h
  rw [hk] at h'
  simp only at h h'
  obtain ⟨g, h1, h3, h4, -⟩ := h
  obtain ⟨g', cs', T, z, e1, e2, e3, e4⟩ := h'
  rw [h1] at e1
  injection e1 with e1
  injection e1 with e1
  injection e1 with e1
  subst e1
  rw [hb] at e3
  injection e3 with e3 e5
  subst e3
  rw [e2] at hx
  injection hx with hx
  subst hx
  exact ⟨g, h1, h3, h4, e4⟩
theorem NumAt.blk {W : World} {v : Value} {lo : Nat} {x : Cx} (h : NumAt W v lo x) : ∃ g, v = .pointer (some ⟨g, 0, none⟩) ∧ lo ≤ g ∧ NBlk W g 1 (fun _ => x) := by
  obtain ⟨g, A, n, c, p, A', n', c', p', A'', n'', c'', h1, h2, h3, h4, h5⟩ := h
  exact ⟨g, h1, h2, _, h4, rfl, by simp [Value.oneCell'], fun j hj => by
    obtain rfl : j = 0 := by omega
    exact ⟨_, _, _, _, _, _, _, _, _, _, _, rfl, rfl, rfl, rfl, rfl, h5⟩⟩
theorem QAt.blk {W : World} {v : Value} {lo : Nat} {x : Cx} (h : QAt W v lo x) : ∃ g, v = .pointer (some ⟨g, 0, none⟩) ∧ lo ≤ g ∧ QBlk W g 1 (fun _ => True) (fun _ => x) := by
  obtain ⟨g, A, n, c, p, A', n', c', p', A'', n'', c'', h1, h2, h3, h4, h5⟩ := h
  exact ⟨g, h1, h2, _, h4, rfl, by simp [Value.oneCell'], fun j hj => by
    obtain rfl : j = 0 := by omega
    exact ⟨_, _, _, _, _, _, _, _, _, _, _, rfl, rfl, rfl, rfl, rfl, fun _ => h5⟩⟩
structure Mid (B : Nat) (W0 : World) (g9 g10 g11 g12 : Nat) (y z p : Cx) (W : World) : Prop where
  l9 : B ≤ g9
  l11 : B ≤ g11
  n9 : g9 ≠ g10
  n11 : g11 ≠ g12
  b9 : NBlk W g9 1 (fun _ => z)
  b10 : NBlk W g10 1 (fun _ => y)
  b11 : QBlk W g11 1 (fun _ => True) (fun _ => p)
  b12 : QBlk W g12 1 (fun _ => True) (fun _ => y)
  bel : Below B W0 W
theorem Mid.below {B : Nat} {W0 W W' : World} {g9 g10 g11 g12 : Nat} {y z p : Cx} (h : Mid B W0 g9 g10 g11 g12 y z p W) (hb : Below W.heap.size W W') : Mid B W0 g9 g10 g11 g12 y z p W' := by
  have := h.b9.lt
  exact ⟨h.l9, h.l11, h.n9, h.n11, h.b9.below hb, h.b10.below hb, h.b11.below hb, h.b12.below hb, h.bel.trans (hb.mono (by have := h.l9; omega))⟩
theorem apart_nq {W : World} {g g' n m : Nat} {V : Nat → Prop} {f f' : Nat → Cx} (h : NBlk W g n f) (h' : QBlk W g' m V f') : g ≠ g' := by
  rintro rfl
  obtain ⟨cs, h1, -⟩ := h
  obtain ⟨cs', h2, -⟩ := h'
  rw [h1] at h2
  injection h2 with h2
  injection h2 with _ h2
  exact absurd h2 (by decide)
theorem upf_one (f : Nat → Cx) (z : Cx) : ∀ j, j < 1 → upf f 0 z j = z := fun j hj => by
  obtain rfl : j = 0 := by omega
  exact upf_same _ _ _
section
variable {B : Nat} {W0 : World} {g9 g10 g11 g12 : Nat} {y x p z : Cx} {a : Act} {w : World} {K : Act → World → Prop} {Q : Exit → Act → World → Prop}
theorem store_x {o : Oper} {x1 y1 : Operand} (h1 : o.op = .store 27 x1 y1) (e1 : a.eval x1 = .pointer (some ⟨g9, 0, none⟩)) (v1 : IsNum w (a.eval y1) z) (hM : Mid B W0 g9 g10 g11 g12 y x p w)
    (hK : ∀ w', Ext w w' → Mid B W0 g9 g10 g11 g12 y z p w' → K (a.put o.dst undef) w') : o.wp Tryz.prog a w K Q :=
  wp_store_elem h1 (k := 0) e1 rfl hM.b9 (by omega) v1 fun wa ba xa ra =>
    hK wa xa ⟨hM.l9, hM.l11, hM.n9, hM.n11, ra.congr (upf_one _ _), hM.b10.but ba xa (Ne.symm hM.n9), hM.b11.but ba xa (Ne.symm (apart_nq hM.b9 hM.b11)), hM.b12.but ba xa (Ne.symm (apart_nq hM.b9 hM.b12)), ba.below hM.bel hM.l9⟩
theorem store_p {o : Oper} {x1 y1 : Operand} (h1 : o.op = .store 34 x1 y1) (e1 : a.eval x1 = .pointer (some ⟨g11, 0, none⟩)) (v1 : IsQ w (a.eval y1) z) (hM : Mid B W0 g9 g10 g11 g12 y x p w)
    (hK : ∀ w', Ext w w' → Mid B W0 g9 g10 g11 g12 y x z w' → K (a.put o.dst undef) w') : o.wp Tryz.prog a w K Q :=
  wp_store_qe h1 (k := 0) e1 rfl hM.b11 (by omega) v1 fun wa ba xa ra =>
    hK wa xa ⟨hM.l9, hM.l11, hM.n9, hM.n11, hM.b9.but ba xa (apart_nq hM.b9 hM.b11), hM.b10.but ba xa (apart_nq hM.b10 hM.b11), ra.to fun j hj _ => ⟨.inl trivial, upf_one _ _ j hj⟩, hM.b12.but ba xa (Ne.symm hM.n11), ba.below hM.bel hM.l11⟩
theorem two_stores {o1 o2 : Oper} {x1 y1 x2 y2 : Operand} (h1 : o1.op = .store 27 x1 y1) (h2 : o2.op = .store 34 x2 y2) (d1 : o1.dst = none) (d2 : o2.dst = none)
    (e1 : a.eval x1 = .pointer (some ⟨g9, 0, none⟩)) (e2 : a.eval x2 = .pointer (some ⟨g11, 0, none⟩)) (v1 : IsNum w (a.eval y1) z) (v2 : IsQ w (a.eval y2) z) (hM : Mid B W0 g9 g10 g11 g12 y x p w) (hK : ∀ w', Mid B W0 g9 g10 g11 g12 y z z w' → K a w') :
    Goes (o1.wp Tryz.prog a w (fun a' w' => o2.wp Tryz.prog a' w' K Q) Q) ∧ Goes (o2.wp Tryz.prog a w (fun a' w' => o1.wp Tryz.prog a' w' K Q) Q) := by
  have p1 : ∀ v, a.put o1.dst v = a := fun v => by rw [d1]; rfl
  have p2 : ∀ v, a.put o2.dst v = a := fun v => by rw [d2]; rfl
  refine ⟨⟨store_x h1 e1 v1 hM fun wa xa ma => ?_⟩, ⟨store_p h2 e2 v2 hM fun wa xa ma => ?_⟩⟩
  · rw [p1]
    refine store_p h2 e2 (IsQ.ext v2 xa) ma fun wb xb mb => ?_
    rw [p2]
    exact hK wb mb
  · rw [p2]
    refine store_x h1 e1 (v1.ext xa) ma fun wb xb mb => ?_
    rw [p1]
    exact hK wb mb
end
def rT (T : TypeId) (B0 B : Nat) (W W' : World) : Prop := Below W.heap.size W W' ∨ ∃ g, B0 ≤ g ∧ g < B ∧ (∃ cs, W.heap[g]? = some (.cells cs T (0, 0))) ∧ But W W' g ∧ Ext W W'
section
variable {T : TypeId} {B0 B : Nat} {W W' : World}
theorem rT.ext (h : rT T B0 B W W') : Ext W W' := by
  rcases h with h | ⟨g, -, -, -, -, h⟩
  · exact Ext.of_below h
  · exact h
theorem rT.block (h : rT T B0 B W W') {k : Nat} (hB : B ≤ k) (hk : k < W.heap.size) : W'.heap[k]? = W.heap[k]? := by
  rcases h with h | ⟨g, -, h1, -, h, -⟩
  · exact h.block _ hk
  · exact h.other k (by omega)
theorem rT.other (h : rT T B0 B W W') {k : Nat} {T' : TypeId} {cs : Array Value} (hk : W.heap[k]? = some (.cells cs T' (0, 0))) (hT : T ≠ T') : W'.heap[k]? = W.heap[k]? := by
  rcases h with h | ⟨g, -, h1, ⟨cs', hg⟩, h, -⟩
  · exact h.block _ (heap_ge_none hk)
  · refine h.other k fun e => hT ?_
    subst e
    rw [hk] at hg
    injection hg with hg
    injection hg with _ hg
    exact hg.symm
theorem rT.below {W0 : World} (h : rT T B0 B W W') (hb : Below B0 W0 W) (hB : B0 ≤ W.heap.size) : Below B0 W0 W' := by
  rcases h with h | ⟨g, h0, -, -, h, -⟩
  · exact hb.trans (h.mono hB)
  · exact h.below hb h0
theorem rT.size (h : rT T B0 B W W') : W.heap.size ≤ W'.heap.size := by
  rcases h with h | ⟨g, h0, -, -, h, -⟩
  · exact h.size
  · rw [h.size]; exact Nat.le_refl _
theorem GL.rT {T' : TypeId} {Is : World → Value → Cx → Prop} {g c n : Nat} {F : Nat → Cx} (h5 : Five Is) (h : GL T' Is W g c n F) (hr : rT T B0 B W W') (hT : T ≠ T') : GL T' Is W' g c n F := by
  obtain ⟨-, cs, h1, -⟩ := id h
  exact h.ext h5 hr.ext (hr.other h1 hT)
end
def GB (T : TypeId) (Is : World → Value → Cx → Prop) (B : Nat) (z : Cx) (v : Value) (W : World) : Prop := ∃ g vs, v = .slice (some ⟨g, 0, none⟩) 1 1 ∧ B ≤ g ∧ W.heap[g]? = some (.cells vs T (0, 0)) ∧ Is W (.agg vs) z
def GS (T : TypeId) (Is : World → Value → Cx → Prop) (B0 n : Nat) (F : Nat → Cx) (v : Value) (W : World) : Prop := ∃ g c, v = .slice (some ⟨g, 0, none⟩) n c ∧ B0 ≤ g ∧ GL T Is W g c n F
theorem GB.rT {T T' : TypeId} {Is : World → Value → Cx → Prop} {B0 B : Nat} {z : Cx} {v : Value} {W W' : World} (h5 : Five Is) (h : GB T' Is B z v W) (hr : rT T B0 B W W') : GB T' Is B z v W' := by
  obtain ⟨g, vs, h1, h2, h3, h4⟩ := h
  exact ⟨g, vs, h1, h2, (hr.block h2 (heap_ge_none h3)).trans h3, h5.ext h4 hr.ext⟩
theorem GS.rT {T T' : TypeId} {Is : World → Value → Cx → Prop} {B0 B n : Nat} {F : Nat → Cx} {v : Value} {W W' : World} (h5 : Five Is) (h : GS T' Is B0 n F v W) (hr : rT T B0 B W W') (hT : T ≠ T') : GS T' Is B0 n F v W' := by
  obtain ⟨g, c, h1, h2, h3⟩ := h
  exact ⟨g, c, h1, h2, h3.rT h5 hr hT⟩
def pG (B0 B n : Nat) (F : Nat → Cx) (z : Cx) (vl vm : Value) : Nat → Value → World → Prop
  | 0 => kIs vl
  | 1 => kNum z
  | 2 => GB 27 IsNum B z
  | 3 => GS 27 IsNum B0 (n + 1) (upf F n z)
  | 4 => kIs vm
  | 5 => kQ z
  | 6 => GB 34 IsQ B z
  | 7 => GS 34 IsQ B0 (n + 1) (upf F n z)
  | _ => fun _ _ => True
def mG (g9 g11 gl cl gm cm n : Nat) (F : Nat → Cx) (z : Cx) : Nat → World → Prop
  | 1 => fun W => NBlk W g9 1 (fun _ => z)
  | 3 => fun W => GL 27 IsNum W gl cl n F
  | 5 => fun W => QBlk W g11 1 (fun _ => True) (fun _ => z)
  | 7 => fun W => GL 34 IsQ W gm cm n F
  | _ => fun _ => True
def rG (B0 B : Nat) (i : Nat) : World → World → Prop := if i = 3 then rT 27 B0 B else if i = 7 then rT 34 B0 B else fun W W' => Below W.heap.size W W'
theorem rG.q {B0 B i : Nat} {W W' : World} (h : rG B0 B i W W') (hi : i ≠ 3) : rT 34 B0 B W W' := by
  unfold rG at h
  rw [if_neg hi] at h
  split at h
  · exact h
  · exact .inl h
theorem rG.n {B0 B i : Nat} {W W' : World} (h : rG B0 B i W W') (hi : i ≠ 7) : rT 27 B0 B W W' := by
  unfold rG at h
  by_cases h3 : i = 3
  · rw [if_pos h3] at h; exact h
  · rw [if_neg h3, if_neg hi] at h; exact .inl h
theorem rG.any {B0 B i : Nat} {W W' : World} (h : rG B0 B i W W') : ∃ T, rT T B0 B W W' := by
  by_cases hi : i = 3
  · exact ⟨_, h.n (by omega)⟩
  · exact ⟨_, h.q hi⟩
theorem pG_keeps {B0 B n : Nat} {F : Nat → Cx} {z : Cx} {vl vm : Value} (i j : Nat) (v : Value) (W W' : World) (hij : i ≠ j) (hr : rG B0 B i W W') (h : pG B0 B n F z vl vm j v W) : pG B0 B n F z vl vm j v W' := by
  obtain ⟨T, ha⟩ := hr.any
  match j, hij, h with
  | 0, _, h => exact h
  | 1, _, h => exact IsNum.ext h ha.ext
  | 2, _, h => exact GB.rT five_num h ha
  | 3, hij, h => exact GS.rT five_num h (hr.q hij) (by decide)
  | 4, _, h => exact h
  | 5, _, h => exact IsQ.ext h ha.ext
  | 6, _, h => exact GB.rT five_q h ha
  | 7, hij, h => exact GS.rT five_q h (hr.n hij) (by decide)
  | _ + 8, _, _ => exact trivial
theorem mG_keeps {B0 B g9 g11 gl cl gm cm n : Nat} {F : Nat → Cx} {z : Cx} (l9 : B ≤ g9) (l11 : B ≤ g11) (i j : Nat) (W W' : World) (hij : i ≠ j) (hr : rG B0 B i W W') (h : mG g9 g11 gl cl gm cm n F z j W) : mG g9 g11 gl cl gm cm n F z j W' := by
  obtain ⟨T, ha⟩ := hr.any
  match j, hij, h with
  | 0, _, _ => exact trivial
  | 1, _, h => exact NBlk.ext h ha.ext (ha.block l9 (NBlk.lt h))
  | 2, _, _ => exact trivial
  | 3, hij, h => exact GL.rT five_num h (hr.q hij) (by decide)
  | 4, _, _ => exact trivial
  | 5, _, h => exact QBlk.ext h ha.ext (ha.block l11 (QBlk.lt h))
  | 6, _, _ => exact trivial
  | 7, hij, h => exact GL.rT five_q h (hr.n hij) (by decide)
  | _ + 8, _, _ => exact trivial
theorem mG_start {g9 g11 gl cl gm cm n : Nat} {F : Nat → Cx} {z : Cx} {W : World} (h1 : NBlk W g9 1 (fun _ => z)) (h3 : GL 27 IsNum W gl cl n F) (h5 : QBlk W g11 1 (fun _ => True) (fun _ => z)) (h7 : GL 34 IsQ W gm cm n F) (j : Nat) : mG g9 g11 gl cl gm cm n F z j W :=
  match j with
  | 0 => trivial
  | 1 => h1
  | 2 => trivial
  | 3 => h3
  | 4 => trivial
  | 5 => h5
  | 6 => trivial
  | 7 => h7
  | _ + 8 => trivial
theorem rG_of {B0 B i : Nat} {W W' : World} (h3 : i ≠ 3) (h7 : i ≠ 7) (h : Below W.heap.size W W') : rG B0 B i W W' := by
  unfold rG
  rw [if_neg h3, if_neg h7]
  exact h
theorem gb_num (W : World) (v : Value) (z : Cx) (h : IsNum W v z) {B : Nat} (hB : B ≤ W.heap.size) : ∃ W', (Instr.buildSlice 44 1 #[(0, v)]).run Tryz.prog W = .ok (.slice (some ⟨W.heap.size, 0, none⟩) 1 1) W' ∧ Below W.heap.size W W' ∧ GB 27 IsNum B z (.slice (some ⟨W.heap.size, 0, none⟩) 1 1) W' := by
  obtain ⟨A, n, c, p, A', n', c', p', A'', n'', c'', -, -, -, rfl, -⟩ := h.parts
  have hb : Below W.heap.size W (W.alloc (.cells #[.slice A n c, .bool p, .slice A' n' c', .bool p', .slice A'' n'' c''] 27 (0, 0))) := below_alloc _ _
  exact ⟨_, by kernel_rfl, hb, _, _, rfl, hB, heap_alloc_new _ _, h.below hb⟩
theorem gb_q (W : World) (v : Value) (z : Cx) (h : IsQ W v z) {B : Nat} (hB : B ≤ W.heap.size) : ∃ W', (Instr.buildSlice 46 1 #[(0, v)]).run Tryz.prog W = .ok (.slice (some ⟨W.heap.size, 0, none⟩) 1 1) W' ∧ Below W.heap.size W W' ∧ GB 34 IsQ B z (.slice (some ⟨W.heap.size, 0, none⟩) 1 1) W' := by
  obtain ⟨A, n, c, p, A', n', c', p', A'', n'', c'', -, -, -, rfl, -⟩ := h.parts
  have hb : Below W.heap.size W (W.alloc (.cells #[.bool p, .slice A n c, .bool p', .slice A' n' c', .slice A'' n'' c''] 34 (0, 0))) := below_alloc _ _
  exact ⟨_, by kernel_rfl, hb, _, _, rfl, hB, heap_alloc_new _ _, h.below hb⟩
theorem app_num {W : World} {B0 B g c n : Nat} {F : Nat → Cx} {z : Cx} {u : Value} (h : GL 27 IsNum W g c n F) (h0 : B0 ≤ g) (hg : g < B) (hB : B ≤ W.heap.size) (hn : n < 1000000000) (hu : GB 27 IsNum B z u W) :
    ∃ v W', (∀ ty, (Builtin.append_ #[44, 44] ty #[.slice (some ⟨g, 0, none⟩) n c, u]).run Tryz.prog W = .ok v W') ∧ GS 27 IsNum B0 (n + 1) (upf F n z) v W' ∧ rT 27 B0 B W W' := by
  obtain ⟨g1, vs, rfl, -, k3, k4⟩ := hu
  obtain ⟨i, hi, hz, hs, hbt⟩ := info_num
  obtain ⟨-, cs, kc, -⟩ := id h
  by_cases hr : n < c
  · obtain ⟨W', h1, h2, h3, h4⟩ := gl_room (P := Tryz.prog) (t := 44) five_num Tryz.underlying44 hi hs h hr k3 k4
    exact ⟨_, W', h1, ⟨g, c, rfl, h0, h4⟩, .inr ⟨g, h0, hg, ⟨cs, kc⟩, h2, h3⟩⟩
  · obtain ⟨W', c', h1, h2, h4⟩ := gl_grow (P := Tryz.prog) (t := 44) five_num Tryz.underlying44 hi hs hz hbt rfl (by simp [zNum, Value.oneCell']) (by rfl) hn h hr k3 k4
    exact ⟨_, W', h1, ⟨_, c', rfl, by omega, h4⟩, .inl h2⟩
theorem app_q {W : World} {B0 B g c n : Nat} {F : Nat → Cx} {z : Cx} {u : Value} (h : GL 34 IsQ W g c n F) (h0 : B0 ≤ g) (hg : g < B) (hB : B ≤ W.heap.size) (hn : n < 1000000000) (hu : GB 34 IsQ B z u W) :
    ∃ v W', (∀ ty, (Builtin.append_ #[46, 46] ty #[.slice (some ⟨g, 0, none⟩) n c, u]).run Tryz.prog W = .ok v W') ∧ GS 34 IsQ B0 (n + 1) (upf F n z) v W' ∧ rT 34 B0 B W W' := by
  obtain ⟨g1, vs, rfl, -, k3, k4⟩ := hu
  obtain ⟨i, hi, hz, hs, hbt⟩ := info_q
  obtain ⟨-, cs, kc, -⟩ := id h
  by_cases hr : n < c
  · obtain ⟨W', h1, h2, h3, h4⟩ := gl_room (P := Tryz.prog) (t := 46) five_q Tryz.underlying46 hi hs h hr k3 k4
    exact ⟨_, W', h1, ⟨g, c, rfl, h0, h4⟩, .inr ⟨g, h0, hg, ⟨cs, kc⟩, h2, h3⟩⟩
  · obtain ⟨W', c', h1, h2, h4⟩ := gl_grow (P := Tryz.prog) (t := 46) five_q Tryz.underlying46 hi hs hz hbt rfl (by simp [zQ, Value.oneCell']) (by rfl) hn h hr k3 k4
    exact ⟨_, W', h1, ⟨_, c', rfl, by omega, h4⟩, .inl h2⟩
def p11 (g9 g11 : Nat) (x y : Cx) : Nat → Value → World → Prop
  | 0 => kNum x
  | 1 => kNum y
  | 2 => kNum y
  | 3 => kQ y
  | 4 => fun _ W => NBlk W g9 1 (fun _ => y)
  | 5 => fun _ W => QBlk W g11 1 (fun _ => True) (fun _ => y)
  | _ => fun _ _ => True
def m11 (g9 g11 : Nat) (x : Cx) : Nat → World → Prop
  | 0 => fun W => NBlk W g9 1 (fun _ => x)
  | 4 => fun W => NBlk W g9 1 (fun _ => x)
  | 5 => fun W => QBlk W g11 1 (fun _ => True) (fun _ => x)
  | _ => fun _ => True
def r11 (g9 g11 : Nat) (i : Nat) (W W' : World) : Prop := if i = 4 then But W W' g9 ∧ Ext W W' else if i = 5 then But W W' g11 ∧ Ext W W' else Below W.heap.size W W'
section
variable {g9 g11 i : Nat} {x y : Cx} {W W' : World}
theorem r11.ext (h : r11 g9 g11 i W W') : Ext W W' := by
  unfold r11 at h
  split at h
  · exact h.2
  · split at h
    · exact h.2
    · exact Ext.of_below h
theorem r11.b9 (h : r11 g9 g11 i W W') (hi : i ≠ 4) (ne : g9 ≠ g11) (hlt : g9 < W.heap.size) : W'.heap[g9]? = W.heap[g9]? := by
  unfold r11 at h
  rw [if_neg hi] at h
  split at h
  · exact h.1.other _ ne
  · exact h.block _ hlt
theorem r11.b11 (h : r11 g9 g11 i W W') (hi : i ≠ 5) (ne : g9 ≠ g11) (hlt : g11 < W.heap.size) : W'.heap[g11]? = W.heap[g11]? := by
  unfold r11 at h
  by_cases h4 : i = 4
  · rw [if_pos h4] at h; exact h.1.other _ (Ne.symm ne)
  · rw [if_neg h4, if_neg hi] at h; exact h.block _ hlt
theorem r11.oth (h : r11 g9 g11 i W W') {k : Nat} (h1 : k ≠ g9) (h2 : k ≠ g11) (hlt : k < W.heap.size) : W'.heap[k]? = W.heap[k]? := by
  unfold r11 at h
  split at h
  · exact h.1.other _ h1
  · split at h
    · exact h.1.other _ h2
    · exact h.block _ hlt
theorem r11.below {B : Nat} {W0 : World} (h : r11 g9 g11 i W W') (hb : Below B W0 W) (h9 : B ≤ g9) (h11 : B ≤ g11) (hB : B ≤ W.heap.size) : Below B W0 W' := by
  unfold r11 at h
  split at h
  · exact h.1.below hb h9
  · split at h
    · exact h.1.below hb h11
    · exact hb.trans (h.mono hB)
theorem r11_of (h4 : i ≠ 4) (h5 : i ≠ 5) (h : Below W.heap.size W W') : r11 g9 g11 i W W' := by
  unfold r11
  rw [if_neg h4, if_neg h5]
  exact h
theorem m11_start (h9 : NBlk W g9 1 (fun _ => x)) (h11 : QBlk W g11 1 (fun _ => True) (fun _ => x)) (j : Nat) : m11 g9 g11 x j W :=
  match j with
  | 0 => h9
  | 1 => trivial
  | 2 => trivial
  | 3 => trivial
  | 4 => h9
  | 5 => h11
  | _ + 6 => trivial
theorem p11_keeps (ne : g9 ≠ g11) (j : Nat) (v : Value) (hij : i ≠ j) (hr : r11 g9 g11 i W W') (h : p11 g9 g11 x y j v W) : p11 g9 g11 x y j v W' := by
  match j, hij, h with
  | 0, _, h => exact IsNum.ext h hr.ext
  | 1, _, h => exact IsNum.ext h hr.ext
  | 2, _, h => exact IsNum.ext h hr.ext
  | 3, _, h => exact IsQ.ext h hr.ext
  | 4, hij, h => exact NBlk.ext h hr.ext (hr.b9 hij ne (NBlk.lt h))
  | 5, hij, h => exact QBlk.ext h hr.ext (hr.b11 hij ne (QBlk.lt h))
  | _ + 6, _, _ => exact trivial
theorem m11_keeps {ops : Array Oper} (h4 : predB ops 4 0 = true) (ne : g9 ≠ g11) (j : Nat) (hij : i ≠ j) (hp : predB ops i j = false) (hr : r11 g9 g11 i W W') (h : m11 g9 g11 x j W) : m11 g9 g11 x j W' := by
  match j, hij, hp, h with
  | 0, _, hp, h => exact NBlk.ext h hr.ext (hr.b9 (fun e => by rw [e, h4] at hp; cases hp) ne (NBlk.lt h))
  | 1, _, _, _ => exact trivial
  | 2, _, _, _ => exact trivial
  | 3, _, _, _ => exact trivial
  | 4, hij, _, h => exact NBlk.ext h hr.ext (hr.b9 hij ne (NBlk.lt h))
  | 5, hij, _, h => exact QBlk.ext h hr.ext (hr.b11 hij ne (QBlk.lt h))
  | _ + 6, _, _, _ => exact trivial
end
end Go.Proofs.YtlljeccfhmojnaaGreatDoor
