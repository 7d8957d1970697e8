import Derived.Test.YtccldiokpgjocaaGreatDoorR22
import Derived.Test.YtccldiokpgjocaaGreatDoorR25
import Derived.Test.YtccldiokpgjocaaGreatDoorR31
set_option linter.unusedSimpArgs false
set_option linter.unusedVariables false
namespace Go.Proofs.YtccldiokpgjocaaGreatDoor
open Go.RowKit
set_option maxRecDepth 100000
def QBlk (W : World) (g n : Nat) (V : Nat → Prop) (f : Nat → Cx) : Prop := ∃ cs : Array Value, W.heap[g]? = some (.cells cs 34 (0, 0)) ∧ cs.size = 5 * n ∧ cs.all (·.oneCell') = true ∧
  ∀ j, j < n → ∃ A B C p q na ca nb cb nc cc, cs[5 * j]? = some (.bool p) ∧ cs[5 * j + 1]? = some (.slice A na ca) ∧ cs[5 * j + 2]? = some (.bool q) ∧ cs[5 * j + 3]? = some (.slice B nb cb) ∧ cs[5 * j + 4]? = some (.slice C nc cc) ∧
    (V j → IsQ W (.agg #[.bool p, .slice A na ca, .bool q, .slice B nb cb, .slice C nc cc]) (f j))
theorem QBlk.lt {W : World} {g n : Nat} {V : Nat → Prop} {f : Nat → Cx} (h : QBlk W g n V f) : g < W.heap.size := by
  obtain ⟨cs, h, -⟩ := h
  exact heap_ge_none h
theorem QBlk.ext {W W' : World} {g n : Nat} {V : Nat → Prop} {f : Nat → Cx} (h : QBlk W g n V f) (he : Ext W W') (hg : W'.heap[g]? = W.heap[g]?) : QBlk W' g n V f := by
  obtain ⟨cs, h1, h2, h3, h4⟩ := h
  refine ⟨cs, hg.trans h1, h2, h3, fun j hj => ?_⟩
  obtain ⟨A, B, C, p, q, na, ca, nb, cb, nc, cc, a1, a2, a3, a4, a5, a6⟩ := h4 j hj
  exact ⟨A, B, C, p, q, na, ca, nb, cb, nc, cc, a1, a2, a3, a4, a5, fun hV => (a6 hV).ext he⟩
theorem QBlk.below {W W' : World} {g n : Nat} {V : Nat → Prop} {f : Nat → Cx} (h : QBlk W g n V f) (hb : Below W.heap.size W W') : QBlk W' g n V f := h.ext (Ext.of_below hb) (hb.block _ h.lt)
theorem QBlk.odd {W : World} {g n : Nat} {V : Nat → Prop} {f : Nat → Cx} (h : QBlk W g n V f) : ∃ cs, W.heap[g]? = some (.cells cs 34 (0, 0)) ∧ cs.size = 5 * n ∧ oddB cs = true := by
  obtain ⟨cs, h1, h2, h3, h4⟩ := h
  refine ⟨cs, h1, h2, ?_⟩
  unfold oddB
  rw [List.all_eq_true]
  intro v hv
  obtain ⟨i, hi, rfl⟩ := List.getElem_of_mem hv
  have hi' : i < 5 * n := by simpa [h2] using hi
  obtain ⟨A, B, C, p, q, na, ca, nb, cb, nc, cc, a1, a2, a3, a4, a5, -⟩ := h4 (i / 5) (by omega)
  have hget : ∀ k u, cs[k]? = some u → i = k → cs.toList[i] = u := fun k u hu hk => by
    subst hk
    obtain ⟨hlt, hu⟩ := Array.getElem?_eq_some_iff.1 hu
    simpa using hu
  have hm : i % 5 = 0 ∨ i % 5 = 1 ∨ i % 5 = 2 ∨ i % 5 = 3 ∨ i % 5 = 4 := by omega
  rcases hm with hm | hm | hm | hm | hm
  · rw [hget _ _ a1 (by omega)]
  · rw [hget _ _ a2 (by omega)]
  · rw [hget _ _ a3 (by omega)]
  · rw [hget _ _ a4 (by omega)]
  · rw [hget _ _ a5 (by omega)]
theorem QBlk.but {W W' : World} {g n : Nat} {V : Nat → Prop} {f : Nat → Cx} (h : QBlk W g n V f) {g' : Nat} (hb : But W W' g') (he : Ext W W') (hg : g ≠ g') : QBlk W' g n V f := h.ext he (hb.other g hg)
theorem wp_load_qe {o : Oper} {a : Act} {w : World} {K : Act → World → Prop} {Q : Exit → Act → World → Prop} {x : Operand} (ho : o.op = .load 34 x)
    {g n k : Nat} {V : Nat → Prop} {f : Nat → Cx} (hx : a.eval x = .pointer (some ⟨g, 5 * k, none⟩)) (h : QBlk w g n V f) (hk : k < n) (hV : V k)
    (hK : ∀ v, IsQ w v (f k) → K (a.put o.dst v) w) : o.wp Tryz.prog a w K Q := by
  obtain ⟨cs, h1, h2, h3, h4⟩ := h
  obtain ⟨A, B, C, p, q, na, ca, nb, cb, nc, cc, a1, a2, a3, a4, a5, a6⟩ := h4 k hk
  have hl := run_loadCells_list (P := Tryz.prog) (w := w) ⟨g, 5 * k, none⟩ [.bool p, .slice A na ca, .bool q, .slice B nb cb, .slice C nc cc] (fun j v hv => by
    have hadd : (⟨g, 5 * k, none⟩ : Addr).add j = ⟨g, 5 * k + j, none⟩ := by unfold Addr.add; split <;> simp_all
    rw [hadd, cell_of_row w g _ cs _ (0, 0) h1]
    match j, hv with
    | 0, hv => simp at hv; rw [← hv]; exact a1
    | 1, hv => simp at hv; rw [← hv]; exact a2
    | 2, hv => simp at hv; rw [← hv]; exact a3
    | 3, hv => simp at hv; rw [← hv]; exact a4
    | 4, hv => simp at hv; rw [← hv]; exact a5
    | j + 5, hv => simp at hv)
  have hinfo : (Tryz.prog.info? 34).map (·.size) = some 5 := by kernel_rfl
  cases hq : Tryz.prog.info? 34 with
  | none => rw [hq] at hinfo; cases hinfo
  | some i =>
    have hs : i.size = 5 := by rw [hq] at hinfo; simpa using hinfo
    have hagg : (isAgg 34).run Tryz.prog w = .ok true w := by
      unfold isAgg
      rw [Sem.run_bind, run_underlying Tryz.underlying34 w]
      rfl
    have hlv : (loadVar 34 ⟨g, 5 * k, none⟩).run Tryz.prog w = .ok (.agg #[.bool p, .slice A na ca, .bool q, .slice B nb cb, .slice C nc cc]) w := by
      simp only [List.length_cons, List.length_nil] at hl
      simp [loadVar, Sem.run_bind, hagg, sizeOf, typeInfo, hq, hs, hl]
    unfold Oper.wp execOp
    simp only [ho, hx, Instr.loadAt, Instr.sureAddr, Sem.run_bind, Sem.run_pure, Result.andThen_ok, hlv]
    exact hK _ (a6 hV)
theorem wp_store_qe {o : Oper} {a : Act} {w : World} {K : Act → World → Prop} {Q : Exit → Act → World → Prop} {x y : Operand} (ho : o.op = .store 34 x y)
    {g n k : Nat} {V : Nat → Prop} {f : Nat → Cx} (hx : a.eval x = .pointer (some ⟨g, 5 * k, none⟩)) {v : Value} (hy : a.eval y = v) (h : QBlk w g n V f) (hk : k < n) {z : Cx} (hv : IsQ w v z)
    (hK : ∀ w', But w w' g → Ext w w' → QBlk w' g n (fun j => V j ∨ j = k) (upf f k z) → K (a.put o.dst undef) w') : o.wp Tryz.prog a w K Q := by
  obtain ⟨A, na, ca, p, B, nb, cb, q, C, nc, cc, ia, ib, id', rfl, -⟩ := hv.parts
  obtain ⟨cs0, hz, -, hodd⟩ := h.odd
  obtain ⟨cs, h1, h2, h3, h4⟩ := h
  rw [h1] at hz
  have he0 : cs0 = cs := by cases hz; rfl
  rw [he0] at hodd
  clear hz he0 cs0
  have hinfo : (Tryz.prog.info? 34).map (·.size) = some 5 := by kernel_rfl
  have hst := run_storeCells_at (P := Tryz.prog) g (5 * k) _ [.bool p, .slice A na ca, .bool q, .slice B nb cb, .slice C nc cc] 0 cs w h1 (by simp; omega) (by simp [Value.oneCell'])
  obtain ⟨cs', hcs⟩ : ∃ cs' : Array Value, cs' = (cs.toList.take (5 * k + 0) ++ [Value.bool p, .slice A na ca, .bool q, .slice B nb cb, .slice C nc cc] ++ cs.toList.drop (5 * k + 0 + [Value.bool p, .slice A na ca, .bool q, .slice B nb cb, .slice C nc cc].length)).toArray := ⟨_, rfl⟩
  rw [← hcs] at hst
  have hbut := But.setRow w g cs'
  have hext := hbut.ext h1 hodd
  have hsz : cs'.size = 5 * n := by rw [hcs]; simp; omega
  have hget : ∀ i, cs'[i]? = if i < 5 * k then cs[i]? else if i < 5 * k + 5 then [Value.bool p, .slice A na ca, .bool q, .slice B nb cb, .slice C nc cc][i - 5 * k]? else cs[i]? := fun i => by
    rw [hcs]
    have hl : (cs.toList.take (5 * k)).length = 5 * k := by simp; omega
    simp only [List.getElem?_toArray, Nat.add_zero]
    by_cases c1 : i < 5 * k
    · rw [if_pos c1, List.append_assoc, List.getElem?_append_left (by rw [hl]; exact c1), List.getElem?_take_of_lt c1]
      simp
    · rw [if_neg c1]
      by_cases c2 : i < 5 * k + 5
      · rw [if_pos c2, List.append_assoc, List.getElem?_append_right (by rw [hl]; omega), hl, List.getElem?_append_left (by simp; omega)]
      · rw [if_neg c2, List.getElem?_append_right (by simp [hl]; omega)]
        simp only [List.length_append, hl, List.length_cons, List.length_nil, List.getElem?_drop]
        rw [show 5 * k + (0 + 1 + 1 + 1 + 1 + 1) + (i - (5 * k + (0 + 1 + 1 + 1 + 1 + 1))) = i by omega]
        simp
  have hnew : QBlk (w.setRow g cs') g n (fun j => V j ∨ j = k) (upf f k z) := by
    refine ⟨cs', setRow_heap w g cs cs' _ _ h1, hsz, ?_, fun j hj => ?_⟩
    · rw [Array.all_eq_true]
      intro i hi
      have := hget i
      rw [Array.getElem?_eq_getElem hi] at this
      split at this
      · have hlt : i < cs.size := by omega
        rw [Array.getElem?_eq_getElem hlt] at this
        rw [Option.some.inj this]
        exact (Array.all_eq_true.1 h3) i hlt
      · split at this
        · rename_i c1 c2
          have hmm : i - 5 * k = 0 ∨ i - 5 * k = 1 ∨ i - 5 * k = 2 ∨ i - 5 * k = 3 ∨ i - 5 * k = 4 := by omega
          rcases hmm with e | e | e | e | e <;> (rw [e] at this; simp at this; rw [this]; rfl)
        · have hlt : i < cs.size := by omega
          rw [Array.getElem?_eq_getElem hlt] at this
          rw [Option.some.inj this]
          exact (Array.all_eq_true.1 h3) i hlt
    · by_cases hjk : j = k
      · subst hjk
        rw [upf_same]
        refine ⟨A, B, C, p, q, na, ca, nb, cb, nc, cc, ?_, ?_, ?_, ?_, ?_, fun _ => hv.ext hext⟩
        all_goals
          rw [hget, if_neg (by omega), if_pos (by omega)]
          simp [show ∀ m, 5 * j + m - 5 * j = m from fun m => by omega]
      · rw [upf_other _ _ hjk]
        obtain ⟨A', B', C', p', q', na', ca', nb', cb', nc', cc', a1, a2, a3, a4, a5, a6⟩ := h4 j hj
        have hsame : ∀ m, m < 5 → cs'[5 * j + m]? = cs[5 * j + m]? := fun m hm => by
          rw [hget]
          by_cases c1 : 5 * j + m < 5 * k
          · rw [if_pos c1]
          · rw [if_neg c1, if_neg (by omega)]
        exact ⟨A', B', C', p', q', na', ca', nb', cb', nc', cc', (hsame 0 (by omega)).trans a1, (hsame 1 (by omega)).trans a2, (hsame 2 (by omega)).trans a3, (hsame 3 (by omega)).trans a4, (hsame 4 (by omega)).trans a5, fun hV => (a6 (hV.resolve_right hjk)).ext hext⟩
  have hsv : (storeVar 34 ⟨g, 5 * k, none⟩ (.agg #[.bool p, .slice A na ca, .bool q, .slice B nb cb, .slice C nc cc])).run Tryz.prog w = .ok () (w.setRow g cs') := by
    cases hq : Tryz.prog.info? 34 with
    | none => rw [hq] at hinfo; cases hinfo
    | some i =>
      have hs : i.size = 5 := by rw [hq] at hinfo; simpa using hinfo
      simp [storeVar, sizeOf, typeInfo, hq, Value.cells, hs, hst]
  unfold Oper.wp execOp
  simp only [ho, hx, hy, Instr.storeAt, Instr.sureAddr, Sem.run_bind, Sem.run_pure, Result.andThen_ok, hsv]
  exact hK _ hbut hext hnew
theorem RetQ.alloc {w W : World} {x : Cx} {e : Ending} (h : RetQ w x e W) (o : Obj) : RetQ w x e (W.alloc o) := by
  obtain ⟨v, h1, h2, h3⟩ := h
  exact ⟨v, h1, h2.below (below_alloc W o), below_trans h3 (below_alloc W o)⟩
set_option maxHeartbeats 2000000 in
theorem rOf_any (p q r : Int) (w : World) (hp : -9223372036854775808 ≤ p) (hp' : p < 9223372036854775808) (hq : -9223372036854775808 ≤ q) (hq' : q < 9223372036854775808) (hr : -9223372036854775808 ≤ r) (hr' : r < 9223372036854775808) :
    Calls Tryz.prog 36 #[.agg #[.int .i64 p, .int .i64 q, .int .i64 r]] w (RetQ w (ofR p q r)) := by
  by_cases h0 : r = 0
  · subst h0
    have HN := hid (fun W => rNew_any p q 1 W hp hp' hq hq' (by omega) (by omega) (by omega))
    have hx : ofR p q 0 = .ratio p q 1 := rfl
    rw [hx]
    clear hp hp' hq hq' hr hr' hx
    go_enter Tryz.func36, Tryz.ntmps36
    go_wp2_with fail
    refine (HN.out _).mono ?_
    rintro e W7 ⟨v, rfl, hr7, hb7⟩
    obtain ⟨A1, n1, c1, p1, A2, n2, c2, p2, A3, n3, c3, a, b, d, rfl, -⟩ := hr7.parts
    obtain ⟨hc7, hf7, hz7⟩ := bcells hb7 (w.heap.size + 2) (by simp)
    have lt0 : w.heap.size < W7.heap.size := by omega
    have lt1 : w.heap.size + 1 < W7.heap.size := by omega
    go_wp2
    have B7 : Below w.heap.size w W7 := bel
    have NB : NumBox W7 (w.heap.size + 1) := NumBox.of hc7 (g := w.heap.size + 1) (by omega) (.nilQ (by simp [go_sem]) (by simp [go_sem]) (by simp [go_sem]) (by simp [go_sem]) (by simp [go_sem]))
    refine bodyPost_ret (v := .agg #[.bool p1, .slice A1 n1 c1, .bool p2, .slice A2 n2 c2, .slice A3 n3 c3]) (by simp [results, Tryz.results36]; exact run_loadQa NB lt1 _ _ _ _ _ _ _) rfl ?_
    exact (RetQ.box B7 (by omega) NB hr7 _ _ _ _ _).alloc _
  · have HN := hid (fun W => rNew_any p q r W hp hp' hq hq' hr hr' h0)
    have hx : ofR p q r = .ratio p q r := by unfold ofR; rw [if_neg h0]
    rw [hx]
    have hb0 : (r == 0) = false := by simpa using h0
    clear hp hp' hq hq' hr hr' hx h0
    go_enter Tryz.func36, Tryz.ntmps36
    go_wp2_with fail
    refine (HN.out _).mono ?_
    rintro e W7 ⟨v, rfl, hr7, hb7⟩
    obtain ⟨A1, n1, c1, p1, A2, n2, c2, p2, A3, n3, c3, a, b, d, rfl, -⟩ := hr7.parts
    obtain ⟨hc7, hf7, hz7⟩ := bcells hb7 (w.heap.size + 2) (by simp)
    have lt0 : w.heap.size < W7.heap.size := by omega
    have lt1 : w.heap.size + 1 < W7.heap.size := by omega
    go_wp2
    have B7 : Below w.heap.size w W7 := bel
    have NB : NumBox W7 (w.heap.size + 1) := NumBox.of hc7 (g := w.heap.size + 1) (by omega) (.nilQ (by simp [go_sem]) (by simp [go_sem]) (by simp [go_sem]) (by simp [go_sem]) (by simp [go_sem]))
    refine bodyPost_ret (v := .agg #[.bool p1, .slice A1 n1 c1, .bool p2, .slice A2 n2 c2, .slice A3 n3 c3]) (by simp [results, Tryz.results36]; exact run_loadQa NB lt1 _ _ _ _ _ _ _) rfl ?_
    exact (RetQ.box B7 (by omega) NB hr7 _ _ _ _ _).alloc _
end Go.Proofs.YtccldiokpgjocaaGreatDoor
