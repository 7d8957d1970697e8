import Derived.Below
import Derived.Carry
import Derived.ChangeSame
import Derived.LaidMore
import Derived.Laws.CopyOwn
import Derived.Laws.CopyRow
import Derived.Lib.SmallJoins
import Derived.OpenShut
import Derived.ProofKit
import Derived.SevenTiedAt
import Derived.Stop.Joined
import Derived.Test.YtccldiokpgjocaaGreatDoorCards
import Derived.Test.YtccldiokpgjocaaGreatDoorRows
import Derived.Test.YtccldiokpgjocaaGreatDoorTie
import Derived.Test.YtccldiokpgjocaaGreatDoorR04
import Derived.Test.YtccldiokpgjocaaGreatDoorR14
set_option linter.unusedSimpArgs false
set_option linter.unusedVariables false
namespace Go.Proofs.YtccldiokpgjocaaGreatDoor
open Go.RowKit
set_option maxRecDepth 100000
theorem wp_load_rat {o : Oper} {a : Act} {w : World} {K : Act → World → Prop} {Q : Exit → Act → World → Prop} {x : Operand} (ho : o.op = .load 23 x) {b i : Nat} (hx : a.eval x = .pointer (some ⟨b, i, none⟩)) {r s t : Int}
    (h0 : w.cell? ⟨b, i, none⟩ = some (.int .i64 r)) (h1 : w.cell? ⟨b, i + 1, none⟩ = some (.int .i64 s)) (h2 : w.cell? ⟨b, i + 2, none⟩ = some (.int .i64 t))
    (hK : K (a.put o.dst (.agg #[.int .i64 r, .int .i64 s, .int .i64 t])) w) : o.wp Tryz.prog a w K Q := by
  have hl := run_loadCells_list (P := Tryz.prog) (w := w) ⟨b, i, none⟩ [.int .i64 r, .int .i64 s, .int .i64 t] (fun j v hv => by
    have hadd : (⟨b, i, none⟩ : Addr).add j = ⟨b, i + j, none⟩ := by unfold Addr.add; split <;> simp_all
    rw [hadd]
    match j, hv with
    | 0, hv => simp at hv; rw [← hv]; exact h0
    | 1, hv => simp at hv; rw [← hv]; exact h1
    | 2, hv => simp at hv; rw [← hv]; exact h2
    | j + 3, hv => simp at hv)
  have hinfo : (Tryz.prog.info? 23).map (·.size) = some 3 := by kernel_rfl
  cases hq : Tryz.prog.info? 23 with
  | none => rw [hq] at hinfo; cases hinfo
  | some i' =>
    have hs : i'.size = 3 := by rw [hq] at hinfo; simpa using hinfo
    have hagg : (isAgg 23).run Tryz.prog w = .ok true w := by
      unfold isAgg
      rw [Sem.run_bind, run_underlying Tryz.underlying23 w]
      rfl
    have hlv : (loadVar 23 ⟨b, i, none⟩).run Tryz.prog w = .ok (.agg #[.int .i64 r, .int .i64 s, .int .i64 t]) w := by
      simp only [List.length_cons, List.length_nil] at hl
      simp [loadVar, Sem.run_bind, hagg, sizeOf, typeInfo, hq, hs, hl]
    unfold Oper.wp execOp
    simp only [ho, hx, Instr.loadAt, Instr.sureAddr, Sem.run_bind, Sem.run_pure, Result.andThen_ok, hlv]
    exact hK
end Go.Proofs.YtccldiokpgjocaaGreatDoor
set_option linter.unusedSimpArgs false
set_option linter.unusedVariables false
namespace Go.Proofs.YtccldiokpgjocaaGreatDoor
open Go Go.ChangeShapes Go.WideShapes Go.ChangeAt Go.WideMaps Go.WideElems Go.RowKit Go.Joins
set_option maxRecDepth 100000
theorem own_knob : ownKnob Tryz.prog.godebug = none := by kernel_rfl
theorem prog_laid : laidOutB Tryz.prog = true := by kernel_rfl
section
variable {H : Type} {enc : TypeId × Value → H}
theorem trodAll_stays {sp : Nat → Bool} {W W' : World} (hb : Below W.heap.size W W') : ∀ {ts : List TypeId} {vs : List Value} {ds : List (DataW H)} {p : List MemPlace},
    (ts.all fun t => Tryz.prog.readableRec t && decide (t < Tryz.prog.types.size)) = true → DataW.TrodAll enc Tryz.prog W 0 (fun _ => true) true ts vs ds p → (∀ x ∈ p, x.block < W.heap.size) → (∀ x ∈ p, sp x.block = true) →
    DataW.TrodAll enc Tryz.prog W' 0 sp true ts vs ds p := by
  intro ts
  induction ts with
  | nil =>
    intro vs ds p _ h _ _
    obtain ⟨rfl, rfl, rfl⟩ := trodAll_nil h
    exact rfl
  | cons t ts ih =>
    intro vs ds p ht h hp hs
    obtain ⟨v, vs', d, ds', q, r, rfl, rfl, rfl, h1, h2⟩ := trodAll_cons h
    simp only [List.all_cons, Bool.and_eq_true, decide_eq_true_eq] at ht
    obtain ⟨⟨t1, t2⟩, t3⟩ := ht
    exact ⟨q, r, WideElems.Trod_stays prog_laid t1 t2 h1 (fun x hx => hb.same (hp x (List.mem_append_left _ hx))) (fun x hx => hs x (List.mem_append_left _ hx)), ih t3 h2 (fun x hx => hp x (List.mem_append_right _ hx)) (fun x hx => hs x (List.mem_append_right _ hx)), rfl⟩
theorem law_post {s : ChangeSpec} {fn : Func} {apart fresh handsOn again : Bool} {W W' : World} {args : Array Value} {ds gs : List (DataW H)} {before : List MemPlace} (hv : s.vars = []) (hr : fn.resultTypes = #[4])
    (ht : (fn.params.toList.all fun t => Tryz.prog.readableRec t && decide (t < Tryz.prog.types.size)) = true)
    (hfn : (s.fn H (ds ++ gs)).results = [.lit (.bool true)] ∧ (s.fn H (ds ++ gs)).args = ds ∧ (s.fn H (ds ++ gs)).vars = [])
    (hW : DataW.Whole enc Tryz.prog fn.params.toList s.vars apart W args.toList ds gs before) (hb : Below W.heap.size W W') : s.post enc Tryz.prog fn apart fresh handsOn again W args (.bool true) W' := by
  have hlt : ∀ p ∈ before, p.block < W.heap.size := fun p hp => hW.lt p hp
  have hWW := hW
  obtain ⟨p, q, hA, hV, rfl, hfz, hnd⟩ := hW
  rw [hv] at hV
  obtain ⟨rfl, rfl⟩ := trodVars_none hV
  rw [List.append_nil] at *
  obtain ⟨f1, f2, f3⟩ := hfn
  have hres : ∀ (b : Nat) (sp : Nat → Bool) (hd : Bool), DataW.TrodAll enc Tryz.prog W' b sp hd fn.resultTypes.toList ((Value.bool true).resultList fn.resultTypes.size) [.lit (.bool true)] [] := fun b sp hd => by
    rw [hr]
    exact trodAll_mk1 (shut_bool Tryz.underlying4 _)
  have hstay := fun (sp : Nat → Bool) (hs : ∀ x ∈ p, sp x.block = true) => trodAll_stays (sp := sp) hb ht hA hlt hs
  refine ⟨ds, [], p, [], p, [], by simpa using hWW, ?_, ?_, ?_, ?_, fun _ => ⟨?_, ?_⟩⟩
  · rw [List.append_nil, f1]; exact hres _ _ _
  · rw [List.append_nil, f2]; exact hstay _ fun x hx => by simpa using hlt x hx
  · rw [List.append_nil, f3, hv]; exact rfl
  · exact World.keptBut_mono (fun x hx => ⟨hx, .inr (.inl hx)⟩) (hb.frame (· ∈ p))
  · exact ok_one hr rfl (okWide_bool_mk Tryz.underlying4 _)
  · refine ⟨[.lit (.bool true)] ++ ds, [], [] ++ p, ⟨[] ++ p, [], trodAll_append (hstay _ fun _ _ => rfl) (hres _ _ _), by rw [hv]; exact rfl, by simp, ?_, ?_⟩, fun x hx _ => by simpa using hx⟩
    · intro b off hp
      have hin : MemPlace.cell b off ∈ p := by simpa using hp
      rw [hb.frozen (hlt _ hin)]
      exact hfz b off hin
    · intro ha
      simpa using hnd ha
end
theorem tab_named : Tryz.prog.globalNamed "math/bits.deBruijn32tab" = some 3 := by kernel_rfl
theorem tab_type : (Tryz.prog.globals[3]?).map (·.type) = some 183 := by kernel_rfl
theorem tab_cells8 : Tryz.prog.cellsOf 5 = 1 := by kernel_rfl
theorem tab_of_laid {W : World} (h : laidMetH Tryz.prog [("math/bits.deBruijn32tab", Rows.laid_math_bits_deBruijn32tab)] W) : Tab W := by
  rw [MakeChecks.laidMetH_plain _ _ _ (by kernel_rfl)] at h
  obtain ⟨ps, ⟨g0, t0, cs0, f0, p0, q0, hg0, ht0, hv0, hd0, -⟩, -, -⟩ := h
  obtain rfl := Option.some.inj (tab_named.symm.trans hg0)
  obtain rfl := Option.some.inj (tab_type.symm.trans ht0)
  obtain ⟨xs, m1, rfl, hx1, hlen, hn, hel⟩ := DataW.trod_array Tryz.underlying183 hd0
  rw [tab_cells8] at hel
  have hcell : ∀ k, W.cell? ⟨3, k, none⟩ = cs0[k]? := fun k => World.var?_cell tab_named hv0 k
  have hx2 := (Prod.mk.injEq _ _ _ _).mp hx1
  have hx3 := hx2.1
  unfold Rows.laid_math_bits_deBruijn32tab at hx3
  injection hx3 with hx3
  have key : ∀ k, k < 32 → cs0[k]? = some (.int .u8 ((Lib.deBruijn32tab.getD k 0 : Nat) : Int)) := fun k hk => by
    have h0 := hel k hk
    have hxk : xs[k]? = some xs[k] := List.getElem?_eq_getElem (by omega)
    rw [hxk] at h0
    obtain ⟨n, e1, e2, -⟩ := DataW.trod_int Tryz.underlying5 h0
    have e3 : (xs.map (·.1))[k]? = some (.lit (.int .u8 n)) := by rw [List.getElem?_map, hxk, Option.map_some, e2]
    rw [← hx3] at e3
    have e4 : cs0[k]? = some (.int .u8 n) := by
      have : (cs0.toList.drop (k * 1))[0]? = some (.int .u8 n) := by
        have h5 : ((cs0.toList.drop (k * 1)).take 1)[0]? = some (.int .u8 n) := by rw [e1]; rfl
        rwa [List.getElem?_take_of_lt (by omega)] at h5
      simpa using this
    rw [e4]
    have e5 : ∀ k, k < 32 → ∀ n : Int, ([DataW.lit (.int .u8 0), .lit (.int .u8 1), .lit (.int .u8 28), .lit (.int .u8 2), .lit (.int .u8 29), .lit (.int .u8 14), .lit (.int .u8 24), .lit (.int .u8 3), .lit (.int .u8 30), .lit (.int .u8 22), .lit (.int .u8 20), .lit (.int .u8 15), .lit (.int .u8 25), .lit (.int .u8 17), .lit (.int .u8 4), .lit (.int .u8 8), .lit (.int .u8 31), .lit (.int .u8 27), .lit (.int .u8 13), .lit (.int .u8 23), .lit (.int .u8 21), .lit (.int .u8 19), .lit (.int .u8 16), .lit (.int .u8 7), .lit (.int .u8 26), .lit (.int .u8 12), .lit (.int .u8 18), .lit (.int .u8 6), .lit (.int .u8 11), .lit (.int .u8 5), .lit (.int .u8 10), .lit (.int .u8 9)] : List (DataW Unit))[k]? = some (.lit (.int .u8 n)) → n = ((Lib.deBruijn32tab.getD k 0 : Nat) : Int) := by
      intro k hk n h
      match k, hk with
      | 0, _ | 1, _ | 2, _ | 3, _ | 4, _ | 5, _ | 6, _ | 7, _ | 8, _ | 9, _ | 10, _ | 11, _ | 12, _ | 13, _ | 14, _ | 15, _ | 16, _ | 17, _ | 18, _ | 19, _ | 20, _ | 21, _ | 22, _ | 23, _ | 24, _ | 25, _ | 26, _ | 27, _ | 28, _ | 29, _ | 30, _ | 31, _ => simp at h; rw [← h]; rfl
      | k + 32, hk => omega
    rw [e5 k hk n e3]
  refine ⟨?_, fun k hk => (hcell k).trans (key k hk)⟩
  have h0 := (hcell 0).trans (key 0 (by omega))
  exact World.block_lt_of_cell? W ⟨3, 0, none⟩ h0
end Go.Proofs.YtccldiokpgjocaaGreatDoor
