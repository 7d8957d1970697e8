import Derived.Laws.Append
import Derived.Laws.AppendOwn
import Derived.Test.YtlljeccfhmojnaaGreatDoorJ21
set_option linter.unusedSimpArgs false
set_option linter.unusedVariables false
namespace Go.Proofs.YtlljeccfhmojnaaGreatDoor
open Go.RowKit
set_option maxRecDepth 100000
def five (cs : Array Value) (j : Nat) : Value := .agg (cs.extract (5 * j) (5 * j + 5))
def GL (T : TypeId) (Is : World → Value → Cx → Prop) (W : World) (g c n : Nat) (F : Nat → Cx) : Prop := n ≤ c ∧ ∃ cs : Array Value, W.heap[g]? = some (.cells cs T (0, 0)) ∧ cs.size = 5 * c ∧ cs.all (·.oneCell') = true ∧ oddB cs = true ∧ ∀ j, j < n → Is W (five cs j) (F j)
structure Five (Is : World → Value → Cx → Prop) : Prop where
  ext : ∀ {W W' : World} {v : Value} {x : Cx}, Is W v x → Ext W W' → Is W' v x
  agg : ∀ {W : World} {v : Value} {x : Cx}, Is W v x → ∃ cs, v = .agg cs ∧ cs.size = 5 ∧ cs.all (·.oneCell') = true ∧ oddB cs = true
section
variable {T : TypeId} {Is : World → Value → Cx → Prop} {W W' : World} {g c n : Nat} {F : Nat → Cx}
theorem GL.lt (h : GL T Is W g c n F) : g < W.heap.size := by
  obtain ⟨-, cs, h, -⟩ := h
  exact heap_ge_none h
theorem GL.ext (h5 : Five Is) (h : GL T Is W g c n F) (he : Ext W W') (hg : W'.heap[g]? = W.heap[g]?) : GL T Is W' g c n F := by
  obtain ⟨hn, cs, h1, h2, h3, h4, h6⟩ := h
  exact ⟨hn, cs, hg.trans h1, h2, h3, h4, fun j hj => h5.ext (h6 j hj) he⟩
theorem GL.below (h5 : Five Is) (h : GL T Is W g c n F) (hb : Below W.heap.size W W') : GL T Is W' g c n F := h.ext h5 (Ext.of_below hb) (hb.block _ h.lt)
theorem five_get {cs : Array Value} {c k j : Nat} (hs : cs.size = 5 * c) (hk : k < c) (hj : j < 5) : (cs.extract (5 * k) (5 * k + 5))[j]? = cs[5 * k + j]? := by
  rw [Array.getElem?_extract, if_pos (by omega)]
theorem five_size {cs : Array Value} {c k : Nat} (hs : cs.size = 5 * c) (hk : k < c) : (cs.extract (5 * k) (5 * k + 5)).size = 5 := by
  rw [Array.size_extract]; omega
theorem odd_mem {cs : Array Value} (h : ∀ v ∈ cs.toList, ∃ ds : Array Value, oddB ds = true ∧ v ∈ ds.toList) : oddB cs = true := by
  unfold oddB
  rw [List.all_eq_true]
  intro v hv
  obtain ⟨ds, h1, h2⟩ := h v hv
  exact List.all_eq_true.1 h1 v h2
theorem one_mem {cs : Array Value} (h : ∀ v ∈ cs.toList, ∃ ds : Array Value, ds.all (·.oneCell') = true ∧ v ∈ ds.toList) : cs.all (·.oneCell') = true := by
  rw [Array.all_eq_true_iff_forall_mem]
  intro v hv
  obtain ⟨ds, h1, h2⟩ := h v (by simpa using hv)
  exact Array.all_eq_true_iff_forall_mem.1 h1 v (by simpa using h2)
theorem wp_load_gl {P : Program} {o : Oper} {a : Act} {K : Act → World → Prop} {Q : Exit → Act → World → Prop} {x : Operand} (hT : (isAgg T).run P W = .ok true W) (hz : (P.info? T).map (·.size) = some 5) (ho : o.op = .load T x)
    {k : Nat} (hx : a.eval x = .pointer (some ⟨g, 5 * k, none⟩)) (h : GL T Is W g c n F) (hk : k < n)
    (hK : ∀ v, Is W v (F k) → K (a.put o.dst v) W) : o.wp P a W K Q := by
  obtain ⟨hn, cs, h1, h2, h3, h4, h6⟩ := h
  have hkc : k < c := by omega
  have hsz := five_size h2 hkc
  have hfg := fun j hj => five_get (j := j) h2 hkc hj
  have h6k := h6 k hk
  unfold five at h6k
  generalize cs.extract (5 * k) (5 * k + 5) = es at hsz hfg h6k
  have hl := run_loadCells_list (P := P) (w := W) ⟨g, 5 * k, none⟩ es.toList (fun j v hv => by
    have hadd : (⟨g, 5 * k, none⟩ : Addr).add j = ⟨g, 5 * k + j, none⟩ := by unfold Addr.add; split <;> simp_all
    rw [hadd, cell_of_row W g _ cs _ (0, 0) h1]
    have hj : j < 5 := by
      have := (List.getElem?_eq_some_iff.1 hv).1
      rw [Array.length_toList, hsz] at this
      exact this
    rw [← hfg j hj]
    rwa [Array.getElem?_toList] at hv)
  cases hq : P.info? T with
  | none => rw [hq] at hz; cases hz
  | some i =>
    have hs : i.size = 5 := by rw [hq] at hz; simpa using hz
    have hlv : (loadVar T ⟨g, 5 * k, none⟩).run P W = .ok (.agg es) W := by
      simp only [Array.length_toList, hsz, Array.toArray_toList] at hl
      simp [loadVar, Sem.run_bind, hT, sizeOf, typeInfo, hq, hs, hl]
    unfold Oper.wp execOp
    simp only [ho, hx, Instr.loadAt, Instr.sureAddr, Sem.run_bind, Sem.run_pure, Result.andThen_ok, hlv]
    exact hK _ h6k
theorem wp_append {P : Program} {o : Oper} {a : Act} {K : Act → World → Prop} {Q : Exit → Act → World → Prop} {x y : Operand} {t : TypeId} (ho : o.op = .call ⟨.builtin .append, #[x, y], #[t, t]⟩) {v u r : Value} (hx : a.eval x = v) (hy : a.eval y = u)
    (hr : ∀ ty, (Builtin.append_ #[t, t] ty #[v, u]).run P W = .ok r W') (hK : K (a.put o.dst r) W') : o.wp P a W K Q := by
  unfold Oper.wp execOp
  simp only [ho, resolve, invoke, builtin, List.map_toArray, List.map_cons, List.map_nil, hx, hy, Sem.run_bind, Sem.run_pure, Result.andThen_ok, hr]
  exact hK
theorem gl_next {x : Cx} {cs rest vs : Array Value} (hsz : cs.size = 5 * n) (hv : vs.size = 5) (hIs : ∀ j, j < n → Is W (five cs j) (F j)) (hx : Is W (.agg vs) x) : ∀ j, j < n + 1 → Is W (five (cs ++ vs ++ rest) j) (upf F n x j) := fun j hj => by
  have e : five (cs ++ vs ++ rest) j = if j = n then .agg vs else five cs j := by
    split
    · next h =>
      subst h
      unfold five
      congr 1
      apply Array.ext_getElem?
      intro i
      rw [Array.getElem?_extract]
      split
      · rw [Array.append_assoc, Array.getElem?_append_right (by omega), Array.getElem?_append_left (by omega), hsz]
        congr 1; omega
      · rw [Array.getElem?_eq_none (by simp at *; omega)]
    · next h =>
      unfold five
      congr 1
      apply Array.ext_getElem?
      intro i
      rw [Array.getElem?_extract, Array.getElem?_extract]
      simp only [Array.size_append]
      by_cases hi : i < 5
      · rw [if_pos (by omega), if_pos (by omega), Array.append_assoc, Array.getElem?_append_left (by omega)]
      · rw [if_neg (by omega), if_neg (by omega)]
  rw [e]
  by_cases h : j = n
  · rw [if_pos h, h, upf_same]; exact hx
  · rw [if_neg h, upf_other _ _ h]; exact hIs j (by omega)
theorem one_app {a b : Array Value} (ha : a.all (·.oneCell') = true) (hb : b.all (·.oneCell') = true) : (a ++ b).all (·.oneCell') = true := by
  rw [Array.all_append, ha, hb]; rfl
theorem odd_app {a b : Array Value} (ha : oddB a = true) (hb : oddB b = true) : oddB (a ++ b) = true := by
  unfold oddB at *
  rw [Array.toList_append, List.all_append, ha, hb]; rfl
theorem one_sub {a b : Array Value} (ha : a.all (·.oneCell') = true) (h : ∀ v ∈ b.toList, v ∈ a.toList) : b.all (·.oneCell') = true := one_mem fun v hv => ⟨a, ha, h v hv⟩
theorem odd_sub {a b : Array Value} (ha : oddB a = true) (h : ∀ v ∈ b.toList, v ∈ a.toList) : oddB b = true := odd_mem fun v hv => ⟨a, ha, h v hv⟩
theorem zero_sub (z : Array Value) (h : 0 < z.size) (k : Nat) : ∀ v ∈ (Builtin.zeroCells z k).toList, v ∈ z.toList := fun v hv => by
  unfold Builtin.zeroCells at hv
  simp only [Array.toList_map, List.mem_map] at hv
  obtain ⟨i, -, rfl⟩ := hv
  have hlt : i % z.size < z.size := Nat.mod_lt _ h
  rw [getElem!_pos z _ hlt]
  exact Array.mem_toList_iff.2 (Array.getElem_mem hlt)
theorem gl_room {P : Program} {t : TypeId} (h5 : Five Is) (ht : P.underlying t = some (.slice T)) {i : TypeInfo} (hi : P.info? T = some i) (hs : i.size = 5) (h : GL T Is W g c n F) (hr : n < c) {g1 c1 : Nat} {vs : Array Value} (h1 : W.heap[g1]? = some (.cells vs T (0, 0))) {x : Cx} (hx : Is W (.agg vs) x) :
    ∃ W', (∀ ty, (Builtin.append_ #[t, t] ty #[.slice (some ⟨g, 0, none⟩) n c, .slice (some ⟨g1, 0, none⟩) 1 c1]).run P W = .ok (.slice (some ⟨g, 0, none⟩) (n + 1) c) W') ∧ But W W' g ∧ Ext W W' ∧ GL T Is W' g c (n + 1) (upf F n x) := by
  obtain ⟨hn, cs, k1, k2, k3, k4, k6⟩ := h
  obtain ⟨vs', e, v5, vone, vodd⟩ := h5.agg hx
  injection e with e
  subst e
  have hbut := But.setRow W g (cs.toList.take (n * 5) ++ vs.toList ++ cs.toList.drop (n * 5 + 5)).toArray
  have hext := hbut.ext k1 k4
  have hcell := setRow_heap W g cs (cs.toList.take (n * 5) ++ vs.toList ++ cs.toList.drop (n * 5 + 5)).toArray _ _ k1
  refine ⟨_, fun ty => ?_, hbut, hext, by omega, _, hcell, ?_, ?_, ?_, ?_⟩
  · have := run_append_room W t ty T i ht hi g n c cs k1 ⟨g1, 0, none⟩ 1 c1 vs.toList (by simp [hs, v5]) (fun j u hu => by
      have hadd : (⟨g1, 0, none⟩ : Addr).add j = ⟨g1, j, none⟩ := by unfold Addr.add; split <;> simp_all
      rw [hadd, cell_of_row W g1 _ vs _ (0, 0) h1]
      simpa using hu) (fun u hu => Array.all_eq_true_iff_forall_mem.1 vone u (by simpa using hu)) (by omega) (by simp [hs, v5]; omega)
    simpa only [hs, Array.length_toList, v5] using this
  · simp [v5, k2]; omega
  · refine one_mem fun v hv => ?_
    simp only [List.mem_append] at hv
    rcases hv with (hv | hv) | hv
    · exact ⟨cs, k3, List.mem_of_mem_take hv⟩
    · exact ⟨vs, vone, hv⟩
    · exact ⟨cs, k3, List.mem_of_mem_drop hv⟩
  · refine odd_mem fun v hv => ?_
    simp only [List.mem_append] at hv
    rcases hv with (hv | hv) | hv
    · exact ⟨cs, k4, List.mem_of_mem_take hv⟩
    · exact ⟨vs, vodd, hv⟩
    · exact ⟨cs, k4, List.mem_of_mem_drop hv⟩
  · have e : (cs.toList.take (n * 5) ++ vs.toList ++ cs.toList.drop (n * 5 + 5)).toArray = (cs.toList.take (n * 5)).toArray ++ vs ++ (cs.toList.drop (n * 5 + 5)).toArray := by
      apply Array.ext'
      simp
    obtain ⟨W', hW'⟩ : ∃ W', W' = W.setRow g (cs.toList.take (n * 5) ++ vs.toList ++ cs.toList.drop (n * 5 + 5)).toArray := ⟨_, rfl⟩
    rw [← hW'] at hext ⊢
    rw [e]
    refine gl_next (by simp [k2]; omega) v5 (fun j hj => ?_) (h5.ext hx hext)
    have e2 : five (cs.toList.take (n * 5)).toArray j = five cs j := by
      unfold five
      congr 1
      apply Array.ext_getElem?
      intro i
      rw [Array.getElem?_extract, Array.getElem?_extract]
      have hl : (cs.toList.take (n * 5)).toArray.size = 5 * n := by simp [k2]; omega
      by_cases hi5 : i < 5
      · rw [if_pos (by omega), if_pos (by omega)]
        simp only [List.getElem?_toArray]
        rw [List.getElem?_take_of_lt (by omega)]
        simp
      · rw [if_neg (by omega), if_neg (by omega)]
    rw [e2]
    exact h5.ext (k6 j hj) hext
theorem gl_grow {P : Program} {t : TypeId} (h5 : Five Is) (ht : P.underlying t = some (.slice T)) {i : TypeInfo} {z : Array Value} (hi : P.info? T = some i) (hs : i.size = 5) (hz : i.zero = some (.agg z)) (hbt : i.bytes ≤ 200) (z5 : z.size = 5) (z1 : z.all (·.oneCell') = true) (zo : oddB z = true) (hsm : n < 1000000000)
    (h : GL T Is W g c n F) (hr : ¬ n < c) {g1 c1 : Nat} {vs : Array Value} (h1 : W.heap[g1]? = some (.cells vs T (0, 0))) {x : Cx} (hx : Is W (.agg vs) x) :
    ∃ W' c', (∀ ty, (Builtin.append_ #[t, t] ty #[.slice (some ⟨g, 0, none⟩) n c, .slice (some ⟨g1, 0, none⟩) 1 c1]).run P W = .ok (.slice (some ⟨W.heap.size, 0, none⟩) (n + 1) c') W') ∧ Below W.heap.size W W' ∧ GL T Is W' W.heap.size c' (n + 1) (upf F n x) := by
  obtain ⟨hn, cs, k1, k2, k3, k4, k6⟩ := h
  obtain rfl : n = c := by omega
  obtain ⟨vs', e, v5, vone, vodd⟩ := h5.agg hx
  injection e with e
  subst e
  have hcell : ∀ (b : Nat) (ds : Array Value), W.heap[b]? = some (.cells ds T (0, 0)) → ∀ j u, ds.toList[j]? = some u → W.cell? ((⟨b, 0, none⟩ : Addr).add j) = some u := fun b ds hb j u hu => by
    have hadd : (⟨b, 0, none⟩ : Addr).add j = ⟨b, j, none⟩ := by unfold Addr.add; split <;> simp_all
    rw [hadd, cell_of_row W b _ ds _ (0, 0) hb]
    simpa using hu
  have hb : Below W.heap.size W (W.drew.alloc (.cells (cs.toList.toArray ++ vs.toList.toArray ++ Builtin.zeroCells (Value.agg z).cells (grownCap W (n + 1) n T - (n + 1))) T)) := ((Below.refl _ _).drew).alloc (Nat.le_refl _) _
  have hge := grownCap_ge W (n + 1) n T
  refine ⟨_, grownCap W (n + 1) n T, fun ty => run_append_grow W t ty T i (.agg z) ht hi hz ⟨g, 0, none⟩ n n cs.toList (by simp [hs, k2]; omega) (hcell g cs k1) ⟨g1, 0, none⟩ 1 c1 vs.toList (by simp [hs, v5]) (hcell g1 vs h1) (by omega) (by omega) (growslice_fits (by omega) ?_), hb, hge, _, heap_alloc_new W.drew _, ?_, ?_, ?_, ?_⟩
  · have : (n + 1) * i.bytes ≤ 1000000000 * 200 := Nat.mul_le_mul (by omega) hbt
    omega
  · simp [size_zeroCells, v5, k2, Value.cells, z5]; omega
  · simp only [Array.toArray_toList]
    exact one_app (one_app k3 vone) (one_sub z1 (zero_sub z (by omega) _))
  · simp only [Array.toArray_toList]
    exact odd_app (odd_app k4 vodd) (odd_sub zo (zero_sub z (by omega) _))
  · simp only [Array.toArray_toList]
    exact gl_next k2 v5 (fun j hj => h5.ext (k6 j hj) (Ext.of_below hb)) (h5.ext hx (Ext.of_below hb))
end
end Go.Proofs.YtlljeccfhmojnaaGreatDoor
