/- Copying words into a row; walks of add and sub. -/
import Derived.Deep.OwnRows
import Derived.Laws.CopyOwn
import Derived.Test.YtlljeccfhmojnaaGreatDoorG02
set_option linter.unusedSimpArgs false
set_option linter.unusedVariables false
namespace Go.Proofs.YtlljeccfhmojnaaGreatDoor
open Go.RowKit

/-- f with the first k words of f' from off on. -/
def cpy (f : Nat → Nat) (off : Nat) (f' : Nat → Nat) (k : Nat) : Nat → Nat := fun j => if off ≤ j ∧ j < off + k then f' (j - off) else f j

theorem info_u32 : (Tryz.prog.info? 101).map (·.size) = some 1 := by kernel_rfl

theorem setRow_grown (w : World) (g : Nat) (cs : Array Value) : w.grownBy (w.setRow g cs) (some g) :=
  ⟨rfl, rfl, rfl, by simp [World.setRow], fun k _ hk => by
    show (w.heap.modify g _)[k]? = _
    rw [Array.getElem?_modify, if_neg (fun e => hk (by rw [e]))]⟩

theorem copy_run (w : World) (g off dn dc sn sc m k : Nat) (A : Option Addr) (f f' : Nat → Nat) (hr : Row w g m f) (hw : Wn w A k f') (hk : k = min sn dn) (hfit : off + k ≤ m) :
    ∃ w', (Builtin.copy_ #[23, 23] 3 #[.slice (some ⟨g, off, none⟩) dn dc, .slice A sn sc]).run Tryz.prog w = .ok (.int .i64 (k : Int)) w' ∧
      Row w' g m (cpy f off f' k) ∧ w.grownBy w' (some g) := by
  rcases Nat.eq_zero_or_pos k with h0 | h0
  · subst h0
    refine ⟨w, ?_, hr.congr fun j _ => by unfold cpy; rw [if_neg (by omega)], grown_refl _ _⟩
    exact run_copy_none (P := Tryz.prog) w 23 23 3 101 _ A dn dc sn sc Tryz.underlying23 info_u32 hk.symm
  obtain ⟨cs, hg, hsz, hc⟩ := hr
  obtain ⟨b, o2, rfl, hlt, hcell⟩ := hw h0
  have hlen : ((List.range k).map fun j => Value.int .u32 (f' j : Int)).length = k := by simp
  have hrun := run_copy_row Tryz.prog w 23 23 3 101 g off dn dc ⟨b, o2, none⟩ sn sc cs 101 ((List.range k).map fun j => Value.int .u32 (f' j : Int)) Tryz.underlying23 info_u32 hg (by rw [hlen]; exact hk) ?_ (by rw [hlen]; omega) ?_
  · rw [hlen] at hrun
    refine ⟨_, hrun, ⟨_, setRow_heap w g _ _ _ _ hg, ?_, fun j hj => ?_⟩, setRow_grown _ _ _⟩
    · simp; omega
    · rw [List.getElem?_toArray]
      unfold cpy
      by_cases h1 : j < off
      · rw [List.append_assoc, List.getElem?_append_left (by simp; omega), List.getElem?_take, if_pos h1, if_neg (by omega)]
        simpa using hc j hj
      · rw [List.append_assoc, List.getElem?_append_right (by simp; omega)]
        have e1 : (cs.toList.take off).length = off := by simp; omega
        rw [e1]
        by_cases h2 : j < off + k
        · rw [List.getElem?_append_left (by rw [hlen]; omega), List.getElem?_map, List.getElem?_range (by omega), if_pos (by omega)]
          rfl
        · rw [List.getElem?_append_right (by rw [hlen]; omega), hlen, List.getElem?_drop, if_neg (by omega)]
          rw [show off + k + (j - off - k) = j by omega]
          simpa using hc j hj
  · intro j v hv
    rw [List.getElem?_map] at hv
    have hj : j < k := by
      rcases Nat.lt_or_ge j k with h1 | h1
      · exact h1
      · rw [List.getElem?_eq_none (by simpa using h1)] at hv; cases hv
    rw [List.getElem?_range hj] at hv
    cases hv
    rw [Addr.add_lit]
    exact hcell j (by omega)
  · intro v hv
    obtain ⟨j, _, rfl⟩ := List.mem_map.1 hv
    rfl

/-- A new row of n words that are 0. -/
def zrow (n : Nat) : Obj := .cells (madeCells #[.int .u32 0] n) 101

theorem info_u32z : (Tryz.prog.info? 101).map (fun i => (i.zero, i.size, i.bytes)) = some (some (.int .u32 0), 1, 4) := by kernel_rfl

theorem make_nat (n : Nat) (hn : n ≤ 1099511627776) (w : World) : (Instr.makeSlice 23 (.int .i64 (n : Int)) (.int .i64 (n : Int))).run Tryz.prog w = .ok (.slice (some ⟨w.heap.size, 0, none⟩) n n) (w.alloc (zrow n)) :=
  run_make_row' 23 101 (.int .u32 0) 4 Tryz.underlying23 info_u32z rfl .i64 .i64 n (by omega) (by omega) w
theorem make_nat1 (n : Nat) (hn : n < 1099511627776) (w : World) : (Instr.makeSlice 23 (.int .i64 ((n : Int) + 1)) (.int .i64 ((n : Int) + 1))).run Tryz.prog w = .ok (.slice (some ⟨w.heap.size, 0, none⟩) (n + 1) (n + 1)) (w.alloc (zrow (n + 1))) :=
  make_nat (n + 1) (by omega) w

theorem Row.zrow (w : World) (n : Nat) : Row (w.alloc (zrow n)) w.heap.size n (fun _ => 0) := Row.new w (.int .u32 0) rfl n
theorem Wd_zero (n : Nat) : Wd (fun _ => 0) n := fun _ _ => show (0 : Nat) < 4294967296 by omega

theorem cpy_zero {f' : Nat → Nat} {k : Nat} (h : Wd f' k) (n : Nat) : Wd (cpy (fun _ => 0) 0 f' k) n := fun j _ => by
  unfold cpy
  split
  · exact h _ (by omega)
  · show (0 : Nat) < 4294967296; omega
theorem vs_cpy_zero {f' : Nat → Nat} {k n : Nat} (hk : k ≤ n) : vs (cpy (fun _ => 0) 0 f' k) n = vs f' k := by
  rw [vs_drop hk (fun j h1 h2 => by unfold cpy; rw [if_neg (by omega)])]
  exact vs_congr fun j hj => by unfold cpy; rw [if_pos (by omega), Nat.sub_zero]


set_option maxRecDepth 100000 in
theorem add_ge (v u : Value) (x y : Nat) (w : World) (hv : IsNat w v x) (hu : IsNat w u y) (hl : wl y ≤ wl x) (hn : wl x < 1099511627776) (h0 : 0 < wl y) :
    Calls Tryz.prog 123 #[v, u] w (RetNat w (x + y)) := by
  have hsum : vs (dg x) (wl x) + vs (dg y) (wl y) < 4294967296 ^ (wl x + 1) := by
    rw [vs_dg_wl, vs_dg_wl]
    have h1 := lt_wl x
    have h2 := Nat.lt_of_lt_of_le (lt_wl y) (pow_mono (show wl y ≤ wl x by omega))
    rw [Nat.pow_succ]
    generalize 4294967296 ^ wl x = p at *
    omega
  have hfin : vs (dg x) (wl x) + vs (dg y) (wl y) = x + y := by rw [vs_dg_wl, vs_dg_wl]
  have hws := Wd_dg y (wl y)
  have hwl := Wd_dg x (wl x)
  have hsL := Lib.hid (hv.below (Below.refl _ w))
  have hsU := Lib.hid (hu.below (Below.refl _ w))
  obtain ⟨A, c, rfl, hc, hw⟩ := hv
  obtain ⟨A', c', rfl, hc', hw'⟩ := hu
  have H := Lib.hid hw
  have H' := Lib.hid hw'
  have HF := Lib.hid hfin
  have HS := Lib.hid hsum
  have HW := Lib.hid hws
  have HWL := Lib.hid hwl
  clear hw hw' hfin hsum hws hwl hsL hsU
  have hmk := make_nat1 (wl x) hn
  have hz0 : (((wl y : Nat) : Int) == 0) = false := by simp; omega
  generalize hnL : wl x = nL at *
  generalize hnS : wl y = nS at *
  clear hnL hnS
  obtain ⟨w1, hcp, hr1, hg1⟩ := copy_run (w.alloc (zrow (nL + 1))) w.heap.size 0 (nL + 1) (nL + 1) nL c (nL + 1) nL A (fun _ => 0) (dg x) (Row.zrow w (nL + 1)) (H.out.below (below_alloc _ _)) (by omega) (by omega)
  have hb1 : Below w.heap.size w w1 := (below_alloc w _).grown hg1 (by simp) (fun k hk => by cases hk; exact Nat.le_refl _)
  go_enter Tryz.func123, Tryz.ntmps123
  go_wp2_with fail
  have HR := Lib.hid hr1
  have HB := Lib.hid hb1
  clear hr1 hb1 hg1
  refine (increase_any w.heap.size 0 (nL + 1) (nL + 1) (nL + 1) (cpy (fun _ => 0) 0 (dg x) nL) A' nS c' (dg y) w1 HR.out (cpy_zero HWL.out _) (by omega) (H'.out.below HB.out) HW.out ?_ (by omega) ?_ (by omega)).mono ?_
  · intro _ a ha
    obtain ⟨b, o, rfl, hlt, _⟩ := H'.out h0
    cases ha
    simp; omega
  · have e1 := vs_cpy_zero (f' := dg x) (k := nL) (n := nL + 1) (by omega)
    simp only [Nat.zero_add]
    rw [e1]
    exact HS.out
  rintro e w2 ⟨rfl, f2, hr2, hf2, _, hv2, hg2⟩
  have e1 := vs_cpy_zero (f' := dg x) (k := nL) (n := nL + 1) (by omega)
  simp only [Nat.zero_add] at hv2
  rw [e1, HF.out] at hv2
  have HV := Lib.hid hv2
  have HR2 := Lib.hid hr2
  have HG := Lib.hid hg2
  clear hv2 hr2 hg2 e1
  go_wp2_with fail
  refine (trim_nat _ _ _ f2 _ HR2.out.wn0 hf2 (by omega) (by omega)).mono ?_
  rintro e w3 ⟨vv, rfl, hvv, rfl⟩
  have HVV := Lib.hid hvv
  clear hvv
  go_wp2
  go_ret
  exact ⟨vv, rfl, by rw [← HV.out]; exact HVV.out, HB.out.grown HG.out HB.out.size (fun k hk => by cases hk; exact Nat.le_refl _)⟩

set_option maxRecDepth 100000 in
theorem add_lt (v u : Value) (x y : Nat) (w : World) (hv : IsNat w v x) (hu : IsNat w u y) (hl : wl x < wl y) (hn : wl y < 1099511627776) (h0 : 0 < wl x) :
    Calls Tryz.prog 123 #[v, u] w (RetNat w (x + y)) := by
  have hsum : vs (dg y) (wl y) + vs (dg x) (wl x) < 4294967296 ^ (wl y + 1) := by
    rw [vs_dg_wl, vs_dg_wl]
    have h1 := lt_wl y
    have h2 := Nat.lt_of_lt_of_le (lt_wl x) (pow_mono (show wl x ≤ wl y by omega))
    rw [Nat.pow_succ]
    generalize 4294967296 ^ wl y = p at *
    omega
  have hfin : vs (dg y) (wl y) + vs (dg x) (wl x) = x + y := by simp only [vs_dg_wl, Nat.add_comm]
  have hws := Wd_dg x (wl x)
  have hwl := Wd_dg y (wl y)
  have hsL := Lib.hid (hv.below (Below.refl _ w))
  have hsU := Lib.hid (hu.below (Below.refl _ w))
  obtain ⟨A, c, rfl, hc, hw⟩ := hv
  obtain ⟨A', c', rfl, hc', hw'⟩ := hu
  have H := Lib.hid hw'
  have H' := Lib.hid hw
  have HF := Lib.hid hfin
  have HS := Lib.hid hsum
  have HW := Lib.hid hws
  have HWL := Lib.hid hwl
  clear hw hw' hfin hsum hws hwl hsL hsU
  have hmk := make_nat1 (wl y) hn
  have hz0 : (((wl x : Nat) : Int) == 0) = false := by simp; omega
  generalize hnL : wl y = nL at *
  generalize hnS : wl x = nS at *
  clear hnL hnS
  obtain ⟨w1, hcp, hr1, hg1⟩ := copy_run (w.alloc (zrow (nL + 1))) w.heap.size 0 (nL + 1) (nL + 1) nL c' (nL + 1) nL A' (fun _ => 0) (dg y) (Row.zrow w (nL + 1)) (H.out.below (below_alloc _ _)) (by omega) (by omega)
  have hb1 : Below w.heap.size w w1 := (below_alloc w _).grown hg1 (by simp) (fun k hk => by cases hk; exact Nat.le_refl _)
  go_enter Tryz.func123, Tryz.ntmps123
  go_wp2_with fail
  have HR := Lib.hid hr1
  have HB := Lib.hid hb1
  clear hr1 hb1 hg1
  refine (increase_any w.heap.size 0 (nL + 1) (nL + 1) (nL + 1) (cpy (fun _ => 0) 0 (dg y) nL) A nS c (dg x) w1 HR.out (cpy_zero HWL.out _) (by omega) (H'.out.below HB.out) HW.out ?_ (by omega) ?_ (by omega)).mono ?_
  · intro _ a ha
    obtain ⟨b, o, rfl, hlt, _⟩ := H'.out h0
    cases ha
    simp; omega
  · have e1 := vs_cpy_zero (f' := dg y) (k := nL) (n := nL + 1) (by omega)
    simp only [Nat.zero_add]
    rw [e1]
    exact HS.out
  rintro e w2 ⟨rfl, f2, hr2, hf2, _, hv2, hg2⟩
  have e1 := vs_cpy_zero (f' := dg y) (k := nL) (n := nL + 1) (by omega)
  simp only [Nat.zero_add] at hv2
  rw [e1, HF.out] at hv2
  have HV := Lib.hid hv2
  have HR2 := Lib.hid hr2
  have HG := Lib.hid hg2
  clear hv2 hr2 hg2 e1
  go_wp2_with fail
  refine (trim_nat _ _ _ f2 _ HR2.out.wn0 hf2 (by omega) (by omega)).mono ?_
  rintro e w3 ⟨vv, rfl, hvv, rfl⟩
  have HVV := Lib.hid hvv
  clear hvv
  go_wp2
  go_ret
  exact ⟨vv, rfl, by rw [← HV.out]; exact HVV.out, HB.out.grown HG.out HB.out.size (fun k hk => by cases hk; exact Nat.le_refl _)⟩


theorem add_any (v u : Value) (x y : Nat) (w : World) (hv : IsNat w v x) (hu : IsNat w u y) (hn : wl x < 1099511627776) (hm : wl y < 1099511627776) :
    Calls Tryz.prog 123 #[v, u] w (RetNat w (x + y)) := by
  rcases Nat.lt_or_ge (wl x) (wl y) with hl | hl
  · rcases Nat.eq_zero_or_pos (wl x) with h0 | h0
    · obtain rfl := wl_eq_zero.1 h0
      have HU := Lib.hid hu
      obtain ⟨A, c, rfl, hc, hw⟩ := hv
      obtain ⟨A', c', rfl, hc', hw'⟩ := hu
      rw [wl_zero] at *
      clear hw hw' h0
      have hlt : (0 : Int) < ((wl y : Nat) : Int) := by omega
      generalize hly : wl y = ly at *
      clear hly
      go_enter Tryz.func123, Tryz.ntmps123
      go_wp2
      go_ret
      exact ⟨_, rfl, by rw [Nat.zero_add]; exact HU.out, Below.refl _ _⟩
    · exact add_lt v u x y w hv hu hl hm h0
  · rcases Nat.eq_zero_or_pos (wl y) with h0 | h0
    · obtain rfl := wl_eq_zero.1 h0
      have HV := Lib.hid hv
      obtain ⟨A, c, rfl, hc, hw⟩ := hv
      obtain ⟨A', c', rfl, hc', hw'⟩ := hu
      rw [wl_zero] at *
      clear hw hw' h0 hl
      generalize hlx : wl x = lx at *
      clear hlx
      go_enter Tryz.func123, Tryz.ntmps123
      go_wp2
      go_ret
      exact ⟨_, rfl, HV.out, Below.refl _ _⟩
    · exact add_ge v u x y w hv hu hl hn h0
end Go.Proofs.YtlljeccfhmojnaaGreatDoor
set_option linter.unusedSimpArgs false
set_option linter.unusedVariables false
namespace Go.Proofs.YtlljeccfhmojnaaGreatDoor
open Go.RowKit

theorem sub_step {a c t b d y b' x P : Nat} (h1 : a + t = c + b * P) (h2 : d + y + b = x + b' * 4294967296) : a + d * P + (t + y * P) = c + x * P + b' * (P * 4294967296) := by
  grind

theorem sub_step0 {a c t b d b' x P : Nat} (h1 : a + t = c + b * P) (h2 : d + 0 + b = x + b' * 4294967296) : a + d * P + t = c + x * P + b' * (P * 4294967296) := by
  grind

theorem wd_upd_succ {f : Nat → Nat} {k x : Nat} (h : Wd f k) (hx : x < 4294967296) : Wd (upd f k x) (k + 1) := fun j hj => by
  unfold upd
  split
  · exact hx
  · exact h j (by omega)

theorem vs_upd_succ (f : Nat → Nat) (k x : Nat) : vs (upd f k x) (k + 1) = vs f k + x * 4294967296 ^ k := by
  rw [vs_succ, vs_upd_ge _ _ (Nat.le_refl k), upd_same]

set_option maxRecDepth 100000 in
theorem sub_any (v u : Value) (x y : Nat) (w : World) (hv : IsNat w v x) (hu : IsNat w u y) (hle : y ≤ x) (hn : wl x < 1099511627776) :
    Calls Tryz.prog 124 #[v, u] w (RetNat w (x - y)) := by
  rcases Nat.eq_zero_or_pos (wl y) with h0 | h0
  · obtain rfl := wl_eq_zero.1 h0
    have HV := Lib.hid hv
    clear hv
    obtain ⟨A', c', rfl, hc', hw'⟩ := hu
    rw [wl_zero] at *
    clear hw' h0
    go_enter Tryz.func124, Tryz.ntmps124
    go_wp2
    go_ret
    exact ⟨v, rfl, HV.out, Below.refl _ _⟩
  have hnl := wl_mono hle
  have hX := vs_dg_wl x
  have hY := vs_dg_wl y
  have hfx := Wd_dg x (wl x)
  have hfy := Wd_dg y (wl y)
  obtain ⟨A, c, rfl, hc, hw⟩ := hv
  obtain ⟨A', c', rfl, hc', hw'⟩ := hu
  have H := Lib.hid hw
  have H' := Lib.hid hw'
  have HX := Lib.hid hX
  have HY := Lib.hid hY
  clear hw hw' hX hY
  have hmk := make_nat (wl x) (by omega)
  have hz0 : (((wl y : Nat) : Int) == 0) = false := by simp; omega
  generalize hnL : wl x = nL at *
  generalize hnS : wl y = nS at *
  clear hnL hnS
  go_enter Tryz.func124, Tryz.ntmps124
  go_wp2_with fail
  go_loopw [6, 19] (fun cv i wr => ∃ k b : Nat, k ≤ nS ∧ i = .int .i64 k ∧ cv = .int .u32 b ∧ b ≤ 1 ∧ ∃ f, Row wr w.heap.size nL f ∧ Wd f k ∧
      vs f k + vs (dg y) k = vs (dg x) k + b * 4294967296 ^ k ∧ Below w.heap.size w wr) (fun _ i _ => nS - (intOf i).toNat)
  case atStart => exact ⟨0, 0, by omega, rfl, rfl, by omega, _, Row.zrow w nL, fun j hj => by omega, by simp [vs_zero], below_alloc _ _⟩
  case round =>
    obtain ⟨k, b, hk, rfl, rfl, hb1, f, hrow, hfw, hv, hg⟩ := hrel
    have HV := Lib.hid hv; clear hv
    have HG := Lib.hid hg; clear hg
    have HRO := Lib.hid hrow; clear hrow
    by_cases hlt : k < nS
    · obtain ⟨g1, o1, rfl, hb, hc1⟩ := (H.out.below HG.out) (by omega)
      obtain ⟨g2, o2, rfl, hb', hc2⟩ := (H'.out.below HG.out) (by omega)
      have hcell := hc1 k (by omega)
      have hcell' := hc2 k (by omega)
      have hz := HRO.out.cell (j := k) (by omega)
      have hzf := HRO.out.frozen k
      clear hc1 hc2
      go_wp2_with (go_at_call 155; refine (sub32_any _ _ _ _ (dg_lt _ _) (dg_lt _ _) hb1).mono ?_; rintro e w' ⟨s, kk, rfl, hs, hs1, hkk, rfl⟩; have HS := Lib.hid hs; clear hs)
      go_roundw
      case rel => exact ⟨k + 1, kk, by omega, by go_num, rfl, hkk, upd f k s, HRO.out.set_ (by omega) s, wd_upd_succ hfw hs1, by rw [vs_upd_succ, vs_succ, vs_succ, Nat.pow_succ]; exact sub_step HV.out HS.out, HG.out.setCell (Nat.le_refl _) _⟩
      case measure => simp [intOf]; omega
    · obtain rfl : k = nS := by omega
      go_wp2_with fail
      go_loopw [6, 9] (fun cv i wr => ∃ k2 b : Nat, k ≤ k2 ∧ k2 ≤ nL ∧ i = .int .i64 k2 ∧ cv = .int .u32 b ∧ b ≤ 1 ∧ ∃ f, Row wr w.heap.size nL f ∧ Wd f k2 ∧
          vs f k2 + vs (dg y) k = vs (dg x) k2 + b * 4294967296 ^ k2 ∧ Below w.heap.size w wr) (fun _ i _ => nL - (intOf i).toNat)
      case atStart => exact ⟨k, b, by omega, by omega, rfl, rfl, hb1, f, HRO.out, hfw, HV.out, HG.out⟩
      case round =>
        clear HV HG HRO hfw hb1 hlt
        obtain ⟨k2, b, hk1, hk2, rfl, rfl, hb1, f, hrow, hfw, hv, hg⟩ := hrel
        have HV := Lib.hid hv; clear hv
        have HG := Lib.hid hg; clear hg
        have HRO := Lib.hid hrow; clear hrow
        by_cases hlt2 : k2 < nL
        · obtain ⟨g1, o1, rfl, hb, hc1⟩ := (H.out.below HG.out) (by omega)
          have hcell := hc1 k2 (by omega)
          have hz := HRO.out.cell (j := k2) (by omega)
          have hzf := HRO.out.frozen k2
          clear hc1
          go_wp2_with (go_at_call 155; refine (sub32_any _ 0 _ _ (dg_lt _ _) (by omega) hb1).mono ?_; rintro e w' ⟨s, kk, rfl, hs, hs1, hkk, rfl⟩; have HS := Lib.hid hs; clear hs)
          go_roundw
          case rel => exact ⟨k2 + 1, kk, by omega, by omega, by go_num, rfl, hkk, upd f k2 s, HRO.out.set_ (by omega) s, wd_upd_succ hfw hs1, by rw [vs_upd_succ, vs_succ, Nat.pow_succ]; exact sub_step0 HV.out HS.out, HG.out.setCell (Nat.le_refl _) _⟩
          case measure => simp [intOf]; omega
        · obtain rfl : k2 = nL := by omega
          have hv := HV.out
          rw [HX.out, HY.out] at hv
          have hfl := vs_lt hfw
          obtain rfl : b = 0 := by
            rcases (show b = 0 ∨ b = 1 by omega) with h | h
            · exact h
            · subst h; omega
          have he : vs f k2 = x - y := by omega
          have HE := Lib.hid he
          clear he
          clear hv hfl
          go_wp2_with fail
          refine (trim_nat _ _ _ f _ HRO.out.wn0 hfw (by omega) (by omega)).mono ?_
          rintro e w3 ⟨vv, rfl, hvv, rfl⟩
          have HVV := Lib.hid hvv
          clear hvv
          go_wp2
          go_ret
          exact ⟨vv, rfl, by rw [← HE.out]; exact HVV.out, HG.out⟩
end Go.Proofs.YtlljeccfhmojnaaGreatDoor
